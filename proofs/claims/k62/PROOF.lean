import PyProof.Rows.All
import Wide.All
import OpenK.AllK
import Wide.FinOn
import Lean
import PyProof.EqAt
import PyProof.EqKinds
import PyProof.TupleCall
import PySem.Challenge.RW_tiercask_k62_whole_traced
set_option Elab.async false
set_option linter.all false
set_option maxRecDepth 100000
set_option genSizeOf false
set_option maxHeartbeats 4000000
set_option exponentiation.threshold 100000
namespace L2
open PySem PySem.Spec PyProof.Rows
noncomputable abbrev Key := Sum Int Str
noncomputable def keyIs : Key -> Value -> Bool
 | .inl k, v => Value.isInt k v
 | .inr x, v => Value.isStrOf x v
noncomputable def keyH (w : World) : Key -> Int
 | .inl k => hashInt k
 | .inr x => hashStr w x
theorem keyIs_shape : ∀ {k : Key} {v : Value}, keyIs k v = true -> (∃ i t, k = Sum.inl i /\ v = Value.int i t) \/ (∃ x t, k = Sum.inr x /\ v = Value.str x t)
 | .inl i, v, h => by
  obtain ⟨t, e⟩ := Value.isInt_shape (k := i) (v := v) h
  exact .inl ⟨i, t, rfl, e⟩
 | .inr x, v, h => by
  obtain ⟨t, e⟩ := Value.isStrOf_shape (x := x) (v := v) h
  exact .inr ⟨x, t, rfl, e⟩
theorem keyIs_int (i : Int) (t : Tok) : keyIs (.inl i) (.int i t) = true := by simp [keyIs, Value.isInt]
theorem keyIs_str (x : Str) (t : Tok) : keyIs (.inr x) (.str x t) = true := by simp [keyIs, Value.isStrOf]
theorem key_ll (a b : Int) : decide ((Sum.inl a : Key) = Sum.inl b) = (a == b) := by
 by_cases e : a = b
 ·subst e; simp
 ·have h : ¬ (Sum.inl a : Key) = Sum.inl b := fun q => e (Sum.inl.inj q)
  rw [decide_eq_false h]
  exact (beq_eq_false_iff_ne.mpr e).symm
theorem key_rr (a b : Str) : decide ((Sum.inr a : Key) = Sum.inr b) = decide (a = b) := by
 by_cases e : a = b
 ·subst e; simp
 ·have h : ¬ (Sum.inr a : Key) = Sum.inr b := fun q => e (Sum.inr.inj q)
  rw [decide_eq_false h, decide_eq_false e]
theorem key_lr (a : Int) (b : Str) : decide ((Sum.inl a : Key) = Sum.inr b) = false := decide_eq_false (fun q => nomatch q)
theorem key_rl (a : Str) (b : Int) : decide ((Sum.inr a : Key) = Sum.inl b) = false := decide_eq_false (fun q => nomatch q)
noncomputable def mixKind (prog : Program) (w : World) : PySem.KeyKind prog w Key where
 is := keyIs
 hash := keyH w
 inj := fun v a b ha hb => by
  rcases keyIs_shape ha with ⟨i, t, rfl, rfl⟩ | ⟨x, t, rfl, rfl⟩
  ·rcases keyIs_shape hb with ⟨j, u, rfl, e⟩ | ⟨y, u, rfl, e⟩
   ·injection e with e1 _; rw [e1]
   ·exact nomatch e
  ·rcases keyIs_shape hb with ⟨j, u, rfl, e⟩ | ⟨y, u, rfl, e⟩
   ·exact nomatch e
   ·injection e with e1 _; rw [e1]
 byValue := fun k v h => by
  rcases keyIs_shape h with ⟨i, t, rfl, rfl⟩ | ⟨x, t, rfl, rfl⟩ <;> rfl
 pyHash := fun hv h => by
  rcases keyIs_shape hv with ⟨i, t, rfl, rfl⟩ | ⟨x, t, rfl, rfl⟩
  ·exact wpAny_pyHash_int h
  ·exact wpAny_pyHash_str h
 eqBool := fun hu hv h => by
  rcases keyIs_shape hu with ⟨i, t, rfl, rfl⟩ | ⟨x, t, rfl, rfl⟩
  ·rcases keyIs_shape hv with ⟨j, u, rfl, rfl⟩ | ⟨y, u, rfl, rfl⟩
   ·rw [key_ll] at h; exact wpAny_eqBool_int h
   ·rw [key_lr] at h; exact SeqAt.EqAt.int_str i t y u _ _ _ _ h
  ·rcases keyIs_shape hv with ⟨j, u, rfl, rfl⟩ | ⟨y, u, rfl, rfl⟩
   ·rw [key_rl] at h; exact SeqAt.EqAt.str_int x t j u _ _ _ _ h
   ·rw [key_rr] at h; exact wpAny_eqBool_str h
 «strs» := fun k x t v h => by
  rcases keyIs_shape h with ⟨i, u, rfl, e⟩ | ⟨y, u, rfl, e⟩
  ·exact nomatch e
  ·injection e with e1 _
   subst e1
   cases v <;> rfl
theorem mixKind_int (prog : Program) (w : World) (i : Int) (t : Tok) : (mixKind prog w).is (.inl i) (.int i t) = true := keyIs_int i t
theorem mixKind_str (prog : Program) (w : World) (x : Str) (t : Tok) : (mixKind prog w).is (.inr x) (.str x t) = true := keyIs_str x t
end L2
namespace L2
open PySem PySem.Spec PyProof.Rows
inductive V where
 | non | bl (b : Bool) | int (i : Int) | str (x : Str) | byt (b : Array UInt8) | flt (b : UInt64) | ref (a : Addr) | ty (n : String)
 deriving DecidableEq
noncomputable def RelV : V -> Value -> Prop
 | .non, u => u = Value.none
 | .bl b, u => u = Value.bool b
 | .int i, u => ∃ t, u = Value.int i t
 | .str x, u => ∃ t, u = Value.str x t
 | .byt b, u => ∃ t, u = Value.bytes b t
 | .flt b, u => ∃ t, u = Value.float b t
 | .ref a, u => u = Value.ref a
 | .ty n, u => u = Value.type n
noncomputable abbrev Vals : List V -> List Value -> Prop := Paired RelV
theorem Vals.length {xs : List V} {us : List Value} (r : Vals xs us) : xs.length = us.length := Paired.length r
theorem Vals.get : ∀ {xs : List V} {us : List Value} {i : Nat} {x : V}, Vals xs us -> xs[i]? = some x -> ∃ u, us[i]? = some u /\ RelV x u
 | _, _, _, _, .nil, e => by simp at e
 | _, _, 0, _, .cons r _, e => by simp at e; subst e; exact ⟨_, rfl, r⟩
 | _, _, i + 1, x, .cons _ t, e => by
  obtain ⟨u, h1, h2⟩ := Vals.get (i := i) (x := x) t (by simpa using e)
  exact ⟨u, by simpa using h1, h2⟩
theorem Vals.append : ∀ {xs ys : List V} {us ws : List Value}, Vals xs us -> Vals ys ws -> Vals (xs ++ ys) (us ++ ws)
 | _, _, _, _, .nil, s => s
 | _, _, _, _, .cons r t, s => .cons r (Vals.append t s)
theorem Vals.take : ∀ {xs : List V} {us : List Value} (n : Nat), Vals xs us -> Vals (xs.take n) (us.take n)
 | _, _, 0, _ => .nil
 | _, _, _ + 1, .nil => .nil
 | _, _, n + 1, .cons r t => .cons r (Vals.take n t)
theorem Vals.drop : ∀ {xs : List V} {us : List Value} (n : Nat), Vals xs us -> Vals (xs.drop n) (us.drop n)
 | _, _, 0, r => r
 | _, _, _ + 1, .nil => .nil
 | _, _, n + 1, .cons _ t => Vals.drop n t
noncomputable def RelO : Option V -> Option Value -> Prop
 | some v, some u => RelV v u
 | none, none => True
 | _, _ => False
noncomputable def KV {κ : Type} : List (κ × V) -> List (κ × Value) -> Prop := Paired fun (p : κ × V) (q : κ × Value) => p.1 = q.1 /\ RelV p.2 q.2
noncomputable def kV : Key -> V
 | .inl i => .int i
 | .inr x => .str x
inductive HO where
 | lst (xs : List V)
 | tup (xs : List V)
 | dK (kvs : List (Key × V)) | dT (kvs : List (List Key × V))
 | set (S : Int -> Bool) (n : Nat)
 | ins (C dx : Addr) (fs : List (Str × V))
 | own (x : Addr)
 | xd (fs : List (Str × V))
 | met (f x : Addr)
 | rng (lo hi : Int)
 | frz (o : Obj) (u : HO)
 | tbl (ps : Array Value)
 | ext (φ : Heap -> Prop)
noncomputable abbrev Hp := Addr -> Option HO
noncomputable def upd (H : Hp) (a : Addr) (o : HO) : Hp := fun b => if b = a then some o else H b
theorem upd_same {H : Hp} {a : Addr} {o : HO} : upd H a o a = some o := by unfold upd; rw [if_pos rfl]
theorem upd_ne {H : Hp} {a b : Addr} {o : HO} (h : b ≠ a) : upd H a o b = H b := by unfold upd; rw [if_neg h]
theorem ne_of {H : Hp} {a b : Addr} {o u : HO} (h : H a = some o) (h' : H b = some u) (d : o ≠ u) : a ≠ b := by
 intro e; subst e; rw [h] at h'; exact d (Option.some.inj h')
theorem ne_of_none {H : Hp} {a b : Addr} {o : HO} (h : H a = some o) (h' : H b = none) : a ≠ b := by
 intro e; subst e; rw [h] at h'; cases h'
section
variable (P : Program) (w : World)
noncomputable def ObjOk (H : Hp) (h : Heap) (a : Addr) : HO -> Prop
 | .lst xs => xs.length <= sizeLine /\ ∃ (its : List Value) (n : Nat), Vals xs its /\ h.get? a = some { cls := .type "list", data := .seq its.toArray n }
 | .tup xs => xs.length <= sizeLine /\ ∃ its : List Value, Vals xs its /\ IsTup h a its.toArray
 | .dK kvs => kvs.length <= sizeLine /\ (a == sysModules) = false /\ ∃ vs, KV kvs vs /\ h.DictOf (mixKind P w) a vs
 | .dT kvs => kvs.length <= sizeLine /\ (a == sysModules) = false /\ ∃ xs : List (List Key × Addr × Value),
   Paired (fun (p : List Key × V) (q : List Key × Addr × Value) => p.1 = q.1 /\ H q.2.1 = some (.tup (p.1.map kV)) /\ RelV p.2 q.2.2) kvs xs /\
   ∃ o es ep, h.get? a = some o /\ o.ExactDict /\ o.data = .dict es ep /\ es.toList = xs.map (entryOfKey (tupleKind (mixKind P w))) /\ (xs.map (·.1)).Nodup
 | .set S n => h.SetOf (intKind P w) a S n
 | .ins C dx fs => H dx = some (.own a) /\ fs.length <= 1000 /\ dx ≠ a /\ h.get? a = some (PySem.W.instObj C dx) /\
   ∃ mA, h.Ns1 dx mA /\ (∀ f, RelO (fs.lookup f) (mA f)) /\ PySem.Within mA (fs.map (·.1))
 | .own _ => ∃ o, h.get? a = some o
 | .xd fs => ∃ mA, h.Ns1 a mA /\ ∀ f, RelO (fs.lookup f) (mA f)
 | .rng lo hi => ∃ t u v, h.get? a = some { cls := .type "range", data := .fields #[.int lo t, .int hi u, .int 1 v] }
 | .frz o u => h.get? a = some o /\ ObjOk H h a u
 | .tbl ps => h.get? a = some { cls := .none, data := .fields ps }
 | .met f x => h.get? a = some (PySem.W.methodObj (.ref f) (.ref x))
 | .ext φ => φ h /\ (∃ o, h.get? a = some o) /\ ∀ h1 h2 : Heap, φ h1 -> (∀ o, h1.get? a = some o -> h2.get? a = some o) -> φ h2
noncomputable def HOk (H : Hp) (h : Heap) : Prop := ∀ a o, H a = some o -> ObjOk P w H h a o
end
section
variable {P : Program} {w : World} {H H' : Hp} {h h' : Heap} {a : Addr} {o : HO}
theorem ObjOk.lt (x : ObjOk P w H h a o) : a < h.objs.size := by
 cases o with
 | lst xs => obtain ⟨_, _, _, _, e⟩ := x; exact Heap.lt_size e
 | tup xs => obtain ⟨_, _, _, p⟩ := x; exact p.lt
 | dK kvs => obtain ⟨_, _, _, _, o, _, _, e, _⟩ := x; exact Heap.lt_size e
 | dT kvs => obtain ⟨_, _, _, _, o, _, _, e, _⟩ := x; exact Heap.lt_size e
 | set S n => obtain ⟨o, _, _, _, e, _⟩ := x; exact Heap.lt_size e
 | ins C dx fs => obtain ⟨_, _, _, e, _⟩ := x; exact Heap.lt_size e
 | own y => obtain ⟨_, e⟩ := x; exact Heap.lt_size e
 | xd fs => obtain ⟨_, ⟨_, _, _, e, _⟩, _⟩ := x; exact Heap.lt_size e
 | rng lo hi => obtain ⟨_, _, _, e⟩ := x; exact Heap.lt_size e
 | frz ob u => obtain ⟨e, _⟩ := x; exact Heap.lt_size e
 | tbl ps => exact Heap.lt_size (show h.get? a = some _ from x)
 | met f y => exact Heap.lt_size (show h.get? a = some _ from x)
 | ext φ => obtain ⟨_, ⟨_, e⟩, _⟩ := x; exact Heap.lt_size e
theorem Paired.mapP {α β : Type} {F G : α -> β -> Prop} : ∀ {l₁ : List α} {l₂ : List β}, Paired F l₁ l₂ -> (∀ a b, F a b -> G a b) -> Paired G l₁ l₂
 | _, _, .nil, _ => .nil
 | _, _, .cons r t, f => .cons (f _ _ r) (Paired.mapP t f)
theorem ObjOk.stay (x : ObjOk P w H h a o) (k : ∀ b u, (b = a \/ H b = some (.own a)) -> h.get? b = some u -> h'.get? b = some u)
  (ho : ∀ b, H b = some (.own a) -> H' b = some (.own a)) (ht : ∀ b xs, H b = some (.tup xs) -> H' b = some (.tup xs)) : ObjOk P w H' h' a o := by
 induction o with
 | lst xs => obtain ⟨z, its, n, r, e⟩ := x; exact ⟨z, its, n, r, k _ _ (.inl rfl) e⟩
 | tup xs => obtain ⟨z, its, r, ob, e, c⟩ := x; exact ⟨z, its, r, ob, k _ _ (.inl rfl) e, c⟩
 | dK kvs => obtain ⟨z, y, vs, r, ob, es, ep, e, c⟩ := x; exact ⟨z, y, vs, r, ob, es, ep, k _ _ (.inl rfl) e, c⟩
 | dT kvs =>
  obtain ⟨z, y, xs, r, ob, es, ep, e, c⟩ := x
  exact ⟨z, y, xs, Paired.mapP r fun p q z => ⟨z.1, ht _ _ z.2.1, z.2.2⟩, ob, es, ep, k _ _ (.inl rfl) e, c⟩
 | set S n => obtain ⟨ob, es, ep, t, e, c⟩ := x; exact ⟨ob, es, ep, t, k _ _ (.inl rfl) e, c⟩
 | ins C dx fs =>
  obtain ⟨d, z, ne, e, mA, ⟨od, es, ep, e2, c⟩, r⟩ := x
  exact ⟨ho _ d, z, ne, k _ _ (.inl rfl) e, mA, ⟨od, es, ep, k _ _ (.inr d) e2, c⟩, r⟩
 | own y => obtain ⟨ob, e⟩ := x; exact ⟨ob, k _ _ (.inl rfl) e⟩
 | xd fs => obtain ⟨mA, ⟨od, es, ep, e, c⟩, r⟩ := x; exact ⟨mA, ⟨od, es, ep, k _ _ (.inl rfl) e, c⟩, r⟩
 | rng lo hi => obtain ⟨t, u, v, e⟩ := x; exact ⟨t, u, v, k _ _ (.inl rfl) e⟩
 | frz ob u ih => obtain ⟨e, q⟩ := x; exact ⟨k _ _ (.inl rfl) e, ih q⟩
 | tbl ps =>
  have e : h.get? a = some { cls := .none, data := .fields ps } := x
  show h'.get? a = some { cls := .none, data := .fields ps }
  exact k a _ (.inl rfl) e
 | met f y =>
  have e : h.get? a = some (PySem.W.methodObj (.ref f) (.ref y)) := x
  show h'.get? a = some (PySem.W.methodObj (.ref f) (.ref y))
  exact k a _ (.inl rfl) e
 | ext φ => obtain ⟨p, ⟨o, e⟩, st⟩ := x; exact ⟨st _ _ p fun o q => k _ _ (.inl rfl) q, ⟨o, k _ _ (.inl rfl) e⟩, st⟩
theorem HOk.lt (x : HOk P w H h) (e : H a = some o) : a < h.objs.size := (x a o e).lt
theorem HOk.fresh (x : HOk P w H h) (e : h.objs.size <= a) : H a = none := by
 cases q : H a with
 | none => rfl
 | some u => exact absurd (Nat.lt_of_lt_of_le (x.lt q) e) (Nat.lt_irrefl _)
theorem HOk.kept (x : HOk P w H h) (k : ∀ b u, h.get? b = some u -> h'.get? b = some u) : HOk P w H h' := fun a o e =>
 (x a o e).stay (fun b u _ q => k b u q) (fun _ q => q) fun _ _ q => q
theorem HOk.laid (x : HOk P w H h) (k : ∀ b u, h.get? b = some u -> h'.get? b = some u) (hp : h.objs.size <= a) (new : ObjOk P w (upd H a o) h' a o) : HOk P w (upd H a o) h' := fun b u e => by
 have hn := x.fresh hp
 by_cases hb : b = a
 ·subst hb; rw [upd_same] at e; cases e; exact new
 ·rw [upd_ne hb] at e
  exact (x b u e).stay (fun c v _ q => k c v q) (fun c q => by rw [upd_ne (ne_of_none q hn)]; exact q) fun c xs q => by rw [upd_ne (ne_of_none q hn)]; exact q
end
noncomputable def Rd (H : Hp) (a : Addr) (u : HO) : Prop := H a = some u \/ ∃ o, H a = some (.frz o u)
theorem Rd.ok {P : Program} {w : World} {H : Hp} {h : Heap} {a : Addr} {u : HO} (r : Rd H a u) (x : HOk P w H h) : ObjOk P w H h a u := by
 rcases r with r | ⟨o, r⟩
 ·exact x a u r
 ·obtain ⟨_, q⟩ := x a _ r
  exact q
noncomputable def Mut : Option HO -> Prop
 | some (.lst _) => True
 | some (.dK _) => True
 | some (.dT _) => True
 | some (.set _ _) => True
 | some (.ins _ _ _) => True
 | some (.ext _) => True
 | _ => False
section
variable {P : Program} {w : World} {H : Hp} {h h' : Heap} {x e : Addr} {o' : HO}
theorem HOk.write (ok : HOk P w H h) (mu : Mut (H x)) (he : e = x \/ H e = some (.own x)) (k : ∀ b u, b ≠ e -> h.get? b = some u -> h'.get? b = some u) (heo : ∃ u, h'.get? e = some u)
  (new : ObjOk P w (upd H x o') h' x o') : HOk P w (upd H x o') h' := fun b u q => by
 have nown : ∀ c y, H c = some (.own y) -> c ≠ x := fun c y r z => by subst z; rw [r] at mu; exact mu
 have ntup : ∀ c xs, H c = some (.tup xs) -> c ≠ x := fun c xs r z => by subst z; rw [r] at mu; exact mu
 by_cases hb : b = x
 ·subst hb; rw [upd_same] at q; cases q; exact new
 ·rw [upd_ne hb] at q
  by_cases hbe : b = e
  ·have q' : H b = some (.own x) := by
    rcases he with z | z
    ·exact absurd (hbe.trans z) hb
    ·rw [hbe]; exact z
   rw [q] at q'; cases q'
   obtain ⟨v, hv⟩ := heo
   exact ⟨v, by rw [hbe]; exact hv⟩
  ·refine (ok b u q).stay (fun c v hc r => k c v ?_ r) (fun c r => by rw [upd_ne (nown c b r)]; exact r) fun c xs r => by rw [upd_ne (ntup c xs r)]; exact r
   rcases hc with rfl | hc
   ·exact hbe
   ·rintro rfl
    rcases he with z | z
    ·exact nown c b hc z
    ·rw [hc] at z; cases z; exact hb rfl
end
structure Un (fs ex : List Addr) (H H' : Hp) (h h' : Heap) : Prop where
 keep : ∀ b o, h.get? b = some o -> H b = none -> b ∉ fs -> b ∉ ex -> h'.get? b = some o
 slot : ∀ b o, h.get? b = some o -> H b = none -> b ∈ fs -> b ∉ ex -> ∃ sl, h'.get? b = some { o with slots := sl }
 free : ∀ b o, h.get? b = some o -> H b = none -> b ∉ ex -> H' b = none
 there : ∀ b o, h.get? b = some o -> b ∉ ex -> ∃ o', h'.get? b = some o'
 tups : ∀ b xs, H b = some (.tup xs) -> H' b = some (.tup xs)
 frzs : ∀ b o u, H b = some (.frz o u) -> H' b = some (.frz o u)
 tbls : ∀ b ps, H b = some (.tbl ps) -> ∃ more, H' b = some (.tbl (ps ++ more))
section
variable {fs fs' ex ex' : List Addr} {H H1 H2 : Hp} {h h1 h2 h' : Heap} {a x e : Addr} {o : HO}
theorem Un.any (u : Un fs ex H H1 h h1) {b : Addr} {ob : Obj} (q : h.get? b = some ob) (n : H b = none) (hx : b ∉ ex) : ∃ sl, h1.get? b = some { ob with slots := sl } := by
 by_cases hb : b ∈ fs
 ·exact u.slot b ob q n hb hx
 ·exact ⟨ob.slots, u.keep b ob q n hb hx⟩
theorem Un.kept (k : ∀ b u, h.get? b = some u -> h'.get? b = some u) : Un fs ex H H h h' :=
 ⟨fun b ob q _ _ _ => k b ob q, fun b ob q _ _ _ => ⟨ob.slots, k b ob q⟩, fun _ _ _ n _ => n, fun b ob q _ => ⟨ob, k b ob q⟩, fun _ _ q => q, fun _ _ _ q => q, fun _ ps q => ⟨#[], by rw [q]; simp⟩⟩
theorem Un.refl : Un fs ex H H h h := Un.kept fun _ _ q => q
theorem Un.laid (k : ∀ b u, h.get? b = some u -> h'.get? b = some u) (hp : h.objs.size <= a) (hn : H a = none) : Un fs ex H (upd H a o) h h' where
 keep := fun b u q _ _ _ => k b u q
 slot := fun b u q _ _ _ => ⟨u.slots, k b u q⟩
 free := fun b u q n _ => by rw [upd_ne (Nat.ne_of_lt (Nat.lt_of_lt_of_le (Heap.lt_size q) hp))]; exact n
 there := fun b u q _ => ⟨u, k b u q⟩
 tups := fun b xs q => by rw [upd_ne (ne_of_none q hn)]; exact q
 frzs := fun b u xs q => by rw [upd_ne (ne_of_none q hn)]; exact q
 tbls := fun b ps q => ⟨#[], by rw [upd_ne (ne_of_none q hn), q]; simp⟩
theorem Un.write (mu : Mut (H x)) (he : e = x \/ H e = some (.own x)) (k : ∀ b u, b ≠ e -> h.get? b = some u -> h'.get? b = some u) (heo : ∃ u, h'.get? e = some u) : Un fs ex H (upd H x o) h h' := by
 have hx : ∀ b, H b = none -> b ≠ x := fun b n z => by subst z; rw [n] at mu; exact mu
 have hb : ∀ b, H b = none -> b ≠ e := fun b n z => by
  subst z
  rcases he with r | r
  ·exact hx b n r
  ·rw [n] at r; cases r
 have hm : ∀ b u, H b = some u -> ¬ Mut (some u) -> b ≠ x := fun b u q nm z => by subst z; rw [q] at mu; exact nm mu
 refine ⟨fun b u q n _ _ => k b u (hb b n) q, fun b u q n _ _ => ⟨u.slots, k b u (hb b n) q⟩, fun b u q n _ => by rw [upd_ne (hx b n)]; exact n, fun b u q _ => ?_,
  fun b xs q => by rw [upd_ne (hm b _ q fun z => z)]; exact q, fun b u xs q => by rw [upd_ne (hm b _ q fun z => z)]; exact q, fun b ps q => ⟨#[], by rw [upd_ne (hm b _ q fun z => z), q]; simp⟩⟩
 by_cases hbe : b = e
 ·subst hbe; exact heo
 ·exact ⟨u, k b u hbe q⟩
end
noncomputable def trk (h : Heap) (H : Hp) : List Addr := (List.range h.objs.size).filter fun a => (H a).isSome
noncomputable def hidT (h : Heap) (H : Hp) : Heap := PySem.W.hideAll h (trk h H)
theorem hidT_size (h : Heap) (H : Hp) : (hidT h H).objs.size = h.objs.size := PySem.W.hideAll_size _ _
theorem hidT_get {h : Heap} {H : Hp} {b : Addr} {o : Obj} (e : h.get? b = some o) (n : H b = none) : (hidT h H).get? b = some o :=
 PySem.W.hideAll_get _ e fun hm => by
  have q : (H b).isSome = true := (List.mem_filter.mp hm).2
  rw [n] at q; simp at q
theorem of_hidT {h : Heap} {H : Hp} {b : Addr} {o : Obj} (e : (hidT h H).get? b = some o) : h.get? b = some o /\ H b = none := by
 have e' : h.get? b = some o := PySem.W.of_hideAll (trk h H) e
 refine ⟨e', ?_⟩
 cases q : H b with
 | none => rfl
 | some x =>
  have hm : b ∈ trk h H := List.mem_filter.mpr ⟨List.mem_range.mpr (Heap.lt_size e'), by simp [q]⟩
  have z : (hidT h H).get? b = none := PySem.W.hideAll_none (trk h H) hm
  rw [z] at e; cases e
end L2
namespace L2
open PySem PySem.Spec PyProof.Rows
structure Mod (K : PySem.W.Frag) (mg : Str -> Option Value) (base : Heap) : Prop where
 kin : K.In base
 glob : base.Ns mainGlobals mg
 blt : ∃ mb, base.Ns builtinsNs mb /\ ∀ x : Str, x ≠ "__name__" -> mb x = bootBuiltins x
 nolimit : base.NoLimit
set_option genInjectivity false in
structure Cx where
 prog : Program
 w : World
 K : PySem.W.Frag
 mg : Str -> Option Value
 base : Heap
 A : Around
 N : List Str
 s₀ : Shared
 H₀ : Hp
 env : Env
 outer : List Env
 stack : List Env
 ex : List Addr
 fn : Str -> Bool
 calm : Bool
 pn : List (Addr × Obj)
 xe : Value -> Shared -> Prop
noncomputable def frs (l : List Env) : List Addr := l.filterMap (·.frame)
noncomputable abbrev Cx.fs (X : Cx) : List Addr := frs X.outer
noncomputable def Vis (sc : Scope) (x : Str) : Prop := sc.names.lookup x = some .local \/ sc.names.lookup x = some .cell \/ sc.names.lookup x = some .free
noncomputable def Loc (sc : Scope) (x : Str) : Prop := sc.names.lookup x = some .local \/ sc.names.lookup x = some .cell
noncomputable def Look (env : Env) (h : Heap) (m : Str -> Option Value) (x : Str) (u : Value) : Prop :=
 (env.kindOf x = some .local /\ m x = some u) \/ ((env.kindOf x = some .cell \/ env.kindOf x = some .free) /\ ∃ c, env.cells.lookup x = some c /\ h.IsCell c (some u))
structure Cx.Ok (X : Cx) : Prop where
 mod : Mod X.K X.mg X.base
 kind : X.env.scope.kind = .function
 glob : X.env.globals = mainGlobals
 blt : X.env.builtins = builtinsNs
 above : X.s₀.heap.objs.size <= X.env.locals
 inj : ∀ x y c, X.env.cells.lookup x = some c -> X.env.cells.lookup y = some c -> x = y
 has : ∀ x, (X.env.kindOf x = some .cell \/ X.env.kindOf x = some .free) -> ∃ c, X.env.cells.lookup x = some c
 cab : ∀ x c, X.fn x = true -> X.env.cells.lookup x = some c -> X.s₀.heap.objs.size <= c
 hd : X.calm = true -> X.A.handled = none
 frames : X.A.frames = some X.stack
 stk : X.stack = X.outer \/ (X.stack = X.env :: X.outer /\ X.env.frame = some X.env.locals)
 exf : ∀ b ∈ X.ex, b ≠ X.env.locals /\ ∀ x c, X.env.cells.lookup x = some c -> c ≠ b
 bs : ∀ b o, X.base.get? b = some o -> X.s₀.heap.get? b = some o /\ X.H₀ b = none
 bsz : X.base.objs.size <= X.s₀.heap.objs.size
 noex : ∀ b o, X.base.get? b = some o -> b ∉ X.ex
 exfs : ∀ b ∈ X.ex, b ∉ X.fs
 funs : X.s₀.heap.FunFrames X.base X.outer
 frf : ∀ b ∈ X.fs, X.H₀ b = none
structure Inv (X : Cx) (pins : List (Addr × Obj)) (σ : List (Option V)) (H : Hp) (s : Shared) : Prop where
 ok : X.Ok
 os : s.os = X.s₀.os
 bare : AllBare s.gens
 base : Un X.fs X.ex X.H₀ H X.s₀.heap s.heap
 loc : ∃ m, s.heap.Ns X.env.locals m /\ ∀ (i : Nat) (x : Str) (v : V), X.N[i]? = some x -> σ[i]? = some (some v) -> Vis X.env.scope x -> ∃ u, RelV v u /\ Look X.env s.heap m x u
 cell : ∀ x c, X.env.cells.lookup x = some c -> ∃ v, s.heap.IsCell c v
 free : H X.env.locals = none
 freeC : ∀ x c, X.env.cells.lookup x = some c -> H c = none
 pin : ∀ p ∈ X.pn ++ pins, s.heap.get? p.1 = some p.2 /\ H p.1 = none /\ p.1 ≠ X.env.locals /\ p.1 ∉ X.fs /\ ∀ v, p.2.data ≠ .cell v
 hok : HOk X.prog X.w H s.heap
 len : σ.length = X.N.length
section
variable {X : Cx} {pins : List (Addr × Obj)} {σ : List (Option V)} {H H' : Hp} {s : Shared} {h' : Heap}
theorem Cx.Ok.nofr (ok : X.Ok) {b : Addr} {o : Obj} (e : X.base.get? b = some o) : b ∉ X.fs := fun hb => by
 have := (ok.funs.mem hb).1
 rw [e] at this; cases this
theorem Inv.bs (I : Inv X pins σ H s) : ∀ b o, X.base.get? b = some o -> s.heap.get? b = some o /\ H b = none := fun b o e =>
 ⟨I.base.keep b o (I.ok.bs b o e).1 (I.ok.bs b o e).2 (I.ok.nofr e) (I.ok.noex b o e), I.base.free b o (I.ok.bs b o e).1 (I.ok.bs b o e).2 (I.ok.noex b o e)⟩
theorem Inv.bk (I : Inv X pins σ H s) : ∀ b o, X.base.get? b = some o -> s.heap.get? b = some o := fun b o e => (I.bs b o e).1
theorem Inv.mod (I : Inv X pins σ H s) : Mod X.K X.mg X.base := I.ok.mod
theorem Inv.kIn (I : Inv X pins σ H s) : X.K.In s.heap := I.ok.mod.kin.keeps I.bk
theorem Inv.lt (I : Inv X pins σ H s) : X.env.locals < s.heap.objs.size := let ⟨_, hn, _⟩ := I.loc; hn.lt
theorem Inv.sz (I : Inv X pins σ H s) : X.s₀.heap.objs.size <= s.heap.objs.size := Nat.le_trans I.ok.above (Nat.le_of_lt I.lt)
theorem Inv.nofs (I : Inv X pins σ H s) {a : Addr} (h : s.heap.objs.size <= a) : a ∉ X.fs := fun hb => by
 obtain ⟨_, o, ho, _⟩ := I.ok.funs.mem hb
 exact absurd (Nat.lt_of_lt_of_le (Heap.lt_size ho) (Nat.le_trans I.sz h)) (Nat.lt_irrefl _)
theorem Inv.cne (I : Inv X pins σ H s) : ∀ x c, X.env.cells.lookup x = some c -> c ≠ X.env.locals := fun x c e z => by
 obtain ⟨v, o, ho, hd⟩ := I.cell x c e
 obtain ⟨m, ⟨o', es, ep, ho', hd', _⟩, _⟩ := I.loc
 rw [z, ho'] at ho; cases ho; rw [hd'] at hd; cases hd
theorem Inv.funs (I : Inv X pins σ H s) : s.heap.FunFrames X.base X.outer := by
 have all : ∀ (l : List Env), (∀ b ∈ frs l, b ∈ X.fs) -> X.s₀.heap.FunFrames X.base l -> s.heap.FunFrames X.base l := by
  intro l
  induction l with
  | nil => intro _ _; trivial
  | cons env r ih =>
   intro hs hl
   obtain ⟨hk, ⟨L, o, hf, hn, ho, hd⟩, hr⟩ := hl
   have hL : L ∈ X.fs := hs L (by unfold frs; rw [List.filterMap_cons, hf]; exact List.mem_cons_self)
   obtain ⟨sl, e⟩ := I.base.slot L o ho (I.ok.frf L hL) hL fun z => I.ok.exfs L z hL
   exact ⟨hk, ⟨L, _, hf, hn, e, hd⟩, ih (fun b hb => hs b (by unfold frs; rw [List.filterMap_cons, hf]; exact List.mem_cons_of_mem _ hb)) hr⟩
 exact all X.outer (fun _ hb => hb) I.ok.funs
theorem Inv.stack (I : Inv X pins σ H s) : s.heap.FunFrames X.base X.stack := by
 rcases I.ok.stk with e | ⟨e, hf⟩
 ·rw [e]; exact I.funs
 ·rw [e]
  obtain ⟨m, hn, _⟩ := I.loc
  refine .cons (by rw [I.ok.kind]; decide) hf hn ?_ I.funs
  exact Heap.get?_none_of_le (Nat.le_trans I.ok.bsz I.ok.above)
theorem Inv.stkSub (I : Inv X pins σ H s) : ∀ b ∈ frs X.stack, b ∈ X.env.locals :: X.fs := fun b hb => by
 rcases I.ok.stk with e | ⟨e, hf⟩
 ·rw [e] at hb; exact List.mem_cons_of_mem _ hb
 ·rw [e] at hb
  unfold frs at hb
  rw [List.filterMap_cons, hf] at hb
  exact hb
theorem Inv.stkFree (I : Inv X pins σ H s) : ∀ b ∈ frs X.stack, H b = none := fun b hb => by
 rcases List.mem_cons.mp (I.stkSub b hb) with e | hb
 ·rw [e]; exact I.free
 ·obtain ⟨_, o, ho, _⟩ := I.ok.funs.mem hb
  exact I.base.free b o ho (I.ok.frf b hb) fun z => I.ok.exfs b z hb
theorem Inv.step {g' : Array GenState} {t' : Nat} {d' : Drawn} {ch : List Addr} (I : Inv X pins σ H s)
  (hch : ∀ b ∈ ch, (b ∈ X.ex \/ X.s₀.heap.objs.size <= b) /\ b ≠ X.env.locals /\ (∀ x c, X.env.cells.lookup x = some c -> c ≠ b) /\ ∀ p ∈ X.pn ++ pins, p.1 ≠ b)
  (keep : ∀ b o, b ≠ X.env.locals -> b ∉ X.fs -> b ∉ ch -> s.heap.get? b = some o -> H b = none -> h'.get? b = some o)
  (slot : ∀ b o, b ≠ X.env.locals -> b ∈ X.fs -> b ∉ ch -> s.heap.get? b = some o -> H b = none -> ∃ sl, h'.get? b = some { o with slots := sl }) (free : ∀ b o, b ∉ ch -> s.heap.get? b = some o -> H b = none -> H' b = none)
  (there : ∀ b o, b ∉ ch -> s.heap.get? b = some o -> ∃ o', h'.get? b = some o')
  (tups : ∀ b xs, H b = some (.tup xs) -> H' b = some (.tup xs)) (frzs : ∀ b o u, H b = some (.frz o u) -> H' b = some (.frz o u)) (tbls : ∀ b ps, H b = some (.tbl ps) -> ∃ more, H' b = some (.tbl (ps ++ more)))
  (ns : ∀ m, s.heap.Ns X.env.locals m -> h'.Ns X.env.locals m) (hok : HOk X.prog X.w H' h') (hg : AllBare g') :
  Inv X pins σ H' { s with heap := h', gens := g', drawn := d', toks := t' } := by
 have neL : ∀ b o, X.s₀.heap.get? b = some o -> b ≠ X.env.locals := fun b o e => Nat.ne_of_lt (Nat.lt_of_lt_of_le (Heap.lt_size e) I.ok.above)
 have neC : ∀ b o, X.s₀.heap.get? b = some o -> b ∉ X.ex -> b ∉ ch := fun b o e hx hb => by
  rcases (hch b hb).1 with z | z
  ·exact hx z
  ·exact absurd (Nat.lt_of_lt_of_le (Heap.lt_size e) z) (Nat.lt_irrefl _)
 have cellK : ∀ x c, X.env.cells.lookup x = some c -> ∀ v, s.heap.IsCell c v -> h'.IsCell c v := fun x c e v ⟨o, ho, hd⟩ => by
  have nch : c ∉ ch := fun z => (hch c z).2.2.1 x c e rfl
  by_cases hc : c ∈ X.fs
  ·obtain ⟨sl, q⟩ := slot c o (I.cne x c e) hc nch ho (I.freeC x c e)
   exact ⟨_, q, hd⟩
  ·exact ⟨o, keep c o (I.cne x c e) hc nch ho (I.freeC x c e), hd⟩
 refine ⟨I.ok, I.os, hg, ⟨fun b o e n hb hx => ?_, fun b o e n hb hx => ?_, fun b o e n hx => ?_, fun b o e hx => ?_, fun b xs e => tups b xs (I.base.tups b xs e), fun b o xs e => frzs b o xs (I.base.frzs b o xs e), fun b ps e => ?_⟩, ?_, fun x c e => ?_, ?_, fun x c e => ?_, fun p hp => ?_, hok, I.len⟩
 ·exact keep b o (neL b o e) hb (neC b o e hx) (I.base.keep b o e n hb hx) (I.base.free b o e n hx)
 ·obtain ⟨sl, e1⟩ := I.base.slot b o e n hb hx
  obtain ⟨sl', e2⟩ := slot b _ (neL b o e) hb (neC b o e hx) e1 (I.base.free b o e n hx)
  exact ⟨sl', e2⟩
 ·obtain ⟨o', e1⟩ := I.base.there b o e hx
  exact free b o' (neC b o e hx) e1 (I.base.free b o e n hx)
 ·obtain ⟨o', e1⟩ := I.base.there b o e hx
  exact there b o' (neC b o e hx) e1
 ·obtain ⟨m1, e1⟩ := I.base.tbls b ps e
  obtain ⟨m2, e2⟩ := tbls b _ e1
  exact ⟨m1 ++ m2, by rw [e2, Array.append_assoc]⟩
 ·obtain ⟨m, hn, hl⟩ := I.loc
  refine ⟨m, ns m hn, fun i x v e1 e2 e3 => ?_⟩
  obtain ⟨u, r, l⟩ := hl i x v e1 e2 e3
  refine ⟨u, r, ?_⟩
  rcases l with l | ⟨k, c, e, z⟩
  ·exact .inl l
  ·exact .inr ⟨k, c, e, cellK x c e _ z⟩
 ·obtain ⟨v, z⟩ := I.cell x c e
  exact ⟨v, cellK x c e v z⟩
 ·obtain ⟨m, ⟨o, _, _, ho, _⟩, _⟩ := I.loc
  exact free _ o (fun z => (hch _ z).2.1 rfl) ho I.free
 ·obtain ⟨v, o, ho, hd⟩ := I.cell x c e
  exact free c o (fun z => (hch c z).2.2.1 x c e rfl) ho (I.freeC x c e)
 ·obtain ⟨e, n, ne, nf, d⟩ := I.pin p hp
  have nch : p.1 ∉ ch := fun z => (hch p.1 z).2.2.2 p hp rfl
  exact ⟨keep p.1 p.2 ne nf nch e n, free p.1 p.2 nch e n, ne, nf, d⟩
theorem Inv.un {t' : Nat} (I : Inv X pins σ H s) (u : Un X.fs [] H H' s.heap h') (hok : HOk X.prog X.w H' h') : Inv X pins σ H' { s with heap := h', toks := t' } := by
 obtain ⟨m, ⟨o, es, ep, ho, r⟩, _⟩ := id I.loc
 obtain ⟨sl, hL⟩ := u.any ho I.free (by simp)
 exact I.step (g' := s.gens) (d' := s.drawn) (ch := []) (fun _ z => nomatch z) (fun b o _ hb _ e n => u.keep b o e n hb (by simp)) (fun b o _ hb _ e n => u.slot b o e n hb (by simp)) (fun b o _ e n => u.free b o e n (by simp)) (fun b o _ e => u.there b o e (by simp)) u.tups u.frzs u.tbls (fun m' hm => by
  obtain ⟨o', es', ep', ho', r'⟩ := hm
  rw [ho] at ho'; cases ho'
  exact ⟨_, es', ep', hL, r'⟩) hok I.bare
theorem Inv.call {g' : Array GenState} {t' : Nat} {d' : Drawn} {ch : List Addr} (I : Inv X pins σ H s) (u : Un (frs X.stack) ch H H' s.heap h') (hok : HOk X.prog X.w H' h') (hg : AllBare g')
  (hch : ∀ b ∈ ch, (b ∈ X.ex \/ X.s₀.heap.objs.size <= b) /\ b ≠ X.env.locals /\ (∀ x c, X.env.cells.lookup x = some c -> c ≠ b) /\ ∀ p ∈ X.pn ++ pins, p.1 ≠ b) :
  Inv X pins σ H' { s with heap := h', gens := g', drawn := d', toks := t' } := by
 obtain ⟨m, ⟨o, es, ep, ho, r⟩, _⟩ := id I.loc
 obtain ⟨sl, hL⟩ := u.any ho I.free fun z => (hch _ z).2.1 rfl
 exact I.step (ch := ch) hch (fun b o hL hb hc e n => u.keep b o e n (fun z => (List.mem_cons.mp (I.stkSub b z)).elim hL hb) hc) (fun b o _ _ hc e n => u.any e n hc) (fun b o hc e n => u.free b o e n hc) (fun b o hc e => u.there b o e hc) u.tups u.frzs u.tbls (fun m' hm => by
  obtain ⟨o', es', ep', ho', r'⟩ := hm
  rw [ho] at ho'; cases ho'
  exact ⟨_, es', ep', hL, r'⟩) hok hg
theorem Inv.turned {t' : Nat} {it : Addr} (I : Inv X pins σ H s) (k : ∀ b o, b ≠ it -> s.heap.get? b = some o -> h'.get? b = some o) (hn : H it = none) (hL : it ≠ X.env.locals)
  (h1 : it ∈ X.ex \/ X.s₀.heap.objs.size <= it) (h2 : ∀ x c, X.env.cells.lookup x = some c -> c ≠ it) (h3 : ∀ p ∈ X.pn ++ pins, p.1 ≠ it) : Inv X pins σ H { s with heap := h', toks := t' } := by
 have nit : ∀ b u, H b = some u -> b ≠ it := fun b u e z => by rw [z, hn] at e; cases e
 refine I.step (g' := s.gens) (d' := s.drawn) (ch := [it]) (fun b hb => ?_) (fun b o _ _ hc e _ => k b o (fun z => hc (by simp [z])) e) (fun b o _ _ hc e _ => ⟨o.slots, k b o (fun z => hc (by simp [z])) e⟩) (fun _ _ _ _ n => n)
  (fun b o hc e => ⟨o, k b o (fun z => hc (by simp [z])) e⟩) (fun _ _ e => e) (fun _ _ _ e => e) (fun b ps e => ⟨#[], by rw [e]; simp⟩) (fun m hm => ?_) (fun b u e => ?_) I.bare
 ·have e : b = it := by simpa using hb
  subst e
  exact ⟨h1, hL, h2, h3⟩
 ·obtain ⟨o, es, ep, ho, r⟩ := hm
  exact ⟨o, es, ep, k _ o (Ne.symm hL) ho, r⟩
 ·refine (I.hok b u e).stay (fun c v hc q => k c v ?_ q) (fun _ q => q) fun _ _ q => q
  rcases hc with z | z
  ·rw [z]; exact nit b u e
  ·exact nit c _ z
theorem Inv.tok (I : Inv X pins σ H s) (t : Nat) : Inv X pins σ H { s with toks := t } := I.un (h' := s.heap) (t' := t) Un.refl I.hok
theorem Inv.kept {t' : Nat} (I : Inv X pins σ H s) (k : ∀ b u, s.heap.get? b = some u -> h'.get? b = some u) : Inv X pins σ H { s with heap := h', toks := t' } := I.un (Un.kept k) (I.hok.kept k)
theorem Inv.laid {a : Addr} {o : HO} {t' : Nat} (I : Inv X pins σ H s) (k : ∀ b u, s.heap.get? b = some u -> h'.get? b = some u) (hp : s.heap.objs.size <= a) (new : ObjOk X.prog X.w (upd H a o) h' a o) :
  Inv X pins σ (upd H a o) { s with heap := h', toks := t' } := I.un (Un.laid k hp (I.hok.fresh hp)) (I.hok.laid k hp new)
theorem Inv.write {x e : Addr} {o : HO} {t' : Nat} (I : Inv X pins σ H s) (mu : Mut (H x)) (he : e = x \/ H e = some (.own x)) (k : ∀ b u, b ≠ e -> s.heap.get? b = some u -> h'.get? b = some u) (heo : ∃ u, h'.get? e = some u)
  (new : ObjOk X.prog X.w (upd H x o) h' x o) : Inv X pins σ (upd H x o) { s with heap := h', toks := t' } := I.un (Un.write mu he k heo) (I.hok.write mu he k heo new)
theorem Inv.pins_of {pins' : List (Addr × Obj)} (I : Inv X pins σ H s) (h : ∀ p ∈ pins', s.heap.get? p.1 = some p.2 /\ H p.1 = none /\ p.1 ≠ X.env.locals /\ p.1 ∉ X.fs /\ ∀ v, p.2.data ≠ .cell v) : Inv X pins' σ H s :=
 ⟨I.ok, I.os, I.bare, I.base, I.loc, I.cell, I.free, I.freeC, fun p hp => (List.mem_append.mp hp).elim (fun z => I.pin p (List.mem_append_left _ z)) (h p), I.hok, I.len⟩
theorem nodup_ix {N : List Str} (hN : N.Nodup) {i j : Nat} {x : Str} (a : N[i]? = some x) (b : N[j]? = some x) : i = j := by
 obtain ⟨h1, e1⟩ := List.getElem?_eq_some_iff.mp a
 obtain ⟨h2, e2⟩ := List.getElem?_eq_some_iff.mp b
 exact (List.getElem_inj hN).mp (e1.trans e2.symm)
theorem store_ok2 {M : Model} {A : Around} {E : Value -> Shared -> Prop} {i : Nat} {x : Str} {v : V} {u : Value} {Q : Unit -> Shared -> Prop} (I : Inv X pins σ H s) (hN : X.N.Nodup) (hi : X.N[i]? = some x) (hx : Loc X.env.scope x) (r : RelV v u)
  (h : ∀ s', Inv X pins (σ.set i (some v)) H s' -> (∃ a, Heap.SameBut a s.heap s'.heap /\ (a = X.env.locals \/ X.env.cells.lookup x = some a)) -> Q () s') (hf : X.fn x = true \/ X.env.scope.names.lookup x = some .local := by first | exact .inl rfl | exact .inr rfl | assumption) : wpAny M A (storeName X.env x u) Q E s := by
 obtain ⟨m, hn, hl⟩ := id I.loc
 have hcls : (X.env.scope.kind == .class || (X.env.scope.kind == .module && X.env.locals != X.env.globals)) = false := by rw [I.ok.kind]; rfl
 have hiσ : i < σ.length := by rw [I.len]; exact (List.getElem?_eq_some_iff.mp hi).1
 have cne := I.cne
 have tracked : ∀ {a : Addr} {h' : Heap}, (∃ o, s.heap.get? a = some o /\ H a = none) -> Heap.SameBut a s.heap h' -> HOk X.prog X.w H h' := fun {a h'} ha hs b ob e => by
  obtain ⟨_, _, hfree⟩ := ha
  refine (I.hok b ob e).stay (fun c w' hc q => (hs.2 c ?_).trans q) (fun _ q => q) fun _ _ q => q
  rintro rfl
  rcases hc with rfl | hc
  ·rw [hfree] at e; cases e
  ·rw [hfree] at hc; cases hc
 rcases hx with hk | hk
 ·refine wpAny_storeName_local hk hn (fun h' hn' hs => ?_) hcls
  obtain ⟨oL, _, _, hoL, _⟩ := id hn
  refine h _ ⟨I.ok, I.os, I.bare, ⟨fun b o e n hb hx => ?_, fun b o e n hb hx => ?_, I.base.free, fun b o e hx => ?_, I.base.tups, I.base.frzs, I.base.tbls⟩, ⟨_, hn', fun j y v' e1 e2 e3 => ?_⟩, fun y c e => ?_, I.free, I.freeC, fun p hp => ?_, tracked ⟨oL, hoL, I.free⟩ hs, by simpa using I.len⟩ ⟨_, hs, .inl rfl⟩
  ·exact (hs.2 b (Nat.ne_of_lt (Nat.lt_of_lt_of_le (Heap.lt_size e) I.ok.above))).trans (I.base.keep b o e n hb hx)
  ·obtain ⟨sl, e1⟩ := I.base.slot b o e n hb hx
   exact ⟨sl, (hs.2 b (Nat.ne_of_lt (Nat.lt_of_lt_of_le (Heap.lt_size e) I.ok.above))).trans e1⟩
  ·obtain ⟨o', e1⟩ := I.base.there b o e hx
   exact ⟨o', (hs.2 b (Nat.ne_of_lt (Nat.lt_of_lt_of_le (Heap.lt_size e) I.ok.above))).trans e1⟩
  ·by_cases hj : j = i
   ·subst hj
    rw [hi] at e1; cases e1
    rw [List.getElem?_set_self hiσ] at e2
    cases e2
    exact ⟨u, r, .inl ⟨hk, by simp⟩⟩
   ·rw [List.getElem?_set_ne (Ne.symm hj)] at e2
    obtain ⟨u', r', q⟩ := hl j y v' e1 e2 e3
    refine ⟨u', r', ?_⟩
    rcases q with ⟨k, e⟩ | ⟨k, c, e, z⟩
    ·refine .inl ⟨k, ?_⟩
     have : y ≠ x := fun e => hj (nodup_ix hN e1 (e ▸ hi))
     simp [this, e]
    ·exact .inr ⟨k, c, e, z.sameBut hs (cne y c e)⟩
  ·obtain ⟨w', z⟩ := I.cell y c e
   exact ⟨w', z.sameBut hs (cne y c e)⟩
  ·obtain ⟨e, n, ne, nf, d⟩ := I.pin p hp
   exact ⟨(hs.2 p.1 ne).trans e, n, ne, nf, d⟩
 ·have hfn : X.fn x = true := by
   rcases hf with z | z
   ·exact z
   ·rw [z] at hk; cases hk
  obtain ⟨c, hc⟩ := I.ok.has x (.inl hk)
  obtain ⟨w', z⟩ := I.cell x c hc
  refine wpAny_storeName_cell I.ok.kind hk hc z (fun h' hc' hs => ?_)
  obtain ⟨oc, hoc, hocd⟩ := id z
  refine h { s with heap := h' } ⟨I.ok, I.os, I.bare, ⟨fun b o e n hb hx => ?_, fun b o e n hb hx => ?_, I.base.free, fun b o e hx => ?_, I.base.tups, I.base.frzs, I.base.tbls⟩, ⟨m, hn.sameBut hs (Ne.symm (cne x c hc)), fun j y v' e1 e2 e3 => ?_⟩, fun y c' e => ?_, I.free, I.freeC, fun p hp => ?_, tracked ⟨oc, hoc, I.freeC x c hc⟩ hs, by simpa using I.len⟩ ⟨c, hs, .inr hc⟩
  ·exact (hs.2 b (Nat.ne_of_lt (Nat.lt_of_lt_of_le (Heap.lt_size e) (I.ok.cab x c hfn hc)))).trans (I.base.keep b o e n hb hx)
  ·obtain ⟨sl, e1⟩ := I.base.slot b o e n hb hx
   exact ⟨sl, (hs.2 b (Nat.ne_of_lt (Nat.lt_of_lt_of_le (Heap.lt_size e) (I.ok.cab x c hfn hc)))).trans e1⟩
  ·obtain ⟨o', e1⟩ := I.base.there b o e hx
   exact ⟨o', (hs.2 b (Nat.ne_of_lt (Nat.lt_of_lt_of_le (Heap.lt_size e) (I.ok.cab x c hfn hc)))).trans e1⟩
  ·by_cases hj : j = i
   ·subst hj
    rw [hi] at e1; cases e1
    rw [List.getElem?_set_self hiσ] at e2
    cases e2
    exact ⟨u, r, .inr ⟨.inl hk, c, hc, hc'⟩⟩
   ·rw [List.getElem?_set_ne (Ne.symm hj)] at e2
    obtain ⟨u', r', q⟩ := hl j y v' e1 e2 e3
    refine ⟨u', r', ?_⟩
    rcases q with q | ⟨k, c', e, z'⟩
    ·exact .inl q
    ·refine .inr ⟨k, c', e, z'.sameBut hs ?_⟩
     rintro rfl
     exact hj (nodup_ix hN e1 (I.ok.inj _ _ _ e hc ▸ hi))
  ·by_cases hcc : c' = c
   ·subst hcc; exact ⟨_, hc'⟩
   ·obtain ⟨w2, z2⟩ := I.cell y c' e
    exact ⟨w2, z2.sameBut hs hcc⟩
  ·obtain ⟨e, n, ne, nf, d⟩ := I.pin p hp
   refine ⟨(hs.2 p.1 ?_).trans e, n, ne, nf, d⟩
   intro q
   rw [q, hoc] at e
   have q' : oc = p.2 := Option.some.inj e
   exact d w' (by rw [<- q']; exact hocd)
theorem store_ok {M : Model} {A : Around} {E : Value -> Shared -> Prop} {i : Nat} {x : Str} {v : V} {u : Value} {Q : Unit -> Shared -> Prop} (I : Inv X pins σ H s) (hN : X.N.Nodup) (hi : X.N[i]? = some x) (hx : Loc X.env.scope x) (r : RelV v u)
  (h : ∀ s', Inv X pins (σ.set i (some v)) H s' -> Q () s') (hf : X.fn x = true \/ X.env.scope.names.lookup x = some .local := by first | exact .inl rfl | exact .inr rfl | assumption) : wpAny M A (storeName X.env x u) Q E s :=
 store_ok2 I hN hi hx r (fun s' I' _ => h s' I') hf
theorem Inv.call' {s' : Shared} {ch : List Addr} (I : Inv X pins σ H s) (ho : s'.os = s.os) (u : Un (frs X.stack) ch H H' s.heap s'.heap) (hok : HOk X.prog X.w H' s'.heap) (hg : AllBare s'.gens)
  (hch : ∀ b ∈ ch, (b ∈ X.ex \/ X.s₀.heap.objs.size <= b) /\ b ≠ X.env.locals /\ (∀ x c, X.env.cells.lookup x = some c -> c ≠ b) /\ ∀ p ∈ X.pn ++ pins, p.1 ≠ b) : Inv X pins σ H' s' := by
 obtain ⟨h', g', d', t', o'⟩ := s'
 have e : o' = s.os := ho
 subst e
 exact I.call (g' := g') (t' := t') (d' := d') u hok hg hch
end
noncomputable abbrev XK := Value -> Option Addr -> Hp -> Prop
noncomputable abbrev St := List (Option V)
noncomputable abbrev VK := V -> Hp -> Prop
noncomputable abbrev TE := St -> Hp -> VK -> Prop
noncomputable abbrev TT := St -> Hp -> (Bool -> Hp -> Prop) -> Prop
noncomputable abbrev TA := St -> Hp -> (List V -> Hp -> Prop) -> Prop
set_option genInjectivity false in
structure Ends where
 nx : St -> Hp -> Prop
 rt : VK
 bk : St -> Hp -> Prop := fun _ _ => False
 ct : St -> Hp -> Prop := fun _ _ => False
noncomputable abbrev TS := Ends -> St -> Hp -> Prop
noncomputable def EP (X : Cx) (pins : List (Addr × Obj)) (σ : St) (Q : VK) (u : Value) (s' : Shared) : Prop := ∃ v H', Inv X pins σ H' s' /\ RelV v u /\ Q v H'
noncomputable def TP (X : Cx) (pins : List (Addr × Obj)) (σ : St) (Q : Bool -> Hp -> Prop) (b : Bool) (s' : Shared) : Prop := ∃ H', Inv X pins σ H' s' /\ Q b H'
noncomputable def AP (X : Cx) (pins : List (Addr × Obj)) (σ : St) (Q : List V -> Hp -> Prop) (us : List Value) (s' : Shared) : Prop := ∃ vs H', Inv X pins σ H' s' /\ Vals vs us /\ Q vs H'
noncomputable def SP (X : Cx) (pins : List (Addr × Obj)) (D : Ends) (f : Flow) (s' : Shared) : Prop :=
 match f with
 | .next => ∃ σ' H', Inv X pins σ' H' s' /\ D.nx σ' H'
 | .brk => ∃ σ' H', Inv X pins σ' H' s' /\ D.bk σ' H'
 | .cont => ∃ σ' H', Inv X pins σ' H' s' /\ D.ct σ' H'
 | .ret u => ∃ v σ' H', Inv X pins σ' H' s' /\ RelV v u /\ D.rt v H'
noncomputable def PE (X : Cx) (e : Expr) (t : TE) : Prop :=
 ∀ (pins : List (Addr × Obj)) (s : Shared) (σ : St) (H : Hp) (Q : VK), Inv X pins σ H s -> t σ H Q -> wpAny (model X.prog X.w) X.A (eval e X.env) (EP X pins σ Q) X.xe s
noncomputable def PT (X : Cx) (e : Expr) (t : TT) : Prop :=
 ∀ (pins : List (Addr × Obj)) (s : Shared) (σ : St) (H : Hp) (Q : Bool -> Hp -> Prop), Inv X pins σ H s -> t σ H Q -> wpAny (model X.prog X.w) X.A (isTrue e X.env (eval e X.env)) (TP X pins σ Q) X.xe s
noncomputable def PW (X : Cx) (e : Expr) (t : TT) : Prop :=
 ∀ (whole : Sem Value) (pins : List (Addr × Obj)) (s : Shared) (σ : St) (H : Hp) (Q : Bool -> Hp -> Prop), Inv X pins σ H s -> t σ H Q -> wpAny (model X.prog X.w) X.A (isTrue e X.env whole) (TP X pins σ Q) X.xe s
theorem PW.pt {X : Cx} {e : Expr} {t : TT} (h : PW X e t) : PT X e t := h _
noncomputable def PA (X : Cx) (es : List Expr) (t : TA) : Prop :=
 ∀ (pos : Pos) (pins : List (Addr × Obj)) (s : Shared) (σ : St) (H : Hp) (Q : List V -> Hp -> Prop), Inv X pins σ H s -> t σ H Q -> wpAny (model X.prog X.w) X.A (spliced (backTo pos (starEach es X.env))) (AP X pins σ Q) X.xe s
noncomputable def PS (X : Cx) (st : Stmt) (t : TS) : Prop :=
 ∀ (pins : List (Addr × Obj)) (s : Shared) (σ : St) (H : Hp) (D : Ends), Inv X pins σ H s -> t D σ H -> wpAny (model X.prog X.w) X.A (exec st X.env) (SP X pins D) X.xe s
noncomputable def PSs (X : Cx) (st : List Stmt) (t : TS) : Prop :=
 ∀ (pins : List (Addr × Obj)) (s : Shared) (σ : St) (H : Hp) (D : Ends), Inv X pins σ H s -> t D σ H -> wpAny (model X.prog X.w) X.A (execs st X.env) (SP X pins D) X.xe s
theorem thn {α : Type} {t : Sem α} {Q Q' : α -> Shared -> Prop} {M : Model} {A : Around} {E : Value -> Shared -> Prop} {s : Shared} (h : wpAny M A t Q E s) (hQ : ∀ a s, Q a s -> Q' a s) : wpAny M A t Q' E s := wpAny_mono h hQ fun _ _ x => x
end L2
namespace L2
open PySem PySem.Spec PyProof.Rows
section
variable {X : Cx}
noncomputable def tVar (i : Nat) : TE := fun σ H Q => ∃ v, σ[i]? = some (some v) /\ Q v H
noncomputable def tC (v : V) : TE := fun _ H Q => Q v H
theorem pe_var {i : Nat} {x : Str} {pos : Pos} (hN : X.N[i]? = some x) (hv : Vis X.env.scope x) (hd : (x == ("__debug__" : Str)) = false := by decide) (hcd : (x == ("__classdict__" : Str)) = false := by decide) : PE X (.Name x pos) (tVar i) := by
 intro pins s σ H Q I h
 obtain ⟨v, e, h⟩ := h
 obtain ⟨m, hn, hl⟩ := I.loc
 obtain ⟨u, r, l⟩ := hl i x v hN e hv
 have fin : EP X pins σ Q u s := ⟨v, H, I, r, h⟩
 rcases l with ⟨hk, hm⟩ | ⟨hk, c, hc, hcell⟩
 ·exact wpAny_Name (wpAny_loadName_local I.ok.kind hk hn hm fin) hd
 ·rcases hk with hk | hk
  ·exact wpAny_Name (wpAny_loadName_cell I.ok.kind hk hc hcell fin) hd
  ·exact wpAny_Name (wpAny_loadName_free I.ok.kind hk hc hcell fin hcd) hd
theorem pe_int {i j pos} : PE X (.Constant (.int i) j pos) (tC (.int i)) := fun _ _ _ H _ I h => wpAny_Constant_int ⟨.int i, H, I.tok _, ⟨_, rfl⟩, h⟩
theorem pe_bl {b j pos} : PE X (.Constant (.bool b) j pos) (tC (.bl b)) := fun _ _ _ H _ I h => Constant_bool ⟨.bl b, H, I, rfl, h⟩
theorem pe_non {j pos} : PE X (.Constant .none j pos) (tC .non) := fun _ _ _ H _ I h => Constant_none ⟨.non, H, I, rfl, h⟩
theorem pe_str {x j pos} : PE X (.Constant (.str x) j pos) (tC (.str x)) := fun _ _ _ H _ I h => Calls.Constant_str ⟨.str x, H, I.tok _, ⟨_, rfl⟩, h⟩
noncomputable def Gl (X : Cx) (x : Str) : Prop := X.env.kindOf x = some .globalImplicit
theorem ld_glob {E : Value -> Shared -> Prop} {pins : List (Addr × Obj)} {s : Shared} {σ : St} {H : Hp} {x : Str} {u : Value} {pos : Pos} {Q : Value -> Shared -> Prop} (I : Inv X pins σ H s) (hg : Gl X x) (hm : X.mg x = some u) (h : Q u s)
  (hd : (x == ("__debug__" : Str)) = false := by decide) : wpAny (model X.prog X.w) X.A (eval (.Name x pos) X.env) Q E s :=
 Calls.Name_function_global I.ok.kind hg (Calls.loadGlobal_global (by rw [I.ok.glob]; exact I.mod.glob.keeps I.bk) hm h) hd
theorem ld_blt {E : Value -> Shared -> Prop} {pins : List (Addr × Obj)} {s : Shared} {σ : St} {H : Hp} {x : Str} {u : Value} {pos : Pos} {Q : Value -> Shared -> Prop} (I : Inv X pins σ H s) (hg : Gl X x) (hm : X.mg x = none) (hv : bootBuiltins x = some u) (h : Q u s)
  (hn : x ≠ "__name__" := by decide) (hd : (x == ("__debug__" : Str)) = false := by decide) : wpAny (model X.prog X.w) X.A (eval (.Name x pos) X.env) Q E s := by
 obtain ⟨mb, h1, h2⟩ := I.mod.blt
 exact Calls.Name_function_global I.ok.kind hg (Calls.loadGlobal_builtin (by rw [I.ok.glob]; exact I.mod.glob.keeps I.bk) hm (by rw [I.ok.blt]; exact h1.keeps I.bk) ((h2 x hn).trans hv) h) hd
theorem pe_bltn {x : Str} {v : V} {u : Value} {pos : Pos} (hg : Gl X x) (hm : X.mg x = none) (hv : bootBuiltins x = some u) (r : RelV v u) (hn : x ≠ "__name__" := by decide) (hd : (x == ("__debug__" : Str)) = false := by decide) : PE X (.Name x pos) (tC v) :=
 fun _ _ _ H _ I h => ld_blt I hg hm hv ⟨v, H, I, r, h⟩ hn hd
variable {a b : Expr} {ta tb : TE} {pos : Pos}
noncomputable def PC (X : Cx) (op : CmpOp) (a b : Expr) (t : TE) : Prop :=
 ∀ (pins : List (Addr × Obj)) (s : Shared) (σ : St) (H : Hp) (Q : VK), Inv X pins σ H s -> t σ H Q ->
  wpAny (model X.prog X.w) X.A (eval a X.env) (fun v s₁ => wpAny (model X.prog X.w) X.A (eval b X.env) (fun u s₂ => wpAny (model X.prog X.w) X.A (compareOp op v u) (EP X pins σ Q) X.xe s₂) X.xe s₁) X.xe s
noncomputable def tB (t : TE) : TT := fun σ H Q => t σ H fun x H1 => ∃ c, x = .bl c /\ Q c H1
theorem pt_cmp {op : CmpOp} {t : TE} (h : PC X op a b t) (h1 : behindInMarks op b = false := by first | exact nobehind _ (by decide) (by decide) | rfl) : PT X (.Compare a [op] [b] pos) (tB t) := by
 intro pins s σ H Q I hw
 refine wpAny_isTrue_Compare1 (thn (h pins s σ H _ I hw) fun v s1 h1 => thn h1 fun u s2 h2 => thn h2 fun c s3 ⟨x, H1, I1, r1, q1⟩ => ?_) h1
 obtain ⟨d, rfl, q⟩ := q1
 cases r1
 exact wpAny_truthy_bool ⟨H1, I1, q⟩
theorem pt_val {e : Expr} {t : TE} (h : PE X e t) (he : ∀ whole, isTrue e X.env whole = (do let v <- whole; standAt e.pos; holding [v] (truthy v)) := by intro _; rfl) : PT X e (tB t) := by
 intro pins s σ H Q I hw
 refine isTrue_plain (thn (h pins s σ H _ I hw) fun v s1 ⟨x, H1, I1, r1, q1⟩ => ?_) (he _)
 obtain ⟨d, rfl, q⟩ := q1
 cases r1
 exact wpAny_truthy_bool ⟨H1, I1, q⟩
variable {tA tB' : TT} {rest : List Expr}
noncomputable def tAnd (t u : TT) : TT := fun σ H Q => t σ H fun c H1 => if c = true then u σ H1 Q else Q false H1
noncomputable def tOr (t u : TT) : TT := fun σ H Q => t σ H fun c H1 => if c = true then Q true H1 else u σ H1 Q
noncomputable def tNot (t : TT) : TT := fun σ H Q => t σ H fun c H1 => Q (!c) H1
theorem pw_and1 (ha : PT X a tA) : PW X (.BoolOp .And [a] pos) tA := by
 intro wh pins s σ H Q I h
 refine isTrue_and (thn (ha pins s σ H Q I h) fun c s1 e => ?_)
 cases c with
 | true => exact isTrue_and_nil e
 | false => exact e
theorem pw_or1 (ha : PT X a tA) : PW X (.BoolOp .Or [a] pos) tA := by
 intro wh pins s σ H Q I h
 refine isTrue_or (thn (ha pins s σ H Q I h) fun c s1 e => ?_)
 cases c with
 | false => exact isTrue_or_nil e
 | true => exact e
theorem pw_and (ha : PT X a tA) (hb : PW X (.BoolOp .And (b :: rest) pos) tB') : PW X (.BoolOp .And (a :: b :: rest) pos) (tAnd tA tB') := by
 intro wh pins s σ H Q I h
 refine isTrue_and (thn (ha pins s σ H _ I h) fun c s1 ⟨H1, I1, q1⟩ => ?_)
 cases c with
 | true => exact hb wh pins s1 σ H1 Q I1 q1
 | false => exact ⟨H1, I1, q1⟩
theorem pw_or (ha : PT X a tA) (hb : PW X (.BoolOp .Or (b :: rest) pos) tB') : PW X (.BoolOp .Or (a :: b :: rest) pos) (tOr tA tB') := by
 intro wh pins s σ H Q I h
 refine isTrue_or (thn (ha pins s σ H _ I h) fun c s1 ⟨H1, I1, q1⟩ => ?_)
 cases c with
 | true => exact ⟨H1, I1, q1⟩
 | false => exact hb wh pins s1 σ H1 Q I1 q1
theorem pt_not (ha : PT X a tA) : PT X (.UnaryOp .Not a pos) (tNot tA) := by
 intro pins s σ H Q I h
 exact isTrue_not (ha pins s σ H (fun c H1 => Q (!c) H1) I h)
end
end L2
namespace L2
open PySem PySem.Spec PyProof.Rows
noncomputable def SqL (K : PySem.W.Frag) (H : Hp) (a : Addr) (xs : List V) : Prop :=
 Rd H a (.lst xs) \/
  ∃ (o : Obj) (its : Array Value) (n : Nat), K.lookup a = some o /\ o.cls = .type "list" /\ o.dict = none /\ o.data = .seq its n /\ its.size <= sizeLine /\ Vals xs its.toList
noncomputable def SqT (K : PySem.W.Frag) (H : Hp) (a : Addr) (xs : List V) : Prop :=
 Rd H a (.tup xs) \/
  ∃ (o : Obj) (its : Array Value) (n : Nat), K.lookup a = some o /\ o.cls = .type "tuple" /\ o.data = .seq its n /\ its.size <= sizeLine /\ Vals xs its.toList
noncomputable def absV : Value -> Option V
 | .none => some .non
 | .bool b => some (.bl b)
 | .int i _ => some (.int i)
 | .str x _ => some (.str x)
 | .bytes b _ => some (.byt b)
 | .float b _ => some (.flt b)
 | .ref a => some (.ref a)
 | .type n => some (.ty n)
 | _ => none
theorem RelV.abs {x : V} {u : Value} (r : RelV x u) : absV u = some x := by
 cases x with
 | non => cases r; rfl
 | bl _ => cases r; rfl
 | int _ => obtain ⟨t, rfl⟩ := r; rfl
 | str _ => obtain ⟨t, rfl⟩ := r; rfl
 | byt _ => obtain ⟨t, rfl⟩ := r; rfl
 | flt _ => obtain ⟨t, rfl⟩ := r; rfl
 | ref _ => cases r; rfl
 | ty _ => cases r; rfl
theorem RelV.inj {x y : V} {u : Value} (r : RelV x u) (q : RelV y u) : x = y := Option.some.inj (r.abs.symm.trans q.abs)
theorem Vals.inj : ∀ {xs ys : List V} {us : List Value}, Vals xs us -> Vals ys us -> xs = ys
 | _, _, _, .nil, .nil => rfl
 | _, _, _, .cons r t, .cons r' t' => by rw [r.inj r', Vals.inj t t']
section
variable {X : Cx} {pins : List (Addr × Obj)} {σ : St} {H : Hp} {s : Shared} {a : Addr} {xs ys : List V}
theorem SqL.of {K : PySem.W.Frag} (h : H a = some (.lst xs)) : SqL K H a xs := .inl (.inl h)
theorem SqT.of {K : PySem.W.Frag} (h : H a = some (.tup xs)) : SqT K H a xs := .inl (.inl h)
theorem Inv.list (I : Inv X pins σ H s) (h : SqL X.K H a xs) : ∃ its : List Value, Vals xs its /\ PlainL s.heap a its.toArray /\ xs.length <= sizeLine := by
 rcases h with h | ⟨o, its, n, hk, hc, hd, hs, hz, r⟩
 ·obtain ⟨z, its, n, r, e⟩ := h.ok I.hok
  exact ⟨its, r, ⟨_, n, e, rfl, rfl, rfl⟩, z⟩
 ·refine ⟨its.toList, r, ⟨o, n, I.kIn a o hk, hc, hd, by simpa using hs⟩, ?_⟩
  have e := r.length
  simp only [Array.length_toList] at e
  omega
theorem Inv.tuple (I : Inv X pins σ H s) (h : SqT X.K H a xs) : ∃ its : List Value, Vals xs its /\ IsTup s.heap a its.toArray /\ xs.length <= sizeLine := by
 rcases h with h | ⟨o, its, n, hk, hc, hs, hz, r⟩
 ·obtain ⟨z, its, r, p⟩ := h.ok I.hok
  exact ⟨its, r, p, z⟩
 ·refine ⟨its.toList, r, ⟨o, I.kIn a o hk, hc, n, by simpa using hs⟩, ?_⟩
  have e := r.length
  simp only [Array.length_toList] at e
  omega
theorem Inv.list_inj (I : Inv X pins σ H s) (h : SqL X.K H a xs) (h' : SqL X.K H a ys) : xs = ys := by
 obtain ⟨its, r, ⟨o, n, e, _, _, d⟩, _⟩ := I.list h
 obtain ⟨its', r', ⟨o', n', e', _, _, d'⟩, _⟩ := I.list h'
 rw [e] at e'; cases e'
 rw [d] at d'
 injection d' with d1 _
 have : its = its' := by simpa using congrArg Array.toList d1
 subst this
 exact r.inj r'
end
noncomputable abbrev Cx.wish (X : Cx) (E : Value -> Shared -> Prop) : Cx := { X with xe := E }
noncomputable abbrev Cx.nox (X : Cx) : Cx := X.wish fun _ _ => False
theorem Cx.Ok.wish {X : Cx} (ok : X.Ok) (E : Value -> Shared -> Prop) : (X.wish E).Ok :=
 ⟨ok.mod, ok.kind, ok.glob, ok.blt, ok.above, ok.inj, ok.has, ok.cab, ok.hd, ok.frames, ok.stk, ok.exf, ok.bs, ok.bsz, ok.noex, ok.exfs, ok.funs, ok.frf⟩
theorem Cx.Ok.unwish {X : Cx} {E : Value -> Shared -> Prop} (ok : (X.wish E).Ok) : X.Ok :=
 ⟨ok.mod, ok.kind, ok.glob, ok.blt, ok.above, ok.inj, ok.has, ok.cab, ok.hd, ok.frames, ok.stk, ok.exf, ok.bs, ok.bsz, ok.noex, ok.exfs, ok.funs, ok.frf⟩
section
variable {X : Cx} {pins : List (Addr × Obj)} {σ : St} {H : Hp} {s : Shared} {E : Value -> Shared -> Prop}
theorem Inv.wish (I : Inv X pins σ H s) (E : Value -> Shared -> Prop) : Inv (X.wish E) pins σ H s := ⟨I.ok.wish E, I.os, I.bare, I.base, I.loc, I.cell, I.free, I.freeC, I.pin, I.hok, I.len⟩
theorem Inv.unwish (I : Inv (X.wish E) pins σ H s) : Inv X pins σ H s := ⟨I.ok.unwish, I.os, I.bare, I.base, I.loc, I.cell, I.free, I.freeC, I.pin, I.hok, I.len⟩
theorem SP.unwish {D : Ends} {f : Flow} {s' : Shared} (h : SP (X.wish E) pins D f s') : SP X pins D f s' := by
 cases f with
 | next => obtain ⟨σ', H', I, q⟩ := h; exact ⟨σ', H', I.unwish, q⟩
 | brk => obtain ⟨σ', H', I, q⟩ := h; exact ⟨σ', H', I.unwish, q⟩
 | cont => obtain ⟨σ', H', I, q⟩ := h; exact ⟨σ', H', I.unwish, q⟩
 | ret u => obtain ⟨v, σ', H', I, r, q⟩ := h; exact ⟨v, σ', H', I.unwish, r, q⟩
theorem PSs.nox {st : List Stmt} {t : TS} (h : PSs X.nox st t) : PSs X st t := fun pins s σ H D I hw =>
 wpAny_mono (h pins s σ H D (I.wish _) hw) (fun _ _ q => q.unwish) fun _ _ z => False.elim z
end
section
variable {X : Cx} {st : Stmt} {rest : List Stmt} {t u : TS} {e : Expr} {te : TE} {pos : Pos}
noncomputable def tNext : TS := fun D σ H => D.nx σ H
noncomputable def tSeq (t u : TS) : TS := fun D σ H => t { D with nx := u D } σ H
theorem pss_nil : PSs X [] tNext := fun _ _ σ H _ I h => wpAny_execs_nil ⟨σ, H, I, h⟩
theorem pss_cons (h1 : PS X st t) (h2 : PSs X rest u) : PSs X (st :: rest) (tSeq t u) := by
 intro pins s σ H D I h
 refine wpAny_execs_cons (thn (h1 pins s σ H { D with nx := u D } I h) fun f s1 q => ?_)
 cases f with
 | next =>
  obtain ⟨σ', H', I', q⟩ := q
  exact h2 pins s1 σ' H' D I' q
 | ret v => exact q
 | brk => exact q
 | cont => exact q
theorem pss_one (h1 : PS X st t) : PSs X [st] t := by
 intro pins s σ H D I h
 refine wpAny_execs_cons (thn (h1 pins s σ H D I h) fun f s1 q => ?_)
 cases f with
 | next => exact wpAny_execs_nil q
 | ret v => exact q
 | brk => exact q
 | cont => exact q
theorem Inv.quiet {pins : List (Addr × Obj)} {σ : St} {H : Hp} {s : Shared} (I : Inv X pins σ H s) : interactive X.env = false := by simp [interactive, I.ok.kind]
noncomputable def tDrop (te : TE) : TS := fun D σ H => te σ H fun _ H1 => D.nx σ H1
theorem ps_expr (he : PE X e te) (hs : swapsWith e none pos.line X.env = pure false := by rfl) : PS X (.Expr e pos) (tDrop te) := by
 intro pins s σ H D I h
 exact wpAny_Expr_any (thn (he pins s σ H _ I h) fun v s1 ⟨x, H1, I1, r1, q1⟩ => ⟨σ, H1, I1, q1⟩) I.quiet hs
noncomputable def tRet (te : TE) : TS := fun D σ H => te σ H D.rt
theorem ps_ret (he : PE X e te) : PS X (.Return (some e) pos) (tRet te) := by
 intro pins s σ H D I h
 exact wpAny_Return_some (thn (he pins s σ H _ I h) fun v s1 ⟨x, H1, I1, r1, q1⟩ => ⟨x, σ, H1, I1, r1, q1⟩)
noncomputable def tIfS (c : TT) (t u : TS) : TS := fun D σ H => c σ H fun b H1 => if b = true then t D σ H1 else u D σ H1
theorem ps_if {c : Expr} {a b : List Stmt} {tc : TT} (hc : PT X c tc) (ha : PSs X a t) (hb : PSs X b u) : PS X (.If c a b pos) (tIfS tc t u) := by
 intro pins s σ H D I h
 refine wpAny_If (thn (hc pins s σ H _ I h) fun d s1 ⟨H1, I1, q1⟩ => ?_)
 cases d with
 | true => exact ha pins s1 σ H1 D I1 q1
 | false => exact hb pins s1 σ H1 D I1 q1
end
noncomputable abbrev TG := V -> St -> Hp -> (St -> Hp -> Prop) -> Prop
noncomputable abbrev TGs := List V -> St -> Hp -> (St -> Hp -> Prop) -> Prop
noncomputable def PG (X : Cx) (target : Expr) (t : TG) : Prop :=
 ∀ (pins : List (Addr × Obj)) (s : Shared) (σ : St) (H : Hp) (v : V) (u : Value) (Q : St -> Hp -> Prop), Inv X pins σ H s -> RelV v u -> t v σ H Q ->
  wpAny (model X.prog X.w) X.A (assign target X.env u) (fun _ s' => ∃ σ' H', Inv X pins σ' H' s' /\ Q σ' H') X.xe s
noncomputable def PGs (X : Cx) (ts : List Expr) (t : TGs) : Prop :=
 ∀ (pins : List (Addr × Obj)) (s : Shared) (σ : St) (H : Hp) (vs : List V) (us : List Value) (Q : St -> Hp -> Prop), Inv X pins σ H s -> Vals vs us -> t vs σ H Q ->
  wpAny (model X.prog X.w) X.A (assignInOrder ((assignEach ts X.env).map (·.2)) us) (fun _ s' => ∃ σ' H', Inv X pins σ' H' s' /\ Q σ' H') X.xe s
section
variable {X : Cx} {pos : Pos}
noncomputable def gName (i : Nat) : TG := fun v σ H Q => Q (σ.set i (some v)) H
theorem pg_name {i : Nat} {x : Str} (hN : X.N.Nodup) (hi : X.N[i]? = some x) (hx : Loc X.env.scope x) (hf : X.fn x = true \/ X.env.scope.names.lookup x = some .local := by first | exact .inl rfl | exact .inr rfl | assumption) : PG X (.Name x pos) (gName i) := by
 intro pins s σ H v u Q I r h
 exact wpAny_assign_Name (store_ok I hN hi hx r (fun s' I' => ⟨_, H, I', h⟩) hf)
noncomputable def gNil : TGs := fun vs σ H Q => vs = [] /\ Q σ H
noncomputable def gCons (t : TG) (u : TGs) : TGs := fun vs σ H Q => ∃ v r, vs = v :: r /\ t v σ H fun σ' H' => u r σ' H' Q
theorem pgs_nil : PGs X [] gNil := by
 intro pins s σ H vs us Q I r h
 obtain ⟨e, h⟩ := h
 subst e
 cases r
 exact assignInOrder_nil ⟨σ, H, I, h⟩
theorem pgs_cons {e : Expr} {es : List Expr} {t : TG} {u : TGs} (h1 : PG X e t) (h2 : PGs X es u)
  (hs : (assignEach (e :: es) X.env).map (·.2) = assign e X.env :: (assignEach es X.env).map (·.2) := by rfl) : PGs X (e :: es) (gCons t u) := by
 intro pins s σ H vs us Q I r h
 obtain ⟨v, vr, e1, h⟩ := h
 subst e1
 cases r with
 | cons r rr =>
  rw [hs]
  refine assignInOrder_cons (thn (h1 pins s σ H _ _ _ I r h) fun _ s1 ⟨σ1, H1, I1, q1⟩ => ?_)
  exact h2 pins s1 σ1 H1 _ _ Q I1 rr q1
noncomputable def gTup (K : PySem.W.Frag) (n : Nat) (t : TGs) : TG := fun v σ H Q => ∃ a xs, v = .ref a /\ SqT K H a xs /\ xs.length = n /\ t xs σ H Q
theorem pg_tup {es : List Expr} {k : Nat} {t : TGs} {n : Nat} (hc : X.calm = true) (h : PGs X es t)
  (hn : (assignEach es X.env).length = n := by rfl) (hst : (assignEach es X.env).findIdx? (·.1) = none := by rfl) : PG X (.Tuple es k pos) (gTup X.K n t) := by
 intro pins s σ H v u Q I r hw
 obtain ⟨a, xs, e1, hq, hl, hw⟩ := hw
 subst e1
 cases r
 obtain ⟨its, rv, ht, hz⟩ := I.tuple hq
 refine assign_Tuple_tuple (I.ok.hd hc) ht (by simp [hn, <- hl, rv.length]) hst fun h' hx => ?_
 have I1 : Inv X pins σ H { s with heap := h' } := I.kept (t' := s.toks) fun b o e => hx b o (Nat.ne_of_lt (Heap.lt_size e)) e
 exact h pins _ σ H xs _ Q I1 (by simpa using rv) hw
noncomputable def tAsg (te : TE) (g : TG) : TS := fun D σ H => te σ H fun x H1 => g x σ H1 D.nx
theorem ps_asg {tg e : Expr} {te : TE} {g : TG} (he : PE X e te) (hg : PG X tg g) (hs : swapsWithSole [tg] e pos.line X.env = pure false := by rfl) (hw : swappedStores [tg] e X.env = pure none := by rfl)
  (h1 : (assignEach [tg] X.env).map (·.2) = [assign tg X.env] := by rfl) : PS X (.Assign [tg] e pos) (tAsg te g) := by
 intro pins s σ H D I h
 refine wpAny_Assign_stores (thn (he pins s σ H _ I h) fun v s1 ⟨x, H1, I1, r1, q1⟩ => ?_) hs hw
 rw [h1]
 exact thn (hg pins s1 σ H1 x v _ I1 r1 q1) fun _ s2 q => q
theorem ps_set {i : Nat} {x : Str} {e : Expr} {te : TE} {pos' : Pos} (hN : X.N.Nodup) (hi : X.N[i]? = some x) (hx : Loc X.env.scope x) (he : PE X e te) (hs : swapsWith e (some (.Name x pos')) pos.line X.env = pure false := by rfl) (hf : X.fn x = true \/ X.env.scope.names.lookup x = some .local := by first | exact .inl rfl | exact .inr rfl | assumption) :
  PS X (.Assign [.Name x pos'] e pos) (tAsg te (gName i)) := by
 intro pins s σ H D I h
 refine wpAny_Assign_Name (thn (he pins s σ H _ I h) fun v s1 ⟨y, H1, I1, r1, q1⟩ => ?_) hs
 exact store_ok I1 hN hi hx r1 (fun s2 I2 => ⟨_, H1, I2, q1⟩) hf
noncomputable def tPar (i j : Nat) (ta : TA) : TS := fun D σ H => ta σ H fun vs H1 => ∃ v w, vs = [v, w] /\ D.nx ((σ.set i (some v)).set j (some w)) H1
theorem ps_par {i j : Nat} {x y : Str} {a b : Expr} {ta : TA} {px py pt : Pos} {kt k2 pt2} (hc : X.calm = true) (hN : X.N.Nodup) (hi : X.N[i]? = some x) (hj : X.N[j]? = some y) (hij : i ≠ j)
  (hx : X.env.scope.names.lookup x = some .local) (hy : X.env.scope.names.lookup y = some .local) (ha : PA X [a, b] ta)
  (hw : swappedStores [.Tuple [.Name x px, .Name y py] kt pt] (.Tuple [a, b] k2 pt2) X.env = pure (some [x, y]))
  (hs : swapsWithSole [.Tuple [.Name x px, .Name y py] kt pt] (.Tuple [a, b] k2 pt2) pos.line X.env = pure false := by rfl) :
  PS X (.Assign [.Tuple [.Name x px, .Name y py] kt pt] (.Tuple [a, b] k2 pt2) pos) (tPar i j ta) := by
 intro pins s σ H D I h
 rw [exec_Assign_arm]
 refine wpAny_bind (wpAny_standAt ?_)
 rw [hs]
 refine wpAny_bind (wpAny_pure ?_)
 rw [if_neg (by decide)]
 refine wpAny_bind (Tuple_ (thn (ha _ pins s σ H _ I h) fun us s1 ⟨vs, H1, I1, r1, q1⟩ => ?_))
 obtain ⟨v, w, e1, q1⟩ := q1
 subst e1
 obtain ⟨u1, u2, rfl, rv, rw'⟩ : ∃ u1 u2, us = [u1, u2] /\ RelV v u1 /\ RelV w u2 := by
  cases r1 with
  | cons p q =>
   cases q with
   | cons p' q' =>
    cases q'
    exact ⟨_, _, rfl, p, p'⟩
 refine wpAny_newObj_type ?_ (by show 2 <= sizeLine; decide)
 have I2 : Inv X pins σ H1 { s1 with heap := s1.heap.push { cls := .type "tuple", data := .seq [u1, u2].toArray } } := I1.kept (t' := s1.toks) fun b o e => Heap.get?_push_of_some _ e
 rw [hw]
 refine wpAny_bind (wpAny_pure ?_)
 show wpAny (model X.prog X.w) X.A (do rule "assign.swapped-stores"; let items <- unpackItems (.ref s1.heap.objs.size) 2 none; assignInOrder [fun v => bindName X.env y v, fun v => bindName X.env x v] items.reverse; pure Flow.next) _ _ _
 refine wpAny_bind (wpAny_rule (wpAny_bind (unpackItems_tuple (items := #[u1, u2]) (I.ok.hd hc) (IsTup.new s1.heap _) fun h' hx' => ?_)))
 have I3 := I2.kept (h' := h') (t' := s1.toks) fun b o e => hx' b o (Nat.ne_of_lt (Heap.lt_size e)) e
 show wpAny _ _ (assignInOrder [fun v => bindName X.env y v, fun v => bindName X.env x v] [u2, u1] >>= fun _ => pure Flow.next) _ _ _
 refine wpAny_bind (assignInOrder_cons (wpAny_bindName (store_ok I3 hN hj (.inl hy) rw' (fun s2 I4 => ?_) (.inr hy))))
 refine assignInOrder_cons (wpAny_bindName (store_ok I4 hN hi (.inl hx) rv (fun s3 I5 => assignInOrder_nil (wpAny_pure ?_)) (.inr hx)))
 rw [List.set_comm _ _ (Ne.symm hij)] at I5
 exact ⟨_, H1, I5, q1⟩
end
section
variable {X : Cx} {pos : Pos}
noncomputable def tWhile (c : TT) (tb : TS) : TS := fun D σ H => ∃ W : Nat -> St -> Hp -> Prop, (∃ m, W m σ H) /\ ∀ m σ H, W m σ H ->
 c σ H fun b H1 => if b = true then ∃ N : St -> Hp -> Prop, (∀ σ' H', N σ' H' -> ∃ m', m' < m /\ W m' σ' H') /\ tb { D with nx := N, ct := N, bk := D.nx } σ H1 else D.nx σ H1
theorem ps_while {c : Expr} {body : List Stmt} {tc : TT} {tb : TS} (hp : PassesOwn (model X.prog X.w) X.A X.env X.xe) (hc : PT X c tc) (hb : PSs X body tb) : PS X (.While c body [] pos) (tWhile tc tb) := by
 intro pins s σ H D I h
 obtain ⟨W, ⟨m0, w0⟩, turn⟩ := h
 refine wpAny_While (codeAny_whileLoop (fun n s' => ∃ σ' H', Inv X pins σ' H' s' /\ W n σ' H') ?_ m0 ⟨σ, H, I, w0⟩)
 rintro n s1 ⟨σ1, H1, I1, w1⟩
 refine wpAny_passesOwn hp (thn (hc pins s1 σ1 H1 _ I1 (turn n σ1 H1 w1)) fun b s2 ⟨H2, I2, q2⟩ => ?_)
 cases b with
 | true =>
  obtain ⟨N, hN, q2⟩ := q2
  rw [if_pos rfl]
  refine wpAny_passesOwn hp (thn (hb pins s2 σ1 H2 _ I2 q2) fun f s3 q3 => ?_)
  cases f with
  | next =>
   obtain ⟨σ3, H3, I3, n3⟩ := q3
   obtain ⟨m', hm, w3⟩ := hN σ3 H3 n3
   exact ⟨m', hm, σ3, H3, I3, w3⟩
  | cont =>
   obtain ⟨σ3, H3, I3, n3⟩ := q3
   obtain ⟨m', hm, w3⟩ := hN σ3 H3 n3
   exact ⟨m', hm, σ3, H3, I3, w3⟩
  | brk => exact q3
  | ret v => exact q3
 | false =>
  rw [if_neg Bool.false_ne_true]
  exact wpAny_execs_nil ⟨σ1, H2, I2, q2⟩
end
set_option genInjectivity false in
structure It where
 go : Nat -> Hp -> Prop
 yld : Nat -> Hp -> V -> Hp -> Prop
 stop : Nat -> Hp -> Prop
noncomputable def FpOk (X : Cx) (pins : List (Addr × Obj)) (H : Hp) (b : Addr) : Prop :=
 H b = none /\ b ≠ X.env.locals /\ b ∉ X.fs /\ (b ∈ X.ex \/ X.s₀.heap.objs.size <= b) /\ (∀ x c, X.env.cells.lookup x = some c -> c ≠ b) /\ ∀ p ∈ X.pn ++ pins, p.1 ≠ b
theorem Inv.fpOk {X : Cx} {pins : List (Addr × Obj)} {σ : St} {H H' : Hp} {s : Shared} {b : Addr} (I : Inv X pins σ H s) (hb : s.heap.objs.size <= b) (hn : H' b = none) : FpOk X pins H' b := by
 refine ⟨hn, Nat.ne_of_gt (Nat.lt_of_lt_of_le I.lt hb), I.nofs hb, .inr (Nat.le_trans I.sz hb), fun x c e z => ?_, fun p hp z => ?_⟩
 ·obtain ⟨v, q⟩ := I.cell x c e
  exact absurd (Nat.lt_of_lt_of_le q.lt (by rw [z]; exact hb)) (Nat.lt_irrefl _)
 ·exact absurd (Nat.lt_of_lt_of_le (Heap.lt_size (I.pin p hp).1) (by rw [z]; exact hb)) (Nat.lt_irrefl _)
structure Turn (P : Program) (w : World) (K : PySem.W.Frag) (tg : Expr) (J : It) (fp : List Addr) (it : Addr) (tn : Nat -> Heap -> Prop) : Prop where
 mem : it ∈ fp
 obj : ∀ i h, tn i h -> ∀ b ∈ fp, ∃ o, h.get? b = some o /\ ∀ v, o.data ≠ .cell v
 keep : ∀ i h h', tn i h -> (∀ b ∈ fp, ∀ o, h.get? b = some o -> h'.get? b = some o) -> tn i h'
 item : ∀ (X : Cx), X.prog = P -> X.w = w -> X.K = K -> X.calm = true -> ∀ (i : Nat) (pins : List (Addr × Obj)) (s : Shared) (σ : St) (H : Hp) (E : Value -> Shared -> Prop), Inv X pins σ H s -> (∀ b ∈ fp, FpOk X pins H b) -> tn i s.heap -> J.go i H ->
  wpAny (model P w) X.A (pyNext (.ref it)) (fun r s1 => ∃ u, r = some u /\
   wpAny (model P w) X.A (letOwnedTupleGo tg (.ref it) u) (fun _ s2 => ∃ x H', Inv X pins σ H' s2 /\ RelV x u /\ J.yld i H x H' /\ tn (i + 1) s2.heap /\ ∀ b ∈ fp, H' b = none) E s1) E s
 done : ∀ (X : Cx), X.prog = P -> X.w = w -> X.K = K -> X.calm = true -> ∀ (i : Nat) (pins : List (Addr × Obj)) (s : Shared) (σ : St) (H : Hp) (E : Value -> Shared -> Prop), Inv X pins σ H s -> (∀ b ∈ fp, FpOk X pins H b) -> tn i s.heap -> J.stop i H ->
  wpAny (model P w) X.A (pyNext (.ref it)) (fun r s1 => r = none /\ Inv X pins σ H s1) E s
 self : ∀ (A : Around) (i : Nat) (s : Shared) (Q : Value -> Shared -> Prop) (E : Value -> Shared -> Prop), tn i s.heap -> Q (.ref it) s -> wpAny (model P w) A (pyIter (.ref it)) Q E s
noncomputable abbrev TI := St -> Hp -> (It -> Hp -> Prop) -> Prop
noncomputable def PIE (X : Cx) (pins : List (Addr × Obj)) (σ : St) (tg : Expr) (R : It -> Hp -> Prop) (itv : Value) (s2 : Shared) : Prop :=
 ∃ (it : Addr) (fp : List Addr) (tn : Nat -> Heap -> Prop) (J : It) (H' : Hp), itv = .ref it /\ Inv X pins σ H' s2 /\ Turn X.prog X.w X.K tg J fp it tn /\ tn 0 s2.heap /\ (∀ b ∈ fp, FpOk X pins H' b) /\ R J H'
noncomputable def PI (X : Cx) (tg iter : Expr) (wi : TI) : Prop :=
 ∀ (pins : List (Addr × Obj)) (s : Shared) (σ : St) (H : Hp) (R : It -> Hp -> Prop), Inv X pins σ H s -> wi σ H R ->
  wpAny (model X.prog X.w) X.A (eval iter X.env) (fun v s1 => wpAny (model X.prog X.w) X.A (pyIter v) (PIE X pins σ tg R) X.xe s1) X.xe s
theorem go_of {M : Model} {A : Around} {E : Value -> Shared -> Prop} {s : Shared} {tg : Expr} {it : Addr} {u : Value} {o : Obj} {n : String} {vs : Array Value} {Q : Unit -> Shared -> Prop} (ho : s.heap.get? it = some o) (hc : o.cls = .type n) (hd : o.data = .fields vs)
    (hn : ["enumerate", "zip", "dict_itemiterator", "dict_reverseitemiterator", "odict_iterator", "itertools.zip_longest", "itertools.pairwise"].contains n = false) (hQ : Q () s) : wpAny M A (letOwnedTupleGo tg (.ref it) u) Q E s := by
  unfold letOwnedTupleGo
  cases tg <;> first
    | exact wpAny_pure hQ
    | (cases u <;> first
        | exact wpAny_pure hQ
        | (refine wpAny_bind (wpAny_load ho ?_)
           rw [hc, hd]
           show wpAny M A (if (["enumerate", "zip", "dict_itemiterator", "dict_reverseitemiterator", "odict_iterator", "itertools.zip_longest", "itertools.pairwise"].contains n && vs[0]? == some (rawInt _)) = true then _ else _) Q E s
           rw [if_neg (by intro h; rw [hn, Bool.false_and] at h; cases h)]
           exact wpAny_pure hQ))
noncomputable def Itl (K : PySem.W.Frag) (a : Addr) : It :=
 ⟨fun i H => ∃ xs x, SqL K H a xs /\ xs[i]? = some x, fun i H x H' => H' = H /\ ∀ xs, SqL K H a xs -> xs[i]? = some x, fun i H => ∃ xs, SqL K H a xs /\ xs.length <= i⟩
noncomputable def Itr (lo : Int) (n : Nat) : It := ⟨fun i _ => i < n, fun i H x H' => H' = H /\ x = .int (lo + i), fun i _ => n <= i⟩
theorem turn_list {P : Program} {w : World} {K : PySem.W.Frag} {tg : Expr} (a it : Addr) : Turn P w K tg (Itl K a) [it] it (fun i h => h.IsListIter it a i) where
 mem := by simp
 obj := fun i h st b hb => by
  have e : b = it := by simpa using hb
  subst e
  obtain ⟨o, e, c, d⟩ := st
  exact ⟨o, e, fun v z => by rw [d] at z; cases z⟩
 keep := fun i h h' st k => st.at fun o e => k it (by simp) o e
 item := by
  intro X hP hw hK hc i pins s σ H E I hf st hg
  subst hP hw hK
  obtain ⟨xs, x, hq, hx⟩ := hg
  obtain ⟨its, rv, p, hz⟩ := I.list hq
  obtain ⟨u, hu, ru⟩ := rv.get hx
  obtain ⟨f0, f1, f2, f3, f4, f5⟩ := hf it (by simp)
  refine wpAny_pyNext_list_item st p.isList (x := u) (by simpa using hu) fun h' st' sb => ?_
  have I1 : Inv X pins σ H { s with heap := h' } := I.turned (t' := s.toks) (fun b o hb e => (sb.2 b hb).trans e) f0 f1 f3 f4 f5
  obtain ⟨o, e, c, d⟩ := id st'
  exact ⟨u, rfl, go_of (s := { s with heap := h' }) e c d (by decide) ⟨x, H, I1, ru, ⟨rfl, fun ys hy => by rw [I.list_inj hy hq]; exact hx⟩, st', fun b hb => (hf b hb).1⟩⟩
 done := by
  intro X hP hw hK hc i pins s σ H E I hf st hg
  subst hP hw hK
  obtain ⟨xs, hq, hx⟩ := hg
  obtain ⟨its, rv, p, hz⟩ := I.list hq
  obtain ⟨f0, f1, f2, f3, f4, f5⟩ := hf it (by simp)
  have hl := rv.length
  exact wpAny_pyNext_list_end (I.ok.hd hc) st p.isList (by simp; omega) fun h' eb => ⟨rfl, I.turned (t' := s.toks) (fun b o hb e => eb b o hb e) f0 f1 f3 f4 f5⟩
 self := fun _ _ _ _ _ st h => wpAny_pyIter_listiter st h
theorem turn_range {P : Program} {w : World} {K : PySem.W.Frag} {tg : Expr} (it : Addr) (lo : Int) (n : Nat) : Turn P w K tg (Itr lo n) [it] it (fun i h => IsRangeIter h it (lo + (i : Nat) * 1) ((n : Int) - (i : Nat)) 1) where
 mem := by simp
 obj := fun i h st b hb => by
  have e : b = it := by simpa using hb
  subst e
  exact ⟨_, st, fun v z => by
   have z' : Data.fields _ = Data.cell v := z
   cases z'⟩
 keep := fun i h h' st k => k it (by simp) _ st
 item := by
  intro X hP hw hK hc i pins s σ H E I hf st hg
  subst hP hw hK
  obtain ⟨f0, f1, f2, f3, f4, f5⟩ := hf it (by simp)
  have W := Walks.range (prog := X.prog) (w := X.w) (I.ok.hd hc) it lo 1 n
  refine W.item i s _ _ hg st fun v h' tk hv st' kk => ?_
  obtain ⟨t, rfl⟩ := hv
  have I1 : Inv X pins σ H { s with heap := h', toks := tk } := I.turned (fun b o hb e => kk b o (by simpa using hb) e) f0 f1 f3 f4 f5
  refine ⟨_, rfl, go_of (s := { s with heap := h', toks := tk }) (n := "range_iterator") st' rfl rfl (by decide) ⟨.int (lo + i), H, I1, ⟨t, ?_⟩, ⟨rfl, rfl⟩, st', fun b hb => (hf b hb).1⟩⟩
  rw [Int.mul_one]
 done := by
  intro X hP hw hK hc i pins s σ H E I hf st hg
  subst hP hw hK
  obtain ⟨f0, f1, f2, f3, f4, f5⟩ := hf it (by simp)
  exact wpAny_pyNext_range_end (I.ok.hd hc) st (by have : n <= i := hg; omega) fun h' eb => ⟨rfl, I.turned (t' := s.toks) (fun b o hb e => eb b o hb e) f0 f1 f3 f4 f5⟩
 self := fun _ _ _ _ _ st h => wpAny_pyIter_rangeiter st h
end L2
namespace L2
open PySem PySem.Spec PyProof.Rows
section
variable {X : Cx} {tg : Expr}
noncomputable def iList (K : PySem.W.Frag) (tl : TE) : TI := fun σ H R => tl σ H fun x H1 => ∃ a, x = .ref a /\ (∃ xs, SqL K H1 a xs) /\ R (Itl K a) H1
theorem pi_list {l : Expr} {tl : TE} (hl : PE X l tl) : PI X tg l (iList X.K tl) := by
 intro pins s σ H R I h
 refine thn (hl pins s σ H _ I h) fun v s1 ⟨x, H1, I1, r1, q1⟩ => ?_
 obtain ⟨a, e, ⟨xs, hq⟩, q⟩ := q1
 subst e
 cases r1
 obtain ⟨its, rv, p, hz⟩ := I1.list hq
 refine wpAny_pyIter_list p.isList ?_
 refine ⟨s1.heap.objs.size, [s1.heap.objs.size], _, _, H1, rfl, I1.kept (t' := s1.toks) fun b o e => Heap.get?_push_of_some _ e, turn_list a _, ⟨_, Heap.get?_push_size _ rfl, rfl, rfl⟩, fun b hb => ?_, q⟩
 have e : b = s1.heap.objs.size := by simpa using hb
 subst e
 exact I1.fpOk (Nat.le_refl _) (I1.hok.fresh (Nat.le_refl _))
theorem range_it {pins : List (Addr × Obj)} {σ : St} {H : Hp} {s : Shared} {R : It -> Hp -> Prop} {E : Value -> Shared -> Prop} {lo hi : Int} {t u v : Tok} {tk : Nat} (I : Inv X pins σ H s) (h1 : -(2 ^ 62) <= lo) (h2 : lo < 2 ^ 62) (h3 : -(2 ^ 62) <= hi) (h4 : hi < 2 ^ 62)
  (q : R (Itr lo (hi - lo).toNat) H) : wpAny (model X.prog X.w) X.A (pyIter (.ref s.heap.objs.size)) (PIE X pins σ tg R) E { s with heap := s.heap.push { cls := .type "range", data := .fields #[.int lo t, .int hi u, .int 1 v] }, toks := tk } := by
 refine wpAny_pyIter_range (IsRange.new ..) (small_one h1 h2 h3 h4) ?_
 have I1 : Inv X pins σ H { s with heap := s.heap.push { cls := .type "range", data := .fields #[.int lo t, .int hi u, .int 1 v] }, toks := tk } := I.kept fun b o e => Heap.get?_push_of_some _ e
 refine ⟨(s.heap.push { cls := .type "range", data := .fields #[.int lo t, .int hi u, .int 1 v] }).objs.size, [(s.heap.push { cls := .type "range", data := .fields #[.int lo t, .int hi u, .int 1 v] }).objs.size], _, _, H, rfl,
  I1.kept (t' := tk) fun b o e => Heap.get?_push_of_some _ e, turn_range _ lo (hi - lo).toNat, ?_, fun b hb => ?_, q⟩
 ·have e1 : lo + ((0 : Nat) : Int) * 1 = lo := by simp
  have e2 : (((hi - lo).toNat : Nat) : Int) - ((0 : Nat) : Int) = Builtin.Range.rangeSize lo hi 1 := by rw [rangeSize_one]; split <;> omega
  show IsRangeIter _ _ (lo + ((0 : Nat) : Int) * 1) ((((hi - lo).toNat : Nat) : Int) - ((0 : Nat) : Int)) 1
  rw [e1, e2]
  exact Heap.get?_push_size _ rfl
 ·have e : b = (s.heap.push { cls := .type "range", data := .fields #[.int lo t, .int hi u, .int 1 v] }).objs.size := by simpa using hb
  subst e
  exact I1.fpOk (Nat.le_refl _) (I1.hok.fresh (Nat.le_refl _))
noncomputable def iRng1 (ta : TA) : TI := fun σ H R => ta σ H fun vs H1 => ∃ j : Int, vs = [.int j] /\ -(2 ^ 62) <= j /\ j < 2 ^ 62 /\ R (Itr 0 j.toNat) H1
theorem pi_range1 {a : Expr} {ta : TA} {p pos : Pos} (hg : Gl X "range") (hm : X.mg "range" = none) (ha : PA X [a] ta) (hs : starEach [a] X.env = [(false, eval a X.env)] := by rfl) : PI X tg (.Call (.Name "range" p) [a] [] pos) (iRng1 ta) := by
 intro pins s σ H R I h
 refine Call_ (ld_blt I hg hm boot_range (PyProof.Rows.callWith_type1 (thn (ha pos pins s σ H _ I h) fun us s1 ⟨vs, H1, I1, r1, q1⟩ => ?_) hs rfl))
 obtain ⟨j, e, q1, q2, q⟩ := q1
 subst e
 cases r1 with
 | cons r rr =>
  cases rr
  obtain ⟨t, rfl⟩ := r
  exact call_range_1 (range_it I1 (by omega) (by omega) q1 q2 (by simpa using q))
noncomputable def tFor (wi : TI) (g : TG) (tb : TS) : TS := fun D σ H => wi σ H fun J H1 => ∃ W : Nat -> Nat -> St -> Hp -> Prop, (∃ m, W 0 m σ H1) /\ ∀ i m σ H, W i m σ H ->
 (J.stop i H /\ D.nx σ H) \/ (J.go i H /\ ∃ N : St -> Hp -> Prop, (∀ σ' H', N σ' H' -> ∃ m', m' < m /\ W (i + 1) m' σ' H') /\ ∀ x H', J.yld i H x H' -> g x σ H' fun σ2 H2 => tb { D with nx := N, ct := N, bk := D.nx } σ2 H2)
noncomputable def pinsAt (fp : List Addr) (h : Heap) : List (Addr × Obj) := fp.filterMap fun b => (h.get? b).map fun o => (b, o)
theorem mem_pinsAt {fp : List Addr} {h : Heap} {b : Addr} {o : Obj} (hb : b ∈ fp) (e : h.get? b = some o) : (b, o) ∈ pinsAt fp h := List.mem_filterMap.mpr ⟨b, hb, by rw [e]; rfl⟩
theorem of_pinsAt {fp : List Addr} {h : Heap} {p : Addr × Obj} (hp : p ∈ pinsAt fp h) : p.1 ∈ fp /\ h.get? p.1 = some p.2 := by
 obtain ⟨b, hb, e⟩ := List.mem_filterMap.mp hp
 cases q : h.get? b with
 | none => rw [q] at e; cases e
 | some o =>
  rw [q] at e
  have e' : (b, o) = p := Option.some.inj e
  subst e'
  exact ⟨hb, q⟩
theorem Inv.pinned {pins : List (Addr × Obj)} {σ : St} {H : Hp} {s : Shared} {fp : List Addr} (I : Inv X pins σ H s) (hf : ∀ b ∈ fp, FpOk X pins H b) (ho : ∀ b ∈ fp, ∃ o, s.heap.get? b = some o /\ ∀ v, o.data ≠ .cell v) : Inv X (pins ++ pinsAt fp s.heap) σ H s :=
 I.pins_of fun p hp => (List.mem_append.mp hp).elim (fun z => I.pin p (List.mem_append_right _ z)) fun z => by
  obtain ⟨hb, e⟩ := of_pinsAt z
  obtain ⟨f0, f1, f2, _⟩ := hf p.1 hb
  obtain ⟨o, e', d⟩ := ho p.1 hb
  rw [e] at e'; cases e'
  exact ⟨e, f0, f1, f2, d⟩
theorem Inv.unpinned {pins pl : List (Addr × Obj)} {σ : St} {H : Hp} {s : Shared} (I : Inv X (pins ++ pl) σ H s) : Inv X pins σ H s := I.pins_of fun p hp => I.pin p (List.mem_append_right _ (List.mem_append_left _ hp))
theorem ps_for {iter : Expr} {body : List Stmt} {wi : TI} {g : TG} {tb : TS} {pos : Pos} (hp : PassesOwn (model X.prog X.w) X.A X.env X.xe) (hc : X.calm = true) (hi : PI X tg iter wi) (hg : PG X tg g) (hb : PSs X body tb)
  (hs : ∀ x, foldedSetIterable iter X.env x = pure x := by intro _; rfl) : PS X (.For tg iter body [] pos) (tFor wi g tb) := by
 intro pins s σ H D I h
 refine wpAny_For (thn (hi pins s σ H _ I h) fun v s1 h1 => thn h1 fun itv s2 h2 => ?_) hs
 obtain ⟨it, fp, tn, J, H2, e, I2, T, st2, f2, W, ⟨m0, w0⟩, turn⟩ := h2
 subst e
 have stat : ∀ {H' : Hp}, (∀ b ∈ fp, H' b = none) -> ∀ b ∈ fp, FpOk X pins H' b := fun hn b hb => ⟨hn b hb, (f2 b hb).2⟩
 refine codeAny_forLoop_any (fun n s' => ∃ i σ' H', Inv X pins σ' H' s' /\ tn i s'.heap /\ (∀ b ∈ fp, H' b = none) /\ W i n σ' H') ?_ m0 ⟨0, σ, H2, I2, st2, fun b hb => (f2 b hb).1, w0⟩
 rintro n s3 ⟨i, σ3, H3, I3, st3, fr3, w3⟩
 rcases turn i n σ3 H3 w3 with ⟨stop, qn⟩ | ⟨go, N, hN, step⟩
 ·refine wpAny_passesOwn hp (thn (T.done X rfl rfl rfl hc i pins s3 σ3 H3 X.xe I3 (stat fr3) st3 stop) fun r s4 ⟨hr, I4⟩ => ?_)
  subst hr
  exact wpAny_execs_nil ⟨σ3, H3, I4, qn⟩
 ·refine wpAny_passesOwn hp (thn (T.item X rfl rfl rfl hc i pins s3 σ3 H3 X.xe I3 (stat fr3) st3 go) fun r s4 ⟨u, hr, h4⟩ => ?_)
  subst hr
  refine wpAny_passesOwn hp (thn h4 fun _ s5 ⟨x, H5, I5, r5, y5, st5, fr5⟩ => ?_)
  have I5' := I5.pinned (stat fr5) (T.obj _ _ st5)
  refine wpAny_passesOwn hp (thn (hg _ s5 σ3 H5 x u _ I5' r5 (step x H5 y5)) fun _ s6 ⟨σ6, H6, I6, q6⟩ => ?_)
  refine wpAny_passesOwn hp (thn (hb _ s6 σ6 H6 _ I6 q6) fun f s7 q7 => ?_)
  have again : ∀ {σ7 : St} {H7 : Hp}, Inv X (pins ++ pinsAt fp s5.heap) σ7 H7 s7 -> N σ7 H7 -> ∃ m, m < n /\ ∃ i σ' H', Inv X pins σ' H' s7 /\ tn i s7.heap /\ (∀ b ∈ fp, H' b = none) /\ W i m σ' H' := fun {σ7 H7} I7 n7 => by
   obtain ⟨m', hm, w7⟩ := hN σ7 H7 n7
   refine ⟨m', hm, i + 1, σ7, H7, I7.unpinned, T.keep _ _ _ st5 fun b hb o e => (I7.pin (b, o) (List.mem_append_right _ (List.mem_append_right _ (mem_pinsAt hb e)))).1, fun b hb => ?_, w7⟩
   obtain ⟨o, e, d⟩ := T.obj _ _ st5 b hb
   exact (I7.pin (b, o) (List.mem_append_right _ (List.mem_append_right _ (mem_pinsAt hb e)))).2.1
  cases f with
  | next => obtain ⟨σ7, H7, I7, n7⟩ := q7; exact again I7 n7
  | cont => obtain ⟨σ7, H7, I7, n7⟩ := q7; exact again I7 n7
  | brk => obtain ⟨σ7, H7, I7, q7⟩ := q7; exact ⟨σ7, H7, I7.unpinned, q7⟩
  | ret v => obtain ⟨x7, σ7, H7, I7, r7, q7⟩ := q7; exact ⟨x7, σ7, H7, I7.unpinned, r7, q7⟩
end
theorem for_list {K : PySem.W.Frag} {a : Addr} {xs : List V} {g : TG} {tb : TS} {D : Ends} {σ : St} {H : Hp} (Pv : Nat -> St -> Hp -> Prop) (h0 : Pv 0 σ H) (hl : ∀ i σ H, i <= xs.length -> Pv i σ H -> SqL K H a xs)
  (hs : ∀ i x σ H, xs[i]? = some x -> Pv i σ H -> g x σ H fun σ2 H2 => tb { D with nx := Pv (i + 1), ct := Pv (i + 1), bk := D.nx } σ2 H2) (hd : ∀ σ H, Pv xs.length σ H -> D.nx σ H) :
  ∃ W : Nat -> Nat -> St -> Hp -> Prop, (∃ m, W 0 m σ H) /\ ∀ i m σ H, W i m σ H ->
   ((Itl K a).stop i H /\ D.nx σ H) \/ ((Itl K a).go i H /\ ∃ N : St -> Hp -> Prop, (∀ σ' H', N σ' H' -> ∃ m', m' < m /\ W (i + 1) m' σ' H') /\ ∀ x H', (Itl K a).yld i H x H' -> g x σ H' fun σ2 H2 => tb { D with nx := N, ct := N, bk := D.nx } σ2 H2) := by
 refine ⟨fun i m σ H => m = xs.length - i /\ i <= xs.length /\ Pv i σ H, ⟨xs.length, by simp, Nat.zero_le _, h0⟩, ?_⟩
 rintro i m σ H ⟨rfl, hi, p⟩
 have q := hl i σ H hi p
 by_cases hlt : i < xs.length
 ·refine .inr ⟨⟨xs, xs[i], q, by simp [hlt]⟩, Pv (i + 1), fun σ' H' p' => ⟨xs.length - (i + 1), by omega, rfl, hlt, p'⟩, fun x H' y => ?_⟩
  obtain ⟨e, y⟩ := y
  subst e
  exact hs i x σ _ (y xs q) p
 ·have e : i = xs.length := by omega
  subst e
  exact .inl ⟨⟨xs, q, Nat.le_refl _⟩, hd σ H p⟩
theorem for_range {lo : Int} {n : Nat} {g : TG} {tb : TS} {D : Ends} {σ : St} {H : Hp} (Pv : Nat -> St -> Hp -> Prop) (h0 : Pv 0 σ H)
  (hs : ∀ i σ H, i < n -> Pv i σ H -> g (.int (lo + i)) σ H fun σ2 H2 => tb { D with nx := Pv (i + 1), ct := Pv (i + 1), bk := D.nx } σ2 H2) (hd : ∀ σ H, Pv n σ H -> D.nx σ H) :
  ∃ W : Nat -> Nat -> St -> Hp -> Prop, (∃ m, W 0 m σ H) /\ ∀ i m σ H, W i m σ H ->
   ((Itr lo n).stop i H /\ D.nx σ H) \/ ((Itr lo n).go i H /\ ∃ N : St -> Hp -> Prop, (∀ σ' H', N σ' H' -> ∃ m', m' < m /\ W (i + 1) m' σ' H') /\ ∀ x H', (Itr lo n).yld i H x H' -> g x σ H' fun σ2 H2 => tb { D with nx := N, ct := N, bk := D.nx } σ2 H2) := by
 refine ⟨fun i m σ H => m = n - i /\ i <= n /\ Pv i σ H, ⟨n, by simp, Nat.zero_le _, h0⟩, ?_⟩
 rintro i m σ H ⟨rfl, hi, p⟩
 by_cases hlt : i < n
 ·refine .inr ⟨hlt, Pv (i + 1), fun σ' H' p' => ⟨n - (i + 1), by omega, rfl, hlt, p'⟩, fun x H' y => ?_⟩
  obtain ⟨e, y⟩ := y
  subst e y
  exact hs i σ _ hlt p
 ·have e : i = n := by omega
  subst e
  exact .inl ⟨Nat.le_refl _, hd σ H p⟩
theorem while_by {c : TT} {tb : TS} {D : Ends} {σ : St} {H : Hp} (Pv : St -> Hp -> Prop) (μ : St -> Hp -> Nat) (h0 : Pv σ H)
  (hs : ∀ σ H, Pv σ H -> c σ H fun b H1 => if b = true then tb { D with nx := fun σ' H' => Pv σ' H' /\ μ σ' H' < μ σ H, ct := fun σ' H' => Pv σ' H' /\ μ σ' H' < μ σ H, bk := D.nx } σ H1 else D.nx σ H1)
  (mono : ∀ σ H Q Q', (∀ b H1, Q b H1 -> Q' b H1) -> c σ H Q -> c σ H Q') : tWhile c tb D σ H := by
 refine ⟨fun m σ H => m = μ σ H /\ Pv σ H, ⟨_, rfl, h0⟩, ?_⟩
 rintro m σ H ⟨rfl, p⟩
 refine mono σ H _ _ (fun b H1 q => ?_) (hs σ H p)
 cases b with
 | true => exact ⟨_, fun σ' H' ⟨p', l⟩ => ⟨_, l, rfl, p'⟩, q⟩
 | false => exact q
end L2
namespace L2
open PySem PySem.Spec PyProof.Rows
noncomputable abbrev R2 := V -> V -> Hp -> VK -> Prop
noncomputable def OpR (X : Cx) (f : Value -> Value -> Sem Value) (r : R2) : Prop :=
 ∀ (pins : List (Addr × Obj)) (s : Shared) (σ : St) (H : Hp) (x y : V) (v u : Value) (Q : VK), Inv X pins σ H s -> RelV x v -> RelV y u -> r x y H Q ->
  wpAny (model X.prog X.w) X.A (f v u) (EP X pins σ Q) X.xe s
noncomputable def UnR (X : Cx) (f : Value -> Sem Value) (r : V -> Hp -> VK -> Prop) : Prop :=
 ∀ (pins : List (Addr × Obj)) (s : Shared) (σ : St) (H : Hp) (x : V) (v : Value) (Q : VK), Inv X pins σ H s -> RelV x v -> r x H Q ->
  wpAny (model X.prog X.w) X.A (f v) (EP X pins σ Q) X.xe s
noncomputable def CallR (X : Cx) (f : Value) (r : List V -> Hp -> VK -> Prop) : Prop :=
 ∀ (pins : List (Addr × Obj)) (s : Shared) (σ : St) (H : Hp) (xs : List V) (us : List Value) (Q : VK), Inv X pins σ H s -> Vals xs us -> r xs H Q ->
  wpAny (model X.prog X.w) X.A (call f us) (EP X pins σ Q) X.xe s
noncomputable def tOp (r : R2) (ta tb : TE) : TE := fun σ H Q => ta σ H fun x H1 => tb σ H1 fun y H2 => r x y H2 Q
noncomputable def tUn (r : V -> Hp -> VK -> Prop) (ta : TE) : TE := fun σ H Q => ta σ H fun x H1 => r x H1 Q
noncomputable def rI (C : Int -> Int -> Prop) (g : Int -> Int -> V) : R2 := fun x y H Q => ∃ i j, x = .int i /\ y = .int j /\ C i j /\ Q (g i j) H
noncomputable def rI0 (g : Int -> Int -> V) : R2 := fun x y H Q => ∃ i j, x = .int i /\ y = .int j /\ Q (g i j) H
noncomputable def rU (g : Int -> V) : V -> Hp -> VK -> Prop := fun x H Q => ∃ i, x = .int i /\ Q (g i) H
section
variable {X : Cx} {a b c : Expr} {ta tb tc : TE} {pos : Pos}
theorem binT (ha : PE X a ta) (hb : PE X b tb) {pins : List (Addr × Obj)} {s : Shared} {σ : St} {H : Hp} {R : V -> V -> Hp -> Prop} (I : Inv X pins σ H s)
  (h : ta σ H fun x H1 => tb σ H1 fun y H2 => R x y H2) {Q : Value -> Shared -> Prop} {f : Value -> Value -> Sem Value}
  (hf : ∀ v u s2 x y H2, Inv X pins σ H2 s2 -> RelV x v -> RelV y u -> R x y H2 -> wpAny (model X.prog X.w) X.A (f v u) Q X.xe s2) :
  wpAny (model X.prog X.w) X.A (eval a X.env) (fun v s₁ => wpAny (model X.prog X.w) X.A (eval b X.env) (fun u s₂ => wpAny (model X.prog X.w) X.A (f v u) Q X.xe s₂) X.xe s₁) X.xe s := by
 refine thn (ha pins s σ H _ I h) fun v s1 ⟨x, H1, I1, r1, q1⟩ => ?_
 refine thn (hb pins s1 σ H1 _ I1 q1) fun u s2 ⟨y, H2, I2, r2, q2⟩ => ?_
 exact hf v u s2 x y H2 I2 r1 r2 q2
theorem pe_op {op : Operator} {r : R2} (ho : OpR X (binaryOp op) r) (ha : PE X a ta) (hb : PE X b tb) : PE X (.BinOp a op b pos) (tOp r ta tb) := by
 intro pins s σ H Q I h
 exact wpAny_BinOp (binT ha hb I h fun v u s2 x y H2 I2 rx ry q => ho pins s2 σ H2 x y v u Q I2 rx ry q)
theorem pe_un {op : UnaryOp} {r : V -> Hp -> VK -> Prop} (ho : UnR X (unaryOp op) r) (ha : PE X a ta) : PE X (.UnaryOp op a pos) (tUn r ta) := by
 intro pins s σ H Q I h
 exact UnaryOp_ (thn (ha pins s σ H _ I h) fun v s1 ⟨x, H1, I1, r1, q1⟩ => ho pins s1 σ H1 x v Q I1 r1 q1)
theorem opI {f : Value -> Value -> Sem Value} {C : Int -> Int -> Prop} {g : Int -> Int -> Int}
  (rule : ∀ (i j : Int) (t u : Tok) (s : Shared) (Q : Value -> Shared -> Prop) (E : Value -> Shared -> Prop), C i j -> Q (.int (g i j) s.toks) { s with toks := s.toks + 1 } -> wpAny (model X.prog X.w) X.A (f (.int i t) (.int j u)) Q E s) :
  OpR X f (rI C fun i j => .int (g i j)) := by
 intro pins s σ H x y v u Q I rx ry h
 obtain ⟨i, j, rfl, rfl, hc, q⟩ := h
 obtain ⟨t, rfl⟩ := rx
 obtain ⟨t', rfl⟩ := ry
 exact rule i j t t' s _ _ hc ⟨.int (g i j), H, I.tok _, ⟨_, rfl⟩, q⟩
theorem opI0 {f : Value -> Value -> Sem Value} {g : Int -> Int -> Int}
  (rule : ∀ (i j : Int) (t u : Tok) (s : Shared) (Q : Value -> Shared -> Prop) (E : Value -> Shared -> Prop), Q (.int (g i j) s.toks) { s with toks := s.toks + 1 } -> wpAny (model X.prog X.w) X.A (f (.int i t) (.int j u)) Q E s) :
  OpR X f (rI0 fun i j => .int (g i j)) := by
 intro pins s σ H x y v u Q I rx ry h
 obtain ⟨i, j, rfl, rfl, q⟩ := h
 obtain ⟨t, rfl⟩ := rx
 obtain ⟨t', rfl⟩ := ry
 exact rule i j t t' s _ _ ⟨.int (g i j), H, I.tok _, ⟨_, rfl⟩, q⟩
theorem opB0 {f : Value -> Value -> Sem Value} {g : Int -> Int -> Bool}
  (rule : ∀ (i j : Int) (t u : Tok) (s : Shared) (Q : Value -> Shared -> Prop) (E : Value -> Shared -> Prop), Q (.bool (g i j)) s -> wpAny (model X.prog X.w) X.A (f (.int i t) (.int j u)) Q E s) :
  OpR X f (rI0 fun i j => .bl (g i j)) := by
 intro pins s σ H x y v u Q I rx ry h
 obtain ⟨i, j, rfl, rfl, q⟩ := h
 obtain ⟨t, rfl⟩ := rx
 obtain ⟨t', rfl⟩ := ry
 exact rule i j t t' s _ _ ⟨.bl (g i j), H, I, rfl, q⟩
theorem op_add : OpR X (binaryOp .Add) (rI0 fun i j => .int (i + j)) := opI0 fun _ _ _ _ _ _ _ q => add_int q
theorem op_sub : OpR X (binaryOp .Sub) (rI0 fun i j => .int (i - j)) := opI0 fun _ _ _ _ _ _ _ q => sub_int q
theorem op_modN : OpR X (binaryOp .Mod) (rI (fun _ j => j ≠ 0) fun i j => .int (i.fmod j)) := opI fun _ _ _ _ _ _ _ hc q => mod_int' hc q
theorem unI {f : Value -> Sem Value} {g : Int -> Int}
  (rule : ∀ (i : Int) (t : Tok) (s : Shared) (Q : Value -> Shared -> Prop) (E : Value -> Shared -> Prop), Q (.int (g i) s.toks) { s with toks := s.toks + 1 } -> wpAny (model X.prog X.w) X.A (f (.int i t)) Q E s) :
  UnR X f (rU fun i => .int (g i)) := by
 intro pins s σ H x v Q I rx h
 obtain ⟨i, rfl, q⟩ := h
 obtain ⟨t, rfl⟩ := rx
 exact rule i t s _ _ ⟨.int (g i), H, I.tok _, ⟨_, rfl⟩, q⟩
theorem un_neg : UnR X (unaryOp .USub) (rU fun i => .int (-i)) := unI fun _ _ _ _ _ q => neg_int q
end
noncomputable def scal : V -> V -> Bool
 | .non, .non => true | .non, .int _ => true | .int _, .non => true | .non, .bl _ => true | .bl _, .non => true | .non, .str _ => true | .str _, .non => true
 | .int _, .int _ => true | .bl _, .bl _ => true | .str _, .str _ => true | .byt _, .byt _ => true
 | .int _, .str _ => true | .str _, .int _ => true | .bl _, .str _ => true | .str _, .bl _ => true
 | _, _ => false
noncomputable def rEq : R2 := fun x y H Q => scal x y = true /\ Q (.bl (decide (x = y))) H
noncomputable def rNe : R2 := fun x y H Q => scal x y = true /\ Q (.bl (!decide (x = y))) H
theorem dec_int {i j : Int} : decide (V.int i = V.int j) = (i == j) := by
 rw [Bool.eq_iff_iff]
 simp
theorem dec_bl {i j : Bool} : decide (V.bl i = V.bl j) = (i == j) := by
 rw [Bool.eq_iff_iff]
 simp
theorem dec_str {i j : Str} : decide (V.str i = V.str j) = (i == j) := by
 rw [Bool.eq_iff_iff]
 simp
theorem dec_byt {i j : Array UInt8} : decide (V.byt i = V.byt j) = (i.toList == j.toList) := by
 rw [Bool.eq_iff_iff]
 cases i
 cases j
 simp
section
variable {X : Cx} {a b c : Expr} {ta tb tc : TE} {pos : Pos}
theorem fin_bl {pins : List (Addr × Obj)} {σ : St} {H : Hp} {s : Shared} {Q : VK} {k k' : Bool} (I : Inv X pins σ H s) (q : Q (.bl k) H) (e : k = k') : EP X pins σ Q (.bool k') s := by
 subst e
 exact ⟨.bl k, H, I, rfl, q⟩
theorem op_eq : OpR X (compareOp .Eq) rEq := by
 intro pins s σ H x y v u Q I rx ry h
 obtain ⟨hs, q⟩ := h
 cases x with
 | non =>
  cases rx
  cases y with
  | non => cases ry; exact PySem.EqNone.eq_none_none (fin_bl I q (by simp))
  | bl j => cases ry; exact PySem.EqNone.eq_none_bool (fin_bl I q (by simp))
  | int j => obtain ⟨t', rfl⟩ := ry; exact PySem.EqNone.eq_none_int (fin_bl I q (by simp))
  | str j => obtain ⟨t', rfl⟩ := ry; exact PySem.EqNone.eq_none_str (fin_bl I q (by simp))
  | _ => exact absurd (show false = true from hs) Bool.false_ne_true
 | bl i =>
  cases rx
  cases y with
  | non => cases ry; exact PySem.EqNone.eq_bool_none (fin_bl I q (by simp))
  | bl j => cases ry; exact eq_bool (fin_bl I q dec_bl)
  | str j => obtain ⟨t', rfl⟩ := ry; exact PySem.EqMixed.eq_bool_str (fin_bl I q (by simp))
  | _ => exact absurd (show false = true from hs) Bool.false_ne_true
 | int i =>
  obtain ⟨t, rfl⟩ := rx
  cases y with
  | non => cases ry; exact PySem.EqNone.eq_int_none (fin_bl I q (by simp))
  | int j => obtain ⟨t', rfl⟩ := ry; exact eq_int (fin_bl I q dec_int)
  | str j => obtain ⟨t', rfl⟩ := ry; exact PySem.EqMixed.eq_int_str (fin_bl I q (by simp))
  | _ => exact absurd (show false = true from hs) Bool.false_ne_true
 | str i =>
  obtain ⟨t, rfl⟩ := rx
  cases y with
  | non => cases ry; exact PySem.EqNone.eq_str_none (fin_bl I q (by simp))
  | bl j => cases ry; exact PySem.EqMixed.eq_str_bool (fin_bl I q (by simp))
  | int j => obtain ⟨t', rfl⟩ := ry; exact PySem.EqMixed.eq_str_int (fin_bl I q (by simp))
  | str j => obtain ⟨t', rfl⟩ := ry; exact eq_str (fin_bl I q dec_str)
  | _ => exact absurd (show false = true from hs) Bool.false_ne_true
 | byt i =>
  obtain ⟨t, rfl⟩ := rx
  cases y with
  | byt j => obtain ⟨t', rfl⟩ := ry; exact PySem.W.eq_bytes (fin_bl I q dec_byt)
  | _ => exact absurd (show false = true from hs) Bool.false_ne_true
 | _ => cases y <;> exact absurd (show false = true from hs) Bool.false_ne_true
theorem op_ne : OpR X (compareOp .NotEq) rNe := by
 intro pins s σ H x y v u Q I rx ry h
 obtain ⟨hs, q⟩ := h
 cases x with
 | non =>
  cases rx
  cases y with
  | non => cases ry; exact PySem.EqNone.ne_none_none (fin_bl I q (by simp))
  | bl j => cases ry; exact PySem.EqNone.ne_none_bool (fin_bl I q (by simp))
  | int j => obtain ⟨t', rfl⟩ := ry; exact PySem.EqNone.ne_none_int (fin_bl I q (by simp))
  | str j => obtain ⟨t', rfl⟩ := ry; exact PySem.EqNone.ne_none_str (fin_bl I q (by simp))
  | _ => exact absurd (show false = true from hs) Bool.false_ne_true
 | bl i =>
  cases rx
  cases y with
  | non => cases ry; exact PySem.EqNone.ne_bool_none (fin_bl I q (by simp))
  | bl j => cases ry; exact ne_bool (fin_bl I q (congrArg not dec_bl))
  | str j => obtain ⟨t', rfl⟩ := ry; exact PySem.EqMixed.ne_bool_str (fin_bl I q (by simp))
  | _ => exact absurd (show false = true from hs) Bool.false_ne_true
 | int i =>
  obtain ⟨t, rfl⟩ := rx
  cases y with
  | non => cases ry; exact PySem.EqNone.ne_int_none (fin_bl I q (by simp))
  | int j => obtain ⟨t', rfl⟩ := ry; exact ne_int (fin_bl I q (congrArg not dec_int))
  | str j => obtain ⟨t', rfl⟩ := ry; exact PySem.EqMixed.ne_int_str (fin_bl I q (by simp))
  | _ => exact absurd (show false = true from hs) Bool.false_ne_true
 | str i =>
  obtain ⟨t, rfl⟩ := rx
  cases y with
  | non => cases ry; exact PySem.EqNone.ne_str_none (fin_bl I q (by simp))
  | bl j => cases ry; exact PySem.EqMixed.ne_str_bool (fin_bl I q (by simp))
  | int j => obtain ⟨t', rfl⟩ := ry; exact PySem.EqMixed.ne_str_int (fin_bl I q (by simp))
  | str j => obtain ⟨t', rfl⟩ := ry; exact ne_str (fin_bl I q (congrArg not dec_str))
  | _ => exact absurd (show false = true from hs) Bool.false_ne_true
 | byt i =>
  obtain ⟨t, rfl⟩ := rx
  cases y with
  | byt j => obtain ⟨t', rfl⟩ := ry; exact PySem.W.ne_bytes (fin_bl I q (congrArg not dec_byt))
  | _ => exact absurd (show false = true from hs) Bool.false_ne_true
 | _ => cases y <;> exact absurd (show false = true from hs) Bool.false_ne_true
theorem op_lt : OpR X (compareOp .Lt) (rI0 fun i j => .bl (decide (i < j))) := opB0 fun _ _ _ _ _ _ _ q => lt_int q
theorem op_gt : OpR X (compareOp .Gt) (rI0 fun i j => .bl (decide (j < i))) := opB0 fun _ _ _ _ _ _ _ q => gt_int q
theorem op_isN : OpR X (compareOp .Is) (fun x y H Q => y = .non /\ Q (.bl (decide (x = .non))) H) := by
 intro pins s σ H x y v u Q I rx ry h
 obtain ⟨rfl, q⟩ := h
 cases ry
 refine is_none_gen (fin_bl I q ?_)
 cases x <;> first
  | (cases rx; rfl)
  | (obtain ⟨t, rfl⟩ := rx; rfl)
theorem op_notN : OpR X (compareOp .IsNot) (fun x y H Q => y = .non /\ Q (.bl (!decide (x = .non))) H) := by
 intro pins s σ H x y v u Q I rx ry h
 obtain ⟨rfl, q⟩ := h
 cases ry
 refine isnot_none_gen (fin_bl I q ?_)
 cases x <;> first
  | (cases rx; rfl)
  | (obtain ⟨t, rfl⟩ := rx; rfl)
theorem nomark (b : Expr) {op : CmpOp} (h : op ≠ .In := by decide) (h2 : op ≠ .NotIn := by decide) : behindInMarks op b = false := by
 have e1 : (op == CmpOp.In) = false := by cases op <;> first | rfl | exact absurd rfl h
 have e2 : (op == CmpOp.NotIn) = false := by cases op <;> first | rfl | exact absurd rfl h2
 cases b <;> simp [behindInMarks, e1, e2]
theorem pe_cmpR {op : CmpOp} {r : R2} (ho : OpR X (compareOp op) r) (ha : PE X a ta) (hb : PE X b tb) (hm : behindInMarks op b = false) : PE X (.Compare a [op] [b] pos) (tOp r ta tb) := by
 intro pins s σ H Q I h
 exact wpAny_Compare1 (binT ha hb I h fun v u s2 x y H2 I2 rx ry q => ho pins s2 σ H2 x y v u Q I2 rx ry q) hm
noncomputable def tTest (t : TE) : TT := fun σ H Q => t σ H fun x H' => ∃ k, x = .bl k /\ Q k H'
theorem pt_cmpR {op : CmpOp} {r : R2} (ho : OpR X (compareOp op) r) (ha : PE X a ta) (hb : PE X b tb) (hm : behindInMarks op b = false) : PT X (.Compare a [op] [b] pos) (tTest (tOp r ta tb)) := by
 intro pins s σ H Q I h
 refine wpAny_isTrue_Compare1 (thn (ha pins s σ H _ I h) fun v s1 ⟨x, H1, I1, r1, q1⟩ => thn (hb pins s1 σ H1 _ I1 q1) fun u s2 ⟨y, H2, I2, r2, q2⟩ =>
  thn (ho pins s2 σ H2 x y v u _ I2 r1 r2 q2) fun c s3 ⟨z, H3, I3, r3, k, e, q3⟩ => ?_) hm
 subst e
 cases r3
 exact wpAny_truthy_bool ⟨H3, I3, q3⟩
theorem line63 : (sizeLine : Nat) < 2 ^ 63 := by rw [sizeLine_eq]; decide
theorem vals1 {x : V} {us : List Value} (r : Vals [x] us) : ∃ u, us = [u] /\ RelV x u := by
 cases r with
 | cons r1 r2 => cases r2; exact ⟨_, rfl, r1⟩
theorem vals2 {x y : V} {us : List Value} (r : Vals [x, y] us) : ∃ u w', us = [u, w'] /\ RelV x u /\ RelV y w' := by
 cases r with
 | cons r1 r2 =>
  cases r2 with
  | cons r3 r4 => cases r4; exact ⟨_, _, rfl, r1, r3⟩
theorem call_abs : CallR X (.builtin "abs") (fun xs H Q => ∃ i, xs = [.int i] /\ Q (.int (if i < 0 then -i else i)) H) := by
 intro pins s σ H xs us Q I r h
 obtain ⟨i, rfl, q⟩ := h
 obtain ⟨u, rfl, t, rfl⟩ := vals1 r
 exact call_abs_int fun u tk => ⟨.int (if i < 0 then -i else i), H, I.tok _, ⟨_, rfl⟩, q⟩
theorem call_int1 : CallR X (.type "int") (fun xs H Q => (∃ i, xs = [.int i] /\ Q (.int i) H) \/ ∃ k, xs = [.bl k] /\ Q (.int (if k then 1 else 0)) H) := by
 intro pins s σ H xs us Q I r h
 rcases h with ⟨i, rfl, q⟩ | ⟨k, rfl, q⟩
 ·obtain ⟨u, rfl, t, rfl⟩ := vals1 r
  exact call_int_int ⟨.int i, H, I, ⟨_, rfl⟩, q⟩
 ·obtain ⟨u, rfl, r1⟩ := vals1 r
  cases r1
  exact call_int_bool ⟨.int (if k then 1 else 0), H, I.tok _, ⟨_, rfl⟩, q⟩
noncomputable def LenV (K : PySem.W.Frag) (x : V) (H : Hp) (n : Nat) : Prop :=
 match x with
 | .str y => y.length <= sizeLine /\ n = y.length
 | .byt y => y.size <= sizeLine /\ n = y.size
 | .ref p => (∃ xs, SqL K H p xs /\ n = xs.length) \/ ∃ xs, SqT K H p xs /\ n = xs.length
 | _ => False
theorem call_len : CallR X (.builtin "len") (fun xs H Q => ∃ x n, xs = [x] /\ LenV X.K x H n /\ Q (.int n) H) := by
 intro pins s σ H xs us Q I r h
 obtain ⟨x, n, rfl, e, q⟩ := h
 obtain ⟨u, rfl, rx⟩ := vals1 r
 have hl := line63
 have hs : sizeLine = 16777216 := sizeLine_eq
 cases x with
 | str y =>
  obtain ⟨t, rfl⟩ := rx
  obtain ⟨hy, e'⟩ : y.length <= sizeLine /\ n = y.length := e
  subst e'
  exact len_str (by omega) ⟨.int _, H, I.tok _, ⟨_, rfl⟩, q⟩
 | byt y =>
  obtain ⟨t, rfl⟩ := rx
  obtain ⟨hy, e'⟩ : y.size <= sizeLine /\ n = y.size := e
  subst e'
  exact PySem.W.len_bytes (by omega) ⟨.int _, H, I.tok _, ⟨_, rfl⟩, q⟩
 | ref p =>
  cases rx
  have e' : (∃ xs, SqL X.K H p xs /\ n = xs.length) \/ ∃ xs, SqT X.K H p xs /\ n = xs.length := e
  rcases e' with ⟨xs, hx, e'⟩ | ⟨xs, hx, e'⟩
  ·subst e'
   obtain ⟨its, r', pl, hz⟩ := I.list hx
   have hlen := r'.length
   exact Calls.call_len_list pl.isList (by simp only [List.size_toArray]; omega) ⟨.int xs.length, H, I.tok _, ⟨_, by simp only [List.size_toArray]; rw [hlen]⟩, q⟩
  ·subst e'
   obtain ⟨its, r', pl, hz⟩ := I.tuple hx
   have hlen := r'.length
   exact len_tuple pl (by simp only [List.size_toArray]; omega) ⟨.int xs.length, H, I.tok _, ⟨_, by simp only [List.size_toArray]; rw [hlen]⟩, q⟩
 | _ => exact (show False from e).elim
end
end L2
namespace L2
open PySem PySem.Spec PyProof.Rows
structure ObjM (h : Heap) (x dx C : Addr) (mA : Str -> Option Value) : Prop where
 obj : h.get? x = some (PySem.W.instObj C dx)
 ns : h.Ns1 dx mA
 ne : dx ≠ x
theorem lookIn_ns {h : Heap} {dx : Addr} {mA : Str -> Option Value} (n : h.Ns1 dx mA) : ∃ od, h.get? dx = some od /\ ∀ name, PySem.W.lookIn name od = some (mA name) := by
 obtain ⟨o, es, ep, ho, hd, hk, _, hm⟩ := n
 refine ⟨o, ho, fun name => ?_⟩
 have e := hm name
 unfold nsFind findBy at e
 rw [<- Array.find?_toList] at e
 unfold PySem.W.lookIn
 rw [hd]
 dsimp only
 split
 ·rename_i y q
  rw [q] at e
  exact congrArg some e
 ·rename_i q
  rw [q] at e
  have a : es.toList.any (·.refKey) = false := by
   rw [List.any_eq_false]
   intro y hy
   obtain ⟨z, t, hkey⟩ := hk y (Array.mem_toList_iff.mp hy)
   simp [DictEntry.refKey, hkey]
  have a' : ¬ es.toList.any (·.refKey) = true := by rw [a]; exact Bool.false_ne_true
  rw [if_neg a']
  exact congrArg some e
theorem ObjM.look {h : Heap} {x dx C : Addr} {mA : Str -> Option Value} (I : ObjM h x dx C mA) : ∃ od, PySem.W.InstAt h x (PySem.W.instObj C dx) C (some od) /\ ∀ name, PySem.W.lookIn name od = some (mA name) :=
 let ⟨od, ho, hl⟩ := lookIn_ns I.ns
 ⟨od, ⟨I.obj, rfl, rfl, ho⟩, hl⟩
section
variable {prog : Program} {w : World} {A : Around} {E : Value -> Shared -> Prop} {s : Shared} {K : PySem.W.Frag} {x dx C f : Addr} {mA : Str -> Option Value} {name : Str} {v : Value}
end
theorem RelO.some_of {v : V} {o : Option Value} (r : RelO (some v) o) : ∃ u, o = some u /\ RelV v u := by
 cases o with
 | none => exact (show False from r).elim
 | some u => exact ⟨u, rfl, r⟩
section
variable {P : Program} {w : World} {H H' : Hp} {h h' : Heap} {a C dx : Addr} {fs fs' : List (Str × V)}
theorem ins_get (hok : HOk P w H h) (e : H a = some (.ins C dx fs)) : ∃ mA, ObjM h a dx C mA /\ (∀ f, RelO (fs.lookup f) (mA f)) /\ PySem.Within mA (fs.map (·.1)) /\ fs.length <= 1000 /\ H dx = some (.own a) := by
 obtain ⟨d, z, ne, ob, mA, n, r, q⟩ := (show ObjOk P w H h a (.ins C dx fs) from hok a _ e)
 exact ⟨mA, ⟨ob, n, ne⟩, r, q, z, d⟩
end
structure Cls (K : PySem.W.Frag) (C : Addr) : Prop where
 pg : PySem.W.plainGet K C Str.empty = true
 hd : PySem.W.hasDictIn K C = true
 po : PySem.W.plainOver K C = true
 sa : PySem.W.findIn K (.ref C) "__setattr__" = some (some (.builtin "object.__setattr__"))
theorem Cls.get {K : PySem.W.Frag} {C : Addr} (c : Cls K C) (f : Str) : PySem.W.plainGet K C f = true := c.pg
section
variable {X : Cx} {pins : List (Addr × Obj)} {σ : St} {H : Hp} {s : Shared} {a C dx : Addr} {fs : List (Str × V)} {f : Str} {v : V} {A : Around} {E : Value -> Shared -> Prop}
end
section
variable {X : Cx} {o e value : Expr} {f : Str} {pos pos' tpos : Pos} {ta tv : TE}
end
section
variable {X : Cx} {pins : List (Addr × Obj)} {σ : St} {H : Hp} {s : Shared} {A : Around} {E : Value -> Shared -> Prop} {Q : Value -> Shared -> Prop} {c : Value} {b : Bool}
inductive TyOf (K : PySem.W.Frag) (H : Hp) : V -> Value -> Prop where
 | non : TyOf K H .non (.type "NoneType")
 | bl (x : Bool) : TyOf K H (.bl x) (.type "bool")
 | int (i : Int) : TyOf K H (.int i) (.type "int")
 | str (x : Str) : TyOf K H (.str x) (.type "str")
 | flt (x : UInt64) : TyOf K H (.flt x) (.type "float")
 | lst {a : Addr} {xs : List V} (e : H a = some (.lst xs)) : TyOf K H (.ref a) (.type "list")
 | frz {a : Addr} {o : Obj} {xs : List V} (e : H a = some (.frz o (.lst xs))) : TyOf K H (.ref a) (.type "list")
 | tup {a : Addr} {xs : List V} (e : H a = some (.tup xs)) : TyOf K H (.ref a) (.type "tuple")
 | dK {a : Addr} {kvs : List (Key × V)} (e : H a = some (.dK kvs)) : TyOf K H (.ref a) (.type "dict")
 | dT {a : Addr} {kvs : List (List Key × V)} (e : H a = some (.dT kvs)) : TyOf K H (.ref a) (.type "dict")
 | ins {a C dx : Addr} {fs : List (Str × V)} (e : H a = some (.ins C dx fs)) (cl : Cls K C) (ha : PySem.W.findIn K (.ref C) "__class__" = some (some (.builtin "object.__class__")))
   (hn : PySem.W.specialIn K (.builtin "object.__class__") "__get__" = some (some (.builtin "getset_descriptor.__get__"))) (htk : PySem.W.takesIn K (.builtin "object.__class__") = some true)
   (hm : PySem.W.mroIn K C (.type "object") = some true) : TyOf K H (.ref a) (.ref C)
theorem isinst_ok {x : V} {u t : Value} (I : Inv X pins σ H s) (rx : RelV x u) (ty : TyOf X.K H x t) (e : PySem.W.kitOne X.K t c = some b) (h : ∀ tk, Q (.bool b) { s with toks := tk }) :
  wpAny (model X.prog X.w) A (call (.builtin "isinstance") [u, c]) Q E s := by
 cases ty with
 | non => cases (show u = Value.none from rx); exact PySem.W.kia_one PySem.W.kitx_none I.kIn True.intro e (fun z => nomatch z) h
 | bl y => cases (show u = Value.bool y from rx); exact PySem.W.kia_one PySem.W.kitx_bool I.kIn True.intro e (fun z => nomatch z) h
 | int i => obtain ⟨t, q⟩ := (show ∃ t, u = Value.int i t from rx); cases q; exact PySem.W.kia_one PySem.W.kitx_int I.kIn True.intro e (fun z => nomatch z) h
 | str y => obtain ⟨t, q⟩ := (show ∃ t, u = Value.str y t from rx); cases q; exact PySem.W.kia_one PySem.W.kitx_str I.kIn True.intro e (fun z => nomatch z) h
 | flt y => obtain ⟨t, q⟩ := (show ∃ t, u = Value.float y t from rx); cases q; exact PySem.W.kia_one PySem.W.kitx_float I.kIn True.intro e (fun z => nomatch z) h
 | @lst a xs ea =>
  cases (show u = Value.ref a from rx)
  obtain ⟨_, _, n, _, h1⟩ := (show ObjOk X.prog X.w H s.heap a (.lst xs) from I.hok a _ ea)
  exact PySem.W.kia_one PySem.W.kitx_list I.kIn ⟨_, h1, rfl⟩ e (fun z => nomatch z) h
 | @frz a ob xs ea =>
  cases (show u = Value.ref a from rx)
  obtain ⟨_, _, _, n, _, h1⟩ := (show ObjOk X.prog X.w H s.heap a (.frz ob (.lst xs)) from I.hok a _ ea)
  exact PySem.W.kia_one PySem.W.kitx_list I.kIn ⟨_, h1, rfl⟩ e (fun z => nomatch z) h
 | @tup a xs ea =>
  cases (show u = Value.ref a from rx)
  obtain ⟨_, _, _, p⟩ := (show ObjOk X.prog X.w H s.heap a (.tup xs) from I.hok a _ ea)
  obtain ⟨o, h1, h2, _⟩ := p
  exact PySem.W.kia_one PySem.W.kitx_tuple I.kIn ⟨o, h1, h2⟩ e (fun z => nomatch z) h
 | @dK a kvs ea =>
  cases (show u = Value.ref a from rx)
  obtain ⟨_, _, vs, _, p⟩ := (show ObjOk X.prog X.w H s.heap a (.dK kvs) from I.hok a _ ea)
  obtain ⟨o, es, ep, h1, h2, _⟩ := p
  exact PySem.W.kia_one PySem.W.kitx_dict I.kIn ⟨o, h1, h2.1⟩ e (fun z => nomatch z) h
 | @dT a kvs ea =>
  cases (show u = Value.ref a from rx)
  obtain ⟨_, _, xs, _, o, es, ep, h1, h2, _⟩ := (show ObjOk X.prog X.w H s.heap a (.dT kvs) from I.hok a _ ea)
  exact PySem.W.kia_one PySem.W.kitx_dict I.kIn ⟨o, h1, h2.1⟩ e (fun z => nomatch z) h
 | @ins a C dx fs ea cl ha hn htk hm =>
  cases (show u = Value.ref a from rx)
  obtain ⟨mA, O, _⟩ := ins_get I.hok ea
  obtain ⟨od, J, _⟩ := O.look
  exact PySem.W.kia_one (PySem.W.kitx_own (cl.get _) cl.hd ha hn htk hm) I.kIn J e (fun z => nomatch z) h
end
end L2
namespace L2
open PySem PySem.Spec PyProof.Rows
structure Room (k : Nat) (A : Around) : Prop where
 hd : A.handled = none
 dp : A.depth + 3 * k + 5 < recursionLimit
 un : A.units + 16 * k + 200 < cLine
theorem Room.mono {j k : Nat} {A : Around} (r : Room k A) (h : j <= k) : Room j A := ⟨r.hd, by have := r.dp; omega, by have := r.un; omega⟩
theorem Room.deeper {k : Nat} {A : Around} (r : Room (k + 1) A) (env : Env) : Room k (A.deeper env) :=
 ⟨r.hd, by have := r.dp; show A.depth + 1 + 3 * k + 5 < _; omega, by have := r.un; show A.units + 3 + 16 * k + 200 < _; omega⟩
theorem Room.depth {k : Nat} {A : Around} (r : Room k A) : A.depth < recursionLimit := by have := r.dp; omega
theorem Room.units {k : Nat} {A : Around} (r : Room k A) : A.units + 64 < cLine := by have := r.un; omega
noncomputable def tNil : TA := fun _ H Q => Q [] H
noncomputable def tCons (ta : TE) (tr : TA) : TA := fun σ H Q => ta σ H fun x H1 => tr σ H1 fun xs H2 => Q (x :: xs) H2
section
variable {X : Cx} {e : Expr} {es : List Expr} {te : TE} {t : TA} {pos : Pos}
theorem pa_nil : PA X [] tNil := fun _ _ _ _ H Q I h => Calls.spliced_nil ⟨[], H, I, .nil, h⟩
theorem pa_cons (ha : PE X e te) (hr : PA X es t) (hs : starEach (e :: es) X.env = (false, eval e X.env) :: starEach es X.env := by rfl) : PA X (e :: es) (tCons te t) := by
 intro pos pins s σ H Q I h
 rw [hs]
 show wpAny _ _ (spliced ((false, eval e X.env) :: backTo pos (starEach es X.env))) _ _ s
 refine Calls.spliced_cons (thn (ha pins s σ H _ I h) fun u s1 ⟨x, H1, I1, r1, q1⟩ => ?_)
 exact thn (hr pos pins s1 σ H1 _ I1 q1) fun us s2 ⟨xs, H2, I2, r2, q2⟩ => ⟨x :: xs, H2, I2, .cons r1 r2, q2⟩
noncomputable def tTup (t : TA) : TE := fun σ H Q => t σ H fun xs H1 => xs.length <= sizeLine /\ ∀ p, H1 p = none -> Q (.ref p) (upd H1 p (.tup xs))
noncomputable def tLst (t : TA) : TE := fun σ H Q => t σ H fun xs H1 => xs.length <= sizeLine /\ ∀ p, H1 p = none -> Q (.ref p) (upd H1 p (.lst xs))
theorem pe_tup {x1} (h : PA X es t) : PE X (.Tuple es x1 pos) (tTup t) := by
 intro pins s σ H Q I hq
 refine wpAny_Tuple_spliced (thn (h pos pins s σ H _ I hq) fun us s1 ⟨xs, H1, I1, r, z, q⟩ => ⟨by rw [<- r.length]; exact z, ?_⟩)
 have hf : H1 s1.heap.objs.size = none := I1.hok.fresh (Nat.le_refl _)
 refine ⟨.ref s1.heap.objs.size, upd H1 s1.heap.objs.size (.tup xs), I1.laid (t' := s1.toks) (fun b u e => Heap.get?_push_of_some _ e) (Nat.le_refl _) ?_, rfl, q _ hf⟩
 exact ⟨z, us, r, ⟨_, Heap.get?_push_size _ rfl, rfl, _, rfl⟩⟩
theorem pe_lst (h : PA X es t) : PE X (.List es pos) (tLst t) := by
 intro pins s σ H Q I hq
 refine wpAny_List_spliced (thn (h pos pins s σ H _ I hq) fun us s1 ⟨xs, H1, I1, r, z, q⟩ => ⟨by rw [<- r.length]; exact z, ?_⟩)
 have hf : H1 s1.heap.objs.size = none := I1.hok.fresh (Nat.le_refl _)
 refine ⟨.ref s1.heap.objs.size, upd H1 s1.heap.objs.size (.lst xs), I1.laid (t' := s1.toks) (fun b u e => Heap.get?_push_of_some _ e) (Nat.le_refl _) ?_, rfl, q _ hf⟩
 exact ⟨z, us, 0, r, Heap.get?_push_size _ rfl⟩
end
noncomputable abbrev Sp := List V -> Hp -> VK -> XK -> Prop
noncomputable abbrev CXT := List Env -> Hp -> Shared -> XK -> Value -> Shared -> Prop
structure Env0 (P : Program) (w : World) (K : PySem.W.Frag) (mg : Str -> Option Value) (base : Heap) (A : Around) (outer : List Env) (s : Shared) (H : Hp) : Prop where
 frames : A.frames = some outer
 mod : Mod K mg base
 bs : ∀ b o, base.get? b = some o -> s.heap.get? b = some o /\ H b = none
 bsz : base.objs.size <= s.heap.objs.size
 funs : s.heap.FunFrames base outer
 frf : ∀ b ∈ frs outer, H b = none
 hok : HOk P w H s.heap
 bare : AllBare s.gens
noncomputable def CE (outer : List Env) (P : Program) (w : World) (H : Hp) (s : Shared) (Q : VK) (u : Value) (s' : Shared) : Prop :=
 ∃ v H', s'.os = s.os /\ AllBare s'.gens /\ Un (frs outer) [] H H' s.heap s'.heap /\ HOk P w H' s'.heap /\ RelV v u /\ Q v H'
noncomputable def CR (CX : CXT) (outer : List Env) (P : Program) (w : World) (H : Hp) (s : Shared) (Q : VK) (E : XK) (r : Result) (s' : Shared) : Prop :=
 match r with
 | .ok (.ret u) => CE outer P w H s Q u s'
 | .ok _ => False
 | .error e => CX outer H s E e s'
structure FnOk (P : Program) (w : World) (K : PySem.W.Frag) (mg : Str -> Option Value) (base : Heap) (CX : CXT) (k : Nat) (f : Addr) (fd : FuncData) (ps : List Str) (sp : Sp) : Prop where
 len : ∀ vs H Q E, sp vs H Q E -> vs.length = ps.length
 run : ∀ (A : Around) (outer : List Env) (s : Shared) (H : Hp) (args : Args) (us : List Value) (vs : List V) (Q : VK) (E : XK), Room k A -> Env0 P w K mg base A outer s H -> BindsTo s fd args (ps.zip us) -> Vals vs us -> sp vs H Q E ->
  codeAny (model P w) A (.call (.ref f) args) (CR CX outer P w H s Q E) s
section
variable {X : Cx} {pins : List (Addr × Obj)} {σ : St} {H : Hp} {s s' : Shared}
theorem Inv.env0 (I : Inv X pins σ H s) : Env0 X.prog X.w X.K X.mg X.base X.A X.stack s H :=
 ⟨I.ok.frames, I.ok.mod, I.bs, Nat.le_trans I.ok.bsz I.sz, I.stack, I.stkFree, I.hok, I.bare⟩
theorem Inv.after {Q : VK} {u : Value} (I : Inv X pins σ H s) (h : CE X.stack X.prog X.w H s Q u s') : EP X pins σ Q u s' := by
 obtain ⟨v, H', os, bare, un, hok, r, q⟩ := h
 obtain ⟨hh, g, d, t, os'⟩ := s'
 obtain rfl : os' = s.os := os
 exact ⟨v, H', I.call (h' := hh) (g' := g) (d' := d) (t' := t) (ch := []) un hok bare (fun b z => absurd z (by simp)), r, q⟩
end
noncomputable def tCall (sp : Sp) (dvs : List V) (E : XK) (t : TA) : TE := fun σ H Q => t σ H fun vs H1 => sp (vs ++ dvs) H1 Q E
noncomputable def Binds (K : PySem.W.Frag) (fd : FuncData) (ps : List Str) (ds : List Value) : Prop :=
 ∀ (s : Shared) (us : List Value), K.In s.heap -> (us ++ ds).length = ps.length -> BindsTo s fd ⟨us, []⟩ (ps.zip (us ++ ds))
theorem Binds.all {K : PySem.W.Frag} {fd : FuncData} {ps : List Str} (h : ∀ us : List Value, us.length = ps.length -> bindArgs fd ⟨us, []⟩ = pure (ps.zip us)) : Binds K fd ps [] := fun s us _ hl => by
 rw [List.append_nil] at hl ⊢
 exact .of_eq (h us hl)
noncomputable def Passes (CX : CXT) (X : Cx) (E : XK) : Prop := ∀ (pins : List (Addr × Obj)) (σ : St) (H : Hp) (s : Shared) (e : Value) (s' : Shared), Inv X pins σ H s -> CX X.stack H s E e s' -> X.xe e s'
section
variable {X : Cx} {CX : CXT} {k : Nat} {f C : Addr} {fd : FuncData} {ps : List Str} {sp : Sp} {dvs : List V} {ds : List Value} {E : XK} {x m : Str} {p pos apos : Pos} {e o : Expr} {es : List Expr} {ta : TE} {t : TA}
theorem run_fn {pins : List (Addr × Obj)} {σ : St} {H : Hp} {s : Shared} {Q : VK} {us : List Value} {vs : List V} (F : FnOk X.prog X.w X.K X.mg X.base CX k f fd ps sp) (hr : Room k X.A) (hb : Binds X.K fd ps ds) (hd : Vals dvs ds) (hx : Passes CX X E)
  (I : Inv X pins σ H s) (r : Vals vs us) (h : sp (vs ++ dvs) H Q E) : wpAny (model X.prog X.w) X.A (call (.ref f) us) (EP X pins σ Q) X.xe s := by
 have r2 : Vals (vs ++ dvs) (us ++ ds) := r.append hd
 have hl : (us ++ ds).length = ps.length := by rw [<- r2.length]; exact F.len _ _ _ _ h
 refine wpAny_call (codeAny_mono (F.run X.A X.stack s H ⟨us, []⟩ (us ++ ds) (vs ++ dvs) Q E hr I.env0 (hb s us I.kIn hl) r2 h) fun r s' hq => ?_)
 cases r with
 | error e => exact hx pins σ H s e s' I hq
 | ok fl =>
  cases fl with
  | ret u => exact I.after hq
  | next => exact False.elim hq
  | brk => exact False.elim hq
  | cont => exact False.elim hq
theorem pe_call (F : FnOk X.prog X.w X.K X.mg X.base CX k f fd ps sp) (hr : Room k X.A) (hg : Gl X x) (hm : X.mg x = some (.ref f)) (hk : PySem.W.keepIn X.K (.ref f) = true) (hb : Binds X.K fd ps ds) (hd : Vals dvs ds) (hx : Passes CX X E)
  (ha : PA X (e :: es) t) (hdb : (x == ("__debug__" : Str)) = false := by decide) (he : starEach (e :: es) X.env = (false, eval e X.env) :: starEach es X.env := by rfl) (hpl : (backTo pos (starEach es X.env)).any (·.1) = false := by rfl) :
  PE X (.Call (.Name x p) (e :: es) [] pos) (tCall sp dvs E t) := by
 intro pins s σ H Q I h
 refine wpAny_Call_Name_kw (ld_glob I hg hm ?_ hdb)
 refine PySem.W.callWith_K (h₀ := X.base) I.ok.mod.kin hk (thn (ha pos pins s σ H _ I h) fun us s1 ⟨vs, H1, I1, r, q⟩ => ⟨I1.kIn, ?_⟩) he hpl
 exact run_fn F hr hb hd hx I1 r q
end
section
variable {X : Cx} {CX : CXT} {k : Nat} {f C : Addr} {fd : FuncData} {ps ks : List Str} {sp : Sp} {E : XK} {x m : Str} {p pos apos kpos : Pos} {e o : Expr} {es : List Expr} {kws : List Keyword} {te ta : TE} {t tk : TA} {nm : Option Str}
variable {g : List Value -> List Value -> List Value} {gV : List V -> List V -> List V}
end
structure FnScope (N P : List Str) (sc : Scope) : Prop where
 kind : sc.kind = .function
 co : sc.isCoroutine = false
 gen : sc.isGenerator = false
 nd : N.Nodup
 pre : N.take P.length = P
 par : ∀ x ∈ P, sc.names.lookup x = some .local \/ sc.names.lookup x = some .cell
 nofree : ∀ y ∈ sc.names, y.2 ≠ .free
theorem bindL_out {kindOf : Str -> Option NameKind} {x : Str} : ∀ {binds : List (Str × Value)} {m : Str -> Option Value}, (∀ v, (x, v) ∉ binds) -> bindL kindOf binds m x = m x
 | [], _, _ => rfl
 | (n, v) :: r, m, h => by
  unfold bindL
  rw [bindL_out fun w hw => h w (List.mem_cons_of_mem _ hw)]
  split
  ·have : x ≠ n := by rintro rfl; exact h v List.mem_cons_self
   simp [this]
  ·rfl
theorem bindC_out {kindOf : Str -> Option NameKind} {x : Str} : ∀ {binds : List (Str × Value)} {m : Str -> Option Value}, (∀ v, (x, v) ∉ binds) -> bindC kindOf binds m x = m x
 | [], _, _ => rfl
 | (n, v) :: r, m, h => by
  unfold bindC
  rw [bindC_out fun w hw => h w (List.mem_cons_of_mem _ hw)]
  split
  ·rfl
  ·have : x ≠ n := by rintro rfl; exact h v List.mem_cons_self
   simp [this]
theorem bindL_get {kindOf : Str -> Option NameKind} {x : Str} {v : Value} : ∀ {P : List Str} {vs : List Value} {i : Nat} {m : Str -> Option Value}, P.Nodup -> P[i]? = some x -> vs[i]? = some v -> kindOf x = some .local ->
  bindL kindOf (P.zip vs) m x = some v
 | [], _, _, _, _, h, _, _ => by simp at h
 | _ :: _, [], _, _, _, _, h, _ => by simp at h
 | p :: P, w :: vs, 0, m, nd, h1, h2, hk => by
  simp at h1 h2; subst h1; subst h2
  show bindL kindOf ((p, w) :: P.zip vs) m p = _
  unfold bindL
  rw [bindL_out fun v hv => (List.nodup_cons.mp nd).1 (List.of_mem_zip hv).1, if_pos hk]
  simp
 | p :: P, w :: vs, i + 1, m, nd, h1, h2, hk => by
  show bindL kindOf ((p, w) :: P.zip vs) m x = _
  unfold bindL
  exact bindL_get (i := i) (List.nodup_cons.mp nd).2 (by simpa using h1) (by simpa using h2) hk
theorem bindC_get {kindOf : Str -> Option NameKind} {x : Str} {v : Value} : ∀ {P : List Str} {vs : List Value} {i : Nat} {m : Str -> Option Value}, P.Nodup -> P[i]? = some x -> vs[i]? = some v -> kindOf x ≠ some .local ->
  bindC kindOf (P.zip vs) m x = some v
 | [], _, _, _, _, h, _, _ => by simp at h
 | _ :: _, [], _, _, _, _, h, _ => by simp at h
 | p :: P, w :: vs, 0, m, nd, h1, h2, hk => by
  simp at h1 h2; subst h1; subst h2
  show bindC kindOf ((p, w) :: P.zip vs) m p = _
  unfold bindC
  rw [bindC_out fun v hv => (List.nodup_cons.mp nd).1 (List.of_mem_zip hv).1, if_neg hk]
  simp
 | p :: P, w :: vs, i + 1, m, nd, h1, h2, hk => by
  show bindC kindOf ((p, w) :: P.zip vs) m x = _
  unfold bindC
  exact bindC_get (i := i) (List.nodup_cons.mp nd).2 (by simpa using h1) (by simpa using h2) hk
noncomputable def start (N : List Str) (vs : List V) : St := vs.map some ++ List.replicate (N.length - vs.length) none
noncomputable def cxOf (CX : CXT) (P : Program) (w : World) (K : PySem.W.Frag) (mg : Str -> Option Value) (base : Heap) (N : List Str) (qual : Str) (scope : Scope) (f : Addr) (cd : Value) (A : Around) (outer : List Env) (s : Shared) (H : Hp) (E : XK) : Cx where
 prog := P
 w := w
 K := K
 mg := mg
 base := base
 A := A.deeper (envOfC qual scope s.heap.objs.size f cd)
 N := N
 s₀ := s
 H₀ := H
 env := envOfC qual scope s.heap.objs.size f cd
 outer := outer
 stack := envOfC qual scope s.heap.objs.size f cd :: outer
 ex := []
 calm := true
 fn := fun _ => true
 pn := []
 xe := fun e s' => wpAny (model P w) (A.deeper (envOfC qual scope s.heap.objs.size f cd)) (leaving (envOfC qual scope s.heap.objs.size f cd) e) (fun _ s'' => CX outer H s E e s'') (fun e' s'' => CX outer H s E e' s'') s'
theorem cell_has {sc : Scope} {n : Nat} {x : Str} (h : sc.names.lookup x = some .cell) : ∃ c, (cellsFrom n sc.names []).lookup x = some c := by
 have q := PySem.W.cellsFrom_some sc.names n [] (.inl h)
 exact Option.isSome_iff_exists.mp q
theorem inv_start {CX : CXT} {P : Program} {w : World} {K : PySem.W.Frag} {mg : Str -> Option Value} {base : Heap} {N ps : List Str} {qual : Str} {scope : Scope} {f : Addr} {cd : Value} {A : Around} {outer : List Env} {s s1 : Shared} {H : Hp} {E : XK} {us : List Value} {vs : List V}
  (S : FnScope N ps scope) (hd : A.handled = none) (e0 : Env0 P w K mg base A outer s H) (hl : vs.length = ps.length) (r : Vals vs us)
  (x : InCallC s s.heap.objs.size (bindL (envOfC qual scope s.heap.objs.size f cd).kindOf (ps.zip us) fun _ => none) (cellsFrom (s.heap.objs.size + 1) scope.names []) (bindC (envOfC qual scope s.heap.objs.size f cd).kindOf (ps.zip us) fun _ => none) s1) :
  Inv (cxOf CX P w K mg base N qual scope f cd A outer s H E) [] (start N vs) H s1 := by
 have hpl : ps.length <= N.length := by have := congrArg List.length S.pre; rw [List.length_take] at this; omega
 obtain ⟨h1, tk, rfl, hk⟩ := x.done
 have noA : ∀ b : Addr, b ∉ (cxOf CX P w K mg base N qual scope f cd A outer s H E).ex := fun b z => absurd (show b ∈ ([] : List Addr) from z) (by simp)
 refine ⟨⟨e0.mod, S.kind, rfl, rfl, Nat.le_refl _, fun y z c h1 h2 => ?_, fun y hy => ?_, fun y c _ h => ?_, fun _ => hd, Around.frames_deeper e0.frames, .inr ⟨rfl, rfl⟩, fun b z => absurd z (noA b), e0.bs, e0.bsz, fun b _ _ => noA b, fun b z => absurd z (noA b), e0.funs, e0.frf⟩,
  rfl, e0.bare, Un.kept hk, ⟨_, x.toInCall.ns, fun i y v h1 h2 h3 => ?_⟩, fun y c h => ⟨_, x.cell y c h⟩, e0.hok.fresh (Nat.le_refl _), fun y c h => ?_, fun p hp => absurd (show p ∈ ([] : List (Addr × Obj)) from hp) (by simp), e0.hok.kept hk, ?_⟩
 ·exact name_of_addr x.apart (PySem.mem_of_lookup h1) (PySem.mem_of_lookup h2)
 ·have hy : scope.names.lookup y = some .cell \/ scope.names.lookup y = some .free := hy
  rcases hy with hy | hy
  ·exact cell_has hy
  ·exact absurd rfl (S.nofree _ (PySem.mem_of_lookup hy))
 ·exact Nat.le_of_lt (x.above y c (PySem.mem_of_lookup h))
 ·have hi : i < vs.length := by
   unfold start at h2
   by_cases hi : i < vs.length
   ·exact hi
   ·rw [List.getElem?_append_right (by simpa using hi)] at h2
    rw [List.getElem?_replicate] at h2
    split at h2 <;> cases h2
  have ha : vs[i]? = some v := by
   unfold start at h2
   rw [List.getElem?_append_left (by simpa using hi), List.getElem?_map] at h2
   cases e : vs[i]? with
   | none => rw [e] at h2; cases h2
   | some a => rw [e] at h2; cases h2; rfl
  obtain ⟨u, hu, rv⟩ := r.get ha
  have hp : ps[i]? = some y := by
   rw [<- S.pre, List.getElem?_take_of_lt (by omega)]; exact h1
  have ndP : ps.Nodup := by rw [<- S.pre]; exact S.nd.sublist (List.take_sublist _ _)
  refine ⟨u, rv, ?_⟩
  rcases S.par y (List.mem_of_getElem? hp) with k | k
  ·exact .inl ⟨k, bindL_get ndP hp hu k⟩
  ·obtain ⟨c, e⟩ := cell_has (n := s.heap.objs.size + 1) k
   refine .inr ⟨.inl k, c, e, ?_⟩
   have q := x.cell y c e
   rw [bindC_get ndP hp hu (by show scope.names.lookup y ≠ _; rw [k]; decide)] at q
   exact q
 ·exact e0.hok.fresh (Nat.le_of_lt (x.above y c (PySem.mem_of_lookup h)))
 ·unfold start
  show _ = N.length
  rw [List.length_append, List.length_map, List.length_replicate]
  omega
theorem fn_of {CX : CXT} {P : Program} {w : World} {K : PySem.W.Frag} {mg : Str -> Option Value} {base : Heap} {k : Nat} {f : Addr} {name qual : Str} {params : Arguments} {body : List Stmt} {scope : Scope} {dV kV doc pm cdv ct oc : Value} {an od : Option Addr}
  {osl : Array (Option Value)} {N ps : List Str} {sp : Sp} (lk : K.lookup f = some ⟨oc, od, .func (PySem.W.fnOf name qual params body scope dV kV doc pm an cdv ct), osl⟩) (hcd : PySem.W.codeIn K cdv qual = true) (S : FnScope N ps scope)
  (len : ∀ vs H Q E, sp vs H Q E -> vs.length = ps.length)
  (hbody : ∀ (A : Around) (outer : List Env) (s : Shared) (H : Hp) (vs : List V) (Q : VK) (E : XK), Room k (A.deeper (envOfC qual scope s.heap.objs.size f cdv)) -> sp vs H Q E ->
   ∃ t, PSs (cxOf CX P w K mg base N qual scope f cdv A outer s H E) body t /\ t { nx := fun _ H' => Q .non H', rt := Q } (start N vs) H) :
  FnOk P w K mg base CX (k + 1) f (PySem.W.fnOf name qual params body scope dV kV doc pm an cdv ct) ps sp := by
 refine ⟨len, fun A outer s H args us vs Q E hr e0 hb r hsp => ?_⟩
 have hl := len _ _ _ _ hsp
 have KX : K.In s.heap := e0.mod.kin.keeps fun b o e => (e0.bs b o e).1
 have lim : s.heap.NoLimit := e0.mod.nolimit.keeps fun b o e => (e0.bs b o e).1
 have hkind : ∀ y ∈ ps.zip us, scope.names.lookup y.1 = some .local \/ (scope.names.lookup y.1 = some .cell /\ ((cellsFrom (s.heap.objs.size + 1) scope.names []).lookup y.1).isSome = true) := fun ⟨n, v⟩ hy => by
  rcases S.par n (List.of_mem_zip hy).1 with q | q
  ·exact .inl q
  ·exact .inr ⟨q, PySem.W.cellsFrom_some _ _ _ (.inl q)⟩
 refine codeAny_call_function hr.depth (KX _ _ lk) rfl S.co S.gen rfl (PySem.W.codeRec_of KX hcd) (hb _ _ _ _ ?_)
 refine wpAny_newFunctionEnv_cells S.kind hkind fun env he s1 x => ?_
 subst he
 refine ⟨lim.keeps x.toInCall.keep, codeAny_func ?_⟩
 obtain ⟨t, ht, hq⟩ := hbody A outer s H vs Q E (hr.deeper _) hsp
 have I : Inv (cxOf CX P w K mg base N qual scope f cdv A outer s H E) [] (start N vs) H s1 := inv_start S hr.hd e0 hl r x
 refine wpAny_mono (ht [] s1 (start N vs) H _ I hq) (fun fl s' hs => ?_) fun e s' hs => hs
 have fin : ∀ {σ' : St} {H' : Hp} {v : V} {u : Value}, Inv (cxOf CX P w K mg base N qual scope f cdv A outer s H E) [] σ' H' s' -> RelV v u -> Q v H' -> CE outer P w H s Q u s' :=
  fun {σ' H' v u} J rv q => ⟨v, H', J.os, J.bare, J.base, J.hok, rv, q⟩
 cases fl with
 | ret u =>
  obtain ⟨v, σ', H', J, rv, q⟩ := hs
  exact fin J rv q
 | next =>
  obtain ⟨σ', H', J, q⟩ := hs
  exact fin (v := V.non) (u := Value.none) J rfl q
 | brk =>
  obtain ⟨_, _, _, q⟩ := hs
  exact False.elim q
 | cont =>
  obtain ⟨_, _, _, q⟩ := hs
  exact False.elim q
end L2
namespace L2
open PySem PySem.Spec PyProof.Rows
section
variable {X : Cx} {x : Str} {p pos : Pos} {e : Expr} {es : List Expr} {t : TA} {id T : String} {r : List V -> Hp -> VK -> Prop}
noncomputable def tCB (r : List V -> Hp -> VK -> Prop) (t : TA) : TE := fun σ H Q => t σ H fun vs H1 => r vs H1 Q
theorem pe_callB (hc : CallR X (.builtin id) r) (hg : Gl X x) (hm : X.mg x = none) (hv : bootBuiltins x = some (.builtin id)) (ha : PA X (e :: es) t) (hn : x ≠ "__name__" := by decide) (hdb : (x == ("__debug__" : Str)) = false := by decide)
  (he : starEach (e :: es) X.env = (false, eval e X.env) :: starEach es X.env := by rfl) (hpl : (backTo pos (starEach es X.env)).any (·.1) = false := by rfl) : PE X (.Call (.Name x p) (e :: es) [] pos) (tCB r t) := by
 intro pins s σ H Q I h
 refine wpAny_Call_Name_kw (ld_blt I hg hm hv ?_ hn hdb)
 exact PyProof.Rows.callWith_builtin1 (thn (ha pos pins s σ H _ I h) fun us s1 ⟨vs, H1, I1, r1, q1⟩ => hc pins s1 σ H1 vs us Q I1 r1 q1) he hpl
theorem pe_callTy (hc : CallR X (.type T) r) (hg : Gl X x) (hm : X.mg x = none) (hv : bootBuiltins x = some (.type T)) (ha : PA X (e :: es) t) (hn : x ≠ "__name__" := by decide) (hdb : (x == ("__debug__" : Str)) = false := by decide)
  (he : starEach (e :: es) X.env = (false, eval e X.env) :: starEach es X.env := by rfl) (hpl : (backTo pos (starEach es X.env)).any (·.1) = false := by rfl) : PE X (.Call (.Name x p) (e :: es) [] pos) (tCB r t) := by
 intro pins s σ H Q I h
 refine wpAny_Call_Name_kw (ld_blt I hg hm hv ?_ hn hdb)
 exact PyProof.Rows.callWith_type1 (thn (ha pos pins s σ H _ I h) fun us s1 ⟨vs, H1, I1, r1, q1⟩ => hc pins s1 σ H1 vs us Q I1 r1 q1) he hpl
end
end L2
namespace L2
open PySem PySem.Spec PyProof.Rows
section
variable {κ : Type} [DecidableEq κ]
noncomputable def valV (kvs : List (κ × V)) (k : κ) : Option V := (kvs.find? fun kv => decide (kv.1 = k)).map (·.2)
noncomputable def putK (kvs : List (κ × V)) (k : κ) (v : V) : List (κ × V) :=
 if (kvs.any fun kv => decide (kv.1 = k)) = true then kvs.map (fun kv => if kv.1 = k then (kv.1, v) else kv) else kvs ++ [(k, v)]
noncomputable def dropK (kvs : List (κ × V)) (k : κ) : List (κ × V) := kvs.filter fun kv => decide (kv.1 ≠ k)
theorem valV_nil {k : κ} : valV ([] : List (κ × V)) k = none := rfl
theorem valV_pos {p : κ × V} {r : List (κ × V)} {k : κ} (e : p.1 = k) : valV (p :: r) k = some p.2 := by simp [valV, List.find?_cons, e]
theorem valV_neg {p : κ × V} {r : List (κ × V)} {k : κ} (e : ¬ p.1 = k) : valV (p :: r) k = valV r k := by simp [valV, List.find?_cons, e]
theorem valV_any (k : κ) : ∀ kvs : List (κ × V), (kvs.any fun kv => decide (kv.1 = k)) = (valV kvs k).isSome
 | [] => rfl
 | p :: r => by
  rw [List.any_cons]
  by_cases e : p.1 = k
  ·simp only [valV_pos e, decide_eq_true e, Bool.true_or, Option.isSome_some]
  ·rw [valV_neg e, decide_eq_false e, Bool.false_or]; exact valV_any k r
theorem valV_map (k j : κ) (y : V) : ∀ kvs : List (κ × V), valV (kvs.map fun kv => if kv.1 = k then (kv.1, y) else kv) j = (valV kvs j).map fun x => if j = k then y else x
 | [] => rfl
 | p :: r => by
  have ih := valV_map k j y r
  rw [List.map_cons]
  by_cases h : p.1 = k
  ·rw [if_pos h]
   by_cases e : p.1 = j
   ·rw [valV_pos (p := (p.1, y)) e, valV_pos e, Option.map_some, if_pos (e.symm.trans h)]
   ·rw [valV_neg (p := (p.1, y)) e, valV_neg e, ih]
  ·rw [if_neg h]
   by_cases e : p.1 = j
   ·rw [valV_pos (p := p) e, valV_pos e, Option.map_some, if_neg (fun z => h (e.trans z))]
   ·rw [valV_neg (p := p) e, valV_neg e, ih]
theorem valV_snoc (k j : κ) (y : V) : ∀ kvs : List (κ × V), valV kvs k = none -> valV (kvs ++ [(k, y)]) j = if j = k then some y else valV kvs j
 | [], _ => by
  by_cases e : k = j
  ·rw [if_pos e.symm]; exact valV_pos (p := (k, y)) e
  ·rw [if_neg (fun z => e z.symm)]; exact valV_neg (p := (k, y)) e
 | p :: r, hn => by
  rw [List.cons_append]
  have hk : ¬ p.1 = k := fun z => by rw [valV_pos z] at hn; cases hn
  rw [valV_neg hk] at hn
  have ih := valV_snoc k j y r hn
  by_cases e : p.1 = j
  ·rw [valV_pos e, valV_pos e, if_neg (fun z => hk (e.trans z))]
  ·rw [valV_neg e, valV_neg e, ih]
theorem valV_put (kvs : List (κ × V)) (k j : κ) (y : V) : valV (putK kvs k y) j = if j = k then some y else valV kvs j := by
 unfold putK
 by_cases a : (kvs.any fun kv => decide (kv.1 = k)) = true
 ·rw [if_pos a, valV_map]
  rw [valV_any] at a
  by_cases e : j = k
  ·obtain ⟨x, hx⟩ := Option.isSome_iff_exists.mp a
   rw [if_pos e, e, hx, Option.map_some, if_pos rfl]
  ·rw [if_neg e]
   cases valV kvs j with
   | none => rfl
   | some x => rw [Option.map_some, if_neg e]
 ·rw [if_neg a]
  refine valV_snoc k j y kvs ?_
  rw [valV_any] at a
  cases q : valV kvs k with
  | none => rfl
  | some x => rw [q] at a; exact (a rfl).elim
theorem length_putK (kvs : List (κ × V)) (k : κ) (v : V) : (putK kvs k v).length <= kvs.length + 1 := by
 unfold putK
 split
 ·rw [List.length_map]; omega
 ·rw [List.length_append, List.length_cons, List.length_nil]; omega
theorem RelO.isSome_eq {o : Option V} {u : Option Value} (r : RelO o u) : o.isSome = u.isSome := by
 cases o with
 | none => cases u with
  | none => rfl
  | some _ => exact (show False from r).elim
 | some _ => cases u with
  | none => exact (show False from r).elim
  | some _ => rfl
theorem RelO.getD {o : Option V} {u : Option Value} {d : V} {d' : Value} (r : RelO o u) (rd : RelV d d') : RelV (o.getD d) (u.getD d') := by
 cases o with
 | none => cases u with
  | none => exact rd
  | some _ => exact (show False from r).elim
 | some _ => cases u with
  | none => exact (show False from r).elim
  | some _ => exact r
theorem KV.val {kvs : List (κ × V)} {vs : List (κ × Value)} (r : KV kvs vs) (k : κ) : RelO (valV kvs k) (valueAt vs k) := by
 unfold KV at r
 induction r with
 | nil => exact True.intro
 | @cons p q ps qs h t ih =>
  obtain ⟨h1, h2⟩ := h
  by_cases e : p.1 = k
  ·have e' : q.1 = k := h1.symm.trans e
   have b : valueAt (q :: qs) k = some q.2 := by simp [valueAt, List.find?_cons, e']
   rw [valV_pos e, b]; exact h2
  ·have e' : ¬ q.1 = k := fun z => e (h1.trans z)
   have b : valueAt (q :: qs) k = valueAt qs k := by simp [valueAt, List.find?_cons, e']
   rw [valV_neg e, b]; exact ih
theorem KV.any {kvs : List (κ × V)} {vs : List (κ × Value)} (r : KV kvs vs) (k : κ) : (kvs.any fun kv => decide (kv.1 = k)) = vs.any fun kv => decide (kv.1 = k) := by
 unfold KV at r
 induction r with
 | nil => rfl
 | cons h t ih => rw [List.any_cons, List.any_cons, ih, h.1]
theorem KV.repl {kvs : List (κ × V)} {vs : List (κ × Value)} (r : KV kvs vs) (k : κ) {y : V} {u : Value} (ry : RelV y u) :
  KV (kvs.map fun kv => if kv.1 = k then (kv.1, y) else kv) (vs.map fun kv => if kv.1 = k then (kv.1, u) else kv) := by
 unfold KV at r ⊢
 induction r with
 | nil => exact .nil
 | @cons p q ps qs h t ih =>
  rw [List.map_cons, List.map_cons]
  refine .cons ?_ ih
  obtain ⟨h1, h2⟩ := h
  by_cases e : p.1 = k
  ·rw [if_pos e, if_pos (h1.symm.trans e)]; exact ⟨h1, ry⟩
  ·rw [if_neg e, if_neg (fun z => e (h1.trans z))]; exact ⟨h1, h2⟩
theorem KV.put {kvs : List (κ × V)} {vs : List (κ × Value)} (r : KV kvs vs) (k : κ) {y : V} {u : Value} (ry : RelV y u) : KV (putK kvs k y) (stored vs k u) := by
 unfold putK stored
 rw [r.any k]
 by_cases e : (vs.any fun kv => decide (kv.1 = k)) = true
 ·rw [if_pos e, if_pos e]; exact r.repl k ry
 ·rw [if_neg e, if_neg e]; exact Paired.snoc r ⟨rfl, ry⟩
theorem KV.drop {kvs : List (κ × V)} {vs : List (κ × Value)} (r : KV kvs vs) (k : κ) : KV (dropK kvs k) (without vs k) := by
 unfold KV at r ⊢
 unfold dropK without
 induction r with
 | nil => exact .nil
 | @cons p q ps qs h t ih =>
  obtain ⟨h1, h2⟩ := h
  rw [List.filter_cons, List.filter_cons]
  by_cases e : p.1 = k
  ·have a : ¬ decide (p.1 ≠ k) = true := by simp [e]
   have b : ¬ decide (q.1 ≠ k) = true := by simp [h1.symm.trans e]
   rw [if_neg a, if_neg b]; exact ih
  ·have e' : ¬ q.1 = k := fun z => e (h1.trans z)
   have a : decide (p.1 ≠ k) = true := by simp [e]
   have b : decide (q.1 ≠ k) = true := by simp [e']
   rw [if_pos a, if_pos b]; exact .cons ⟨h1, h2⟩ ih
theorem KV.length {kvs : List (κ × V)} {vs : List (κ × Value)} (r : KV kvs vs) : kvs.length = vs.length := Paired.length r
theorem dropK_le (kvs : List (κ × V)) (k : κ) : (dropK kvs k).length <= kvs.length := List.length_filter_le _ _
end
theorem kV_is {P : Program} {w : World} {k : Key} {u : Value} (r : RelV (kV k) u) : (mixKind P w).is k u = true := by
 cases k with
 | inl i => obtain ⟨t, e⟩ := (show ∃ t, u = Value.int i t from r); subst e; exact mixKind_int P w i t
 | inr x => obtain ⟨t, e⟩ := (show ∃ t, u = Value.str x t from r); subst e; exact mixKind_str P w x t
theorem items_are {P : Program} {w : World} : ∀ {ks : List Key} {us : List Value}, Vals (ks.map kV) us -> ItemsAre (mixKind P w) ks us
 | [], _, r => by rw [List.map_nil] at r; cases r; exact .nil
 | k :: ks, _, r => by
  rw [List.map_cons] at r
  cases r with
  | cons h t => exact .cons (kV_is h) (items_are t)
noncomputable abbrev KT (H : Hp) : List (List Key × V) -> List (List Key × Addr × Value) -> Prop := Paired fun p q => p.1 = q.1 /\ H q.2.1 = some (.tup (p.1.map kV)) /\ RelV p.2 q.2.2
theorem KT.val {H : Hp} {kvs : List (List Key × V)} {xs : List (List Key × Addr × Value)} (r : KT H kvs xs) (k : List Key) : RelO (valV kvs k) ((atKey xs k).map (·.2)) := by
 induction r with
 | nil => exact True.intro
 | @cons p q ps qs h t ih =>
  obtain ⟨h1, _, h2⟩ := h
  by_cases e : p.1 = k
  ·have e' : q.1 = k := h1.symm.trans e
   have b : atKey (q :: qs) k = some q.2 := by simp [atKey, List.find?_cons, e']
   rw [valV_pos e, b]; exact h2
  ·have e' : ¬ q.1 = k := fun z => e (h1.trans z)
   have b : atKey (q :: qs) k = atKey qs k := by simp [atKey, List.find?_cons, e']
   rw [valV_neg e, b]; exact ih
theorem KT.repl {H : Hp} {kvs : List (List Key × V)} {xs : List (List Key × Addr × Value)} (r : KT H kvs xs) (k : List Key) {y : V} {u : Value} (ry : RelV y u) :
  KT H (kvs.map fun kv => if kv.1 = k then (kv.1, y) else kv) (xs.map (putAt k u)) := by
 induction r with
 | nil => exact .nil
 | @cons p q ps qs h t ih =>
  rw [List.map_cons, List.map_cons]
  refine .cons ?_ ih
  obtain ⟨h1, h2, h3⟩ := h
  unfold putAt
  by_cases e : p.1 = k
  ·rw [if_pos e, if_pos (h1.symm.trans e)]; exact ⟨h1, h2, ry⟩
  ·rw [if_neg e, if_neg (fun z => e (h1.trans z))]; exact ⟨h1, h2, h3⟩
theorem KT.put {H : Hp} {kvs : List (List Key × V)} {xs : List (List Key × Addr × Value)} (r : KT H kvs xs) (k : List Key) {b : Addr} {y : V} {u : Value} (hb : H b = some (.tup (k.map kV))) (ry : RelV y u) :
  KT H (putK kvs k y) (storedH xs k b u) := by
 have e : (kvs.any fun kv => decide (kv.1 = k)) = (atKey xs k).isSome := by
  rw [valV_any, (r.val k).isSome_eq, Option.isSome_map]
 unfold putK storedH
 rw [e]
 by_cases q : (atKey xs k).isSome = true
 ·rw [if_pos q, if_pos q]; exact r.repl k ry
 ·rw [if_neg q, if_neg q]; exact Paired.snoc r ⟨rfl, hb, ry⟩
theorem KT.keeps {H H' : Hp} {kvs : List (List Key × V)} {xs : List (List Key × Addr × Value)} (r : KT H kvs xs) (ht : ∀ b ys, H b = some (.tup ys) -> H' b = some (.tup ys)) : KT H' kvs xs :=
 Paired.mapP r fun _ _ z => ⟨z.1, ht _ _ z.2.1, z.2.2⟩
section
variable {P : Program} {w : World} {H : Hp} {h : Heap} {a : Addr}
theorem rd_of {u : HO} (ok : HOk P w H h) (e : Rd H a u) : ObjOk P w H h a u := e.ok ok
theorem dk_rd {kvs : List (Key × V)} (ok : HOk P w H h) (e : Rd H a (.dK kvs)) : kvs.length <= sizeLine /\ (a == sysModules) = false /\ ∃ vs, KV kvs vs /\ h.DictOf (mixKind P w) a vs :=
 show ObjOk P w H h a (.dK kvs) from rd_of ok e
theorem dk_of {kvs : List (Key × V)} (ok : HOk P w H h) (e : H a = some (.dK kvs)) : kvs.length <= sizeLine /\ (a == sysModules) = false /\ ∃ vs, KV kvs vs /\ h.DictOf (mixKind P w) a vs := dk_rd ok (.inl e)
theorem key_of {ks : List Key} (ok : HOk P w H h) (e : H a = some (.tup (ks.map kV))) : (tupleKind (mixKind P w)).is h ks a := by
 obtain ⟨_, its, r, o, h1, h2, n, h3⟩ := (show ObjOk P w H h a (.tup (ks.map kV)) from ok a _ e)
 exact ⟨o, its.toArray, n, h1, h2, h3, by simpa using items_are r⟩
theorem dt_rd {kvs : List (List Key × V)} (ok : HOk P w H h) (e : Rd H a (.dT kvs)) : kvs.length <= sizeLine /\ (a == sysModules) = false /\
  ∃ xs, KT H kvs xs /\ h.DictOfH (tupleKind (mixKind P w)) a xs := by
 obtain ⟨z, y, xs, r, o, es, ep, h1, h2, h3, h4, h5⟩ := (show ObjOk P w H h a (.dT kvs) from rd_of ok e)
 refine ⟨z, y, xs, r, o, es, ep, h1, h2, h3, h4, fun x hx => ?_, h5⟩
 have all : ∀ {l : List (List Key × V)} {m : List (List Key × Addr × Value)}, KT H l m -> ∀ x ∈ m, (tupleKind (mixKind P w)).is h x.1 x.2.1 := by
  intro l m q
  induction q with
  | nil => intro x hx; exact nomatch hx
  | @cons p q ps qs hq t ih =>
   intro x hx
   rcases List.mem_cons.mp hx with e | hx
   ·subst e
    exact key_of ok (by rw [<- hq.1]; exact hq.2.1)
   ·exact ih x hx
 exact all r x hx
theorem dt_of {kvs : List (List Key × V)} (ok : HOk P w H h) (e : H a = some (.dT kvs)) : kvs.length <= sizeLine /\ (a == sysModules) = false /\
  ∃ xs, KT H kvs xs /\ h.DictOfH (tupleKind (mixKind P w)) a xs := dt_rd ok (.inl e)
end
noncomputable def DGet (H : Hp) (a : Addr) (y : V) (r : Option V) : Prop :=
 (∃ kvs k, Rd H a (.dK kvs) /\ y = kV k /\ r = valV kvs k) \/ ∃ kvs k b, Rd H a (.dT kvs) /\ y = .ref b /\ H b = some (.tup (k.map kV)) /\ r = valV kvs k
noncomputable def DPut (H : Hp) (a : Addr) (y v : V) (H' : Hp) : Prop :=
 (∃ kvs k, H a = some (.dK kvs) /\ y = kV k /\ kvs.length < sizeLine /\ H' = upd H a (.dK (putK kvs k v))) \/
 ∃ kvs k b, H a = some (.dT kvs) /\ y = .ref b /\ H b = some (.tup (k.map kV)) /\ kvs.length < sizeLine /\ H' = upd H a (.dT (putK kvs k v))
theorem DGet.k {H : Hp} {a : Addr} {kvs : List (Key × V)} {k : Key} (e : H a = some (.dK kvs)) : DGet H a (kV k) (valV kvs k) := .inl ⟨kvs, k, .inl e, rfl, rfl⟩
theorem DPut.k {H : Hp} {a : Addr} {kvs : List (Key × V)} {k : Key} {v : V} (e : H a = some (.dK kvs)) (hl : kvs.length < sizeLine) : DPut H a (kV k) v (upd H a (.dK (putK kvs k v))) := .inl ⟨kvs, k, e, rfl, hl, rfl⟩
section
variable {X : Cx} {pins : List (Addr × Obj)} {σ : St} {H : Hp} {s : Shared} {a : Addr} {y v : V} {u r : Value} {o : Option V} {A : Around} {E : Value -> Shared -> Prop}
theorem Inv.big (I : Inv X pins σ H s) : sysModules < s.heap.objs.size := by
 have h : mainGlobals < s.heap.objs.size := (I.mod.glob.keeps I.bk).lt
 exact Nat.lt_trans (by decide) h
theorem d_getItem {Q : Value -> Shared -> Prop} (hu : A.units + 1 < cLine) (I : Inv X pins σ H s) (g : DGet H a y (some v)) (ry : RelV y u) (h : ∀ w' s', Inv X pins σ H s' -> RelV v w' -> Q w' s') :
  wpAny (model X.prog X.w) A (getItem (.ref a) u) Q E s := by
 rcases g with ⟨kvs, k, e, ey, l⟩ | ⟨kvs, k, b, e, ey, eb, l⟩
 ·subst ey
  obtain ⟨z, hd, vs, rel, dd⟩ := dk_rd I.hok e
  obtain ⟨w', hw, rw'⟩ := RelO.some_of (v := v) (o := valueAt vs k) (by rw [l]; exact rel.val k)
  exact wpAny_getItem_of (kV_is ry) dd.mapOf hw (h w' _ (I.tok _) rw')
 ·subst ey
  cases (show u = Value.ref b from ry)
  obtain ⟨z, hd, xs, rel, dd⟩ := dt_rd I.hok e
  obtain ⟨w', hw, rw'⟩ := RelO.some_of (v := v) (o := (atKey xs k).map (·.2)) (by rw [l]; exact rel.val k)
  obtain ⟨p, hp, hp2⟩ := Option.map_eq_some_iff.mp hw
  refine wpAny_getItem_heap (tupleKind_room_in1 hu) (key_of I.hok eb) dd hp ?_
  rw [hp2]
  exact h w' _ (I.tok _) rw'
theorem d_in {Q : Value -> Shared -> Prop} (hu : A.units + 1 < cLine) (I : Inv X pins σ H s) (g : DGet H a y o) (ry : RelV y u) (h : ∀ s', Inv X pins σ H s' -> Q (.bool o.isSome) s') :
  wpAny (model X.prog X.w) A (compareOp .In u (.ref a)) Q E s := by
 rcases g with ⟨kvs, k, e, ey, l⟩ | ⟨kvs, k, b, e, ey, eb, l⟩
 ·subst ey
  obtain ⟨z, hd, vs, rel, dd⟩ := dk_rd I.hok e
  refine wpAny_in_of (kV_is ry) hd dd.mapOf ?_
  rw [<- (rel.val k).isSome_eq, <- l]
  exact h _ (I.tok _)
 ·subst ey
  cases (show u = Value.ref b from ry)
  obtain ⟨z, hd, xs, rel, dd⟩ := dt_rd I.hok e
  refine wpAny_in_heap (tupleKind_room_in1 hu) (key_of I.hok eb) hd dd ?_
  have q := (rel.val k).isSome_eq
  rw [Option.isSome_map] at q
  rw [<- q, <- l]
  exact h _ (I.tok _)
theorem d_notIn {Q : Value -> Shared -> Prop} (hu : A.units + 1 < cLine) (I : Inv X pins σ H s) (g : DGet H a y o) (ry : RelV y u) (h : ∀ s', Inv X pins σ H s' -> Q (.bool (!o.isSome)) s') :
  wpAny (model X.prog X.w) A (compareOp .NotIn u (.ref a)) Q E s := by
 rcases g with ⟨kvs, k, e, ey, l⟩ | ⟨kvs, k, b, e, ey, eb, l⟩
 ·subst ey
  obtain ⟨z, hd, vs, rel, dd⟩ := dk_rd I.hok e
  refine wpAny_notIn_of (kV_is ry) hd dd.mapOf ?_
  rw [<- (rel.val k).isSome_eq, <- l]
  exact h _ (I.tok _)
 ·subst ey
  cases (show u = Value.ref b from ry)
  obtain ⟨z, hd, xs, rel, dd⟩ := dt_rd I.hok e
  refine wpAny_notIn_heap (tupleKind_room_in1 hu) (key_of I.hok eb) hd dd ?_
  have q := (rel.val k).isSome_eq
  rw [Option.isSome_map] at q
  rw [<- q, <- l]
  exact h _ (I.tok _)
theorem d_write {h' : Heap} {t' : Nat} {ob : HO} (I : Inv X pins σ H s) (mu : Mut (H a)) (hs : Heap.SameBut a s.heap h') (he : ∃ q, h'.get? a = some q) (new : ObjOk X.prog X.w (upd H a ob) h' a ob) :
  Inv X pins σ (upd H a ob) { s with heap := h', toks := t' } :=
 I.write (x := a) (e := a) mu (.inl rfl) (fun b q hb z => (hs.2 b hb).trans z) he new
theorem dk_new {P : Program} {w : World} {H' : Hp} {h' : Heap} {kvs : List (Key × V)} {vs : List (Key × Value)} (z : kvs.length <= sizeLine) (hd : (a == sysModules) = false) (rel : KV kvs vs) (dd : h'.DictOf (mixKind P w) a vs) :
  ObjOk P w H' h' a (.dK kvs) := ⟨z, hd, vs, rel, dd⟩
theorem d_setItem {H' : Hp} {Q : Unit -> Shared -> Prop} (hu : A.units + 1 < cLine) (I : Inv X pins σ H s) (g : DPut H a y v H') (ry : RelV y u) (rv : RelV v r) (h : ∀ s', Inv X pins σ H' s' -> Q () s') :
  wpAny (model X.prog X.w) A (setItem (.ref a) u r) Q E s := by
 rcases g with ⟨kvs, k, e, ey, l, eH⟩ | ⟨kvs, k, b, e, ey, eb, l, eH⟩
 ·subst ey eH
  obtain ⟨z, hd, vs, rel, dd⟩ := dk_of I.hok e
  have hz : vs.length <= sizeLine := by rw [<- rel.length]; exact z
  have hl : (putK kvs k v).length <= sizeLine := by have := length_putK kvs k v; omega
  refine wpAny_setItem_pairs (hsz := hz) (kV_is ry) dd fun h' dd' hs => h _ ?_
  have he : ∃ q, h'.get? a = some q := let ⟨q, _, _, hq, _⟩ := dd'; ⟨q, hq⟩
  exact d_write I (by rw [e]; exact True.intro) hs he (dk_new hl hd (rel.put k rv) dd')
 ·subst ey eH
  cases (show u = Value.ref b from ry)
  obtain ⟨z, hd, xs, rel, dd⟩ := dt_of I.hok e
  have hz : xs.length <= sizeLine := by rw [<- Paired.length rel]; exact z
  have hl : (putK kvs k v).length <= sizeLine := by have := length_putK kvs k v; omega
  refine wpAny_setItem_heap (hsz := hz) (tupleKind_room_in1 hu) (key_of I.hok eb) dd fun h' dd' hs => h _ ?_
  obtain ⟨q, es, ep, hq, h2, h3, h4, _, h5⟩ := dd'
  refine d_write I (by rw [e]; exact True.intro) hs ⟨q, hq⟩ ⟨hl, hd, _, (rel.put k eb rv).keeps fun c ys ec => ?_, q, es, ep, hq, h2, h3, h4, h5⟩
  rw [upd_ne (ne_of ec e (fun z => nomatch z))]
  exact ec
end
section
variable {X : Cx} {pins : List (Addr × Obj)} {σ : St} {H : Hp} {s : Shared} {a : Addr} {kvs : List (Key × V)} {k : Key} {u : Value} {A : Around} {E : Value -> Shared -> Prop}
theorem d_pop {v : V} {more : List Value} {Q : Value -> Shared -> Prop} (I : Inv X pins σ H s) (e : H a = some (.dK kvs)) (ry : RelV (kV k) u) (l : valV kvs k = some v) (hm : more = [] \/ ∃ x, more = [x])
  (h : ∀ w' s', Inv X pins σ (upd H a (.dK (dropK kvs k))) s' -> RelV v w' -> Q w' s') : wpAny (model X.prog X.w) A (call (.builtin "dict.pop") (.ref a :: u :: more)) Q E s := by
 obtain ⟨z, hd, vs, rel, dd⟩ := dk_of I.hok e
 obtain ⟨w', hw, rw'⟩ := RelO.some_of (v := v) (o := valueAt vs k) (by rw [<- l]; exact rel.val k)
 have hp : (keyPart u).isSome = true := by
  cases k with
  | inl i => obtain ⟨t, q⟩ := (show ∃ t, u = Value.int i t from ry); subst q; rfl
  | inr x => obtain ⟨t, q⟩ := (show ∃ t, u = Value.str x t from ry); subst q; rfl
 have ha : argsOk "dict.pop" ⟨.ref a :: u :: more, []⟩ := by
  rcases hm with q | ⟨x, q⟩
  ·subst q; exact PySem.F.args_dict_pop_2 _ _
  ·subst q; exact PySem.F.args_dict_pop_3 _ _ _
 refine call_meetsIn PySem.F.slot_dict_pop dd.typeIs PySem.F.entry_dict_pop ha (meets_dict_pop_there (mixKind X.prog X.w) a (kV_is ry) more hm hp)
  ⟨vs, w', dd, by rw [<- rel.length]; exact z, hw, fun h' dd' hs => h w' _ ?_ rw'⟩
 have he : ∃ q, h'.get? a = some q := let ⟨q, _, _, hq, _⟩ := dd'; ⟨q, hq⟩
 exact d_write I (by rw [e]; exact True.intro) hs he (dk_new (Nat.le_trans (dropK_le kvs k) z) hd (rel.drop k) dd')
end
noncomputable def NoSl (i : Expr) : Prop := ∀ ov iv, subscripted i false ov iv = operate [ov, iv] (getItem ov iv)
theorem subD_of {prog : Program} {w : World} {A : Around} {E : Value -> Shared -> Prop} {s : Shared} {env : Env} {value slice : Expr} {pos : Pos} {T id : String} {Q : Value -> Shared -> Prop}
  (hl : typeLookup (.type T) "__getitem__" = pure (some (.builtin id))) (hs : NoSl slice)
  (h : wpAny (model prog w) A (eval value env) (fun o s₁ => wpAny (model prog w) A (eval slice env) (fun i s₂ => s₂.TypeIs o T /\ wpAny (model prog w) A (getItem o i) Q E s₂) E s₁) E s) :
  wpAny (model prog w) A (eval (.Subscript value slice pos) env) Q E s := by
 refine Subscript_ (wpAny_mono h (fun o s₁ h₁ => wpAny_mono h₁ (fun i s₂ h₂ => ?_) fun _ _ x => x) fun _ _ x => x)
 obtain ⟨hT, h₂⟩ := h₂
 unfold subscriptTail
 refine wpAny_bind ?_
 rw [getitemInPython_of_ne hT.not_modules]
 refine wpAny_bind (wpAny_specialOf hT hl ?_)
 have fin : wpAny (model prog w) A (subscripted slice false o i) (fun r s₃ => wpAny (model prog w) A (letTemporaryGo value o r >>= fun _ => pure r) Q E s₃) E s₂ := by
  rw [hs o i]
  exact wpAny_operating (wpAny_mono h₂ (fun r s₃ h₃ => wpAny_bind (wpAny_letTemporaryGo (wpAny_pure h₃))) fun _ _ x => x)
 first
  | exact wpAny_pure (wpAny_bind fin)
  | exact wpAny_bind (wpAny_pure (wpAny_bind fin))
  | exact wpAny_bind fin
theorem dict_typeIs {X : Cx} {pins : List (Addr × Obj)} {σ : St} {H : Hp} {s : Shared} {a : Addr} {y : V} {o : Option V} (I : Inv X pins σ H s) (g : DGet H a y o) : s.TypeIs (.ref a) "dict" := by
 rcases g with ⟨kvs, k, e, _, _⟩ | ⟨kvs, k, b, e, _, _, _⟩
 ·obtain ⟨_, _, vs, _, dd⟩ := dk_rd I.hok e
  exact dd.typeIs
 ·obtain ⟨_, _, xs, _, dd⟩ := dt_rd I.hok e
  exact dd.typeIs
noncomputable def tDGet (td ty : TE) : TE := fun σ H Q => td σ H fun x H1 => ty σ H1 fun y H2 => ∃ a v, x = .ref a /\ DGet H2 a y (some v) /\ Q v H2
noncomputable def tDIn (ty td : TE) : TE := fun σ H Q => ty σ H fun y H1 => td σ H1 fun x H2 => ∃ a o, x = .ref a /\ DGet H2 a y o /\ Q (.bl o.isSome) H2
noncomputable def tDNotIn (ty td : TE) : TE := fun σ H Q => ty σ H fun y H1 => td σ H1 fun x H2 => ∃ a o, x = .ref a /\ DGet H2 a y o /\ Q (.bl (!o.isSome)) H2
noncomputable def sDPut (td ty tv : TE) : TS := fun D σ H => tv σ H fun v H1 => td σ H1 fun x H2 => ty σ H2 fun y H3 => ∃ a H4, x = .ref a /\ DPut H3 a y v H4 /\ D.nx σ H4
section
variable {X : Cx} {o i e value : Expr} {pos pos' tpos : Pos} {td ty tv : TE}
theorem pe_dget (hu : X.A.units + 1 < cLine) (ho : PE X o td) (hi : PE X i ty) (hs : NoSl i) : PE X (.Subscript o i pos) (tDGet td ty) := by
 intro pins s σ H Q I h
 refine subD_of PySem.F.slot_dict_getitem.lookup hs (thn (ho pins s σ H _ I h) fun u s1 ⟨x, H1, I1, rx, q1⟩ => thn (hi pins s1 σ H1 _ I1 q1) fun iv s2 ⟨y, H2, I2, ry, a, v, ex, g, q2⟩ => ?_)
 subst ex
 obtain rfl : u = Value.ref a := rx
 exact ⟨dict_typeIs I2 g, d_getItem hu I2 g ry fun w' s3 I3 rw' => ⟨v, H2, I3, rw', q2⟩⟩
theorem pc_din (hu : X.A.units + 1 < cLine) (hi : PE X i ty) (ho : PE X o td) : PC X .In i o (tDIn ty td) := by
 intro pins s σ H Q I h
 refine thn (hi pins s σ H _ I h) fun iv s1 ⟨y, H1, I1, ry, q1⟩ => thn (ho pins s1 σ H1 _ I1 q1) fun u s2 ⟨x, H2, I2, rx, a, ov, ex, g, q2⟩ => ?_
 subst ex
 obtain rfl : u = Value.ref a := rx
 exact d_in hu I2 g ry fun s3 I3 => ⟨.bl ov.isSome, H2, I3, rfl, q2⟩
theorem pc_dnotin (hu : X.A.units + 1 < cLine) (hi : PE X i ty) (ho : PE X o td) : PC X .NotIn i o (tDNotIn ty td) := by
 intro pins s σ H Q I h
 refine thn (hi pins s σ H _ I h) fun iv s1 ⟨y, H1, I1, ry, q1⟩ => thn (ho pins s1 σ H1 _ I1 q1) fun u s2 ⟨x, H2, I2, rx, a, ov, ex, g, q2⟩ => ?_
 subst ex
 obtain rfl : u = Value.ref a := rx
 exact d_notIn hu I2 g ry fun s3 I3 => ⟨.bl (!ov.isSome), H2, I3, rfl, q2⟩
theorem ps_dput (hu : X.A.units + 1 < cLine) (ho : PE X o td) (hi : PE X i ty) (hv : PE X value tv) (hs : swapsWith value (some (.Subscript o i pos')) pos.line X.env = pure false) :
  PS X (.Assign [.Subscript o i pos'] value pos) (sDPut td ty tv) := by
 intro pins s σ H D I h
 refine wpAny_Assign_Subscript (thn (hv pins s σ H _ I h) fun r s1 ⟨v, H1, I1, rv, q1⟩ => thn (ho pins s1 σ H1 _ I1 q1) fun u s2 ⟨x, H2, I2, rx, q2⟩ => thn (hi pins s2 σ H2 _ I2 q2) fun iv s3 ⟨y, H3, I3, ry, a, H4, ex, g, q3⟩ => ?_) hs
 subst ex
 obtain rfl : u = Value.ref a := rx
 exact d_setItem hu I3 g ry rv fun s4 I4 => ⟨σ, H4, I4, q3⟩
end
theorem dk_empty {P : Program} {w : World} {H : Hp} (h : Heap) (hb : sysModules < h.objs.size) : ObjOk P w H (h.push { cls := .type "dict", data := .dict #[] }) h.objs.size (.dK []) :=
 ⟨Nat.zero_le _, beq_eq_false_iff_ne.mpr (Ne.symm (Nat.ne_of_lt hb)), [], .nil, Heap.DictOf.new h⟩
noncomputable def tDNewK : TE := fun _ H Q => ∀ p, H p = none -> Q (.ref p) (upd H p (.dK []))
section
variable {X : Cx} {pos : Pos}
theorem pe_dnewK : PE X (.Dict [] [] pos) tDNewK := fun pins s σ H Q I h =>
 wpAny_Dict_empty ⟨.ref s.heap.objs.size, _, I.laid (a := s.heap.objs.size) (o := .dK []) (t' := s.toks) (fun _ _ q => Heap.get?_push_of_some _ q) (Nat.le_refl _) (dk_empty s.heap I.big), rfl, h _ (I.hok.fresh (Nat.le_refl _))⟩
end
noncomputable def tPairs : List (TE × TE) -> St -> Hp -> (List (V × V) -> Hp -> Prop) -> Prop
 | [], _, H, Q => Q [] H
 | (tk, tv) :: r, σ, H, Q => tk σ H fun x H1 => tv σ H1 fun y H2 => tPairs r σ H2 fun ps H3 => Q ((x, y) :: ps) H3
noncomputable abbrev VV : List (V × V) -> List (Value × Value) -> Prop := Paired fun p q => RelV p.1 q.1 /\ RelV p.2 q.2
noncomputable def PPs (X : Cx) (pos : Pos) (keys : List (Option Expr)) (values : List Expr) (trs : List (TE × TE)) : Prop :=
 ∀ (pins : List (Addr × Obj)) (s : Shared) (σ : St) (H : Hp) (Q : List (V × V) -> Hp -> Prop), Inv X pins σ H s -> tPairs trs σ H Q ->
  wpAny (model X.prog X.w) X.A (evalPairs (pairTrees keys values X.env pos)) (fun vs s' => ∃ ps H', Inv X pins σ H' s' /\ VV ps vs /\ Q ps H') X.xe s
theorem pps_nil {X : Cx} {pos : Pos} : PPs X pos [] [] [] := fun pins s σ H Q I h => pairTrees_nil_walk ⟨[], H, I, .nil, h⟩
theorem pps_cons {X : Cx} {pos : Pos} {k v : Expr} {ks : List (Option Expr)} {vs : List Expr} {tk tv : TE} {trs : List (TE × TE)} (hk : PE X k tk) (hv : PE X v tv) (hr : PPs X pos ks vs trs) :
  PPs X pos (some k :: ks) (v :: vs) ((tk, tv) :: trs) := fun pins s σ H Q I h =>
 pairTrees_cons_walk (thn (hk pins s σ H _ I h) fun u s1 ⟨x, H1, I1, rx, q1⟩ => thn (hv pins s1 σ H1 _ I1 q1) fun w2 s2 ⟨y, H2, I2, ry, q2⟩ =>
  thn (hr pins s2 σ H2 _ I2 q2) fun ws s3 ⟨ps, H3, I3, rel, q3⟩ => ⟨(x, y) :: ps, H3, I3, .cons ⟨rx, ry⟩ rel, q3⟩)
noncomputable def mergeK (kvs more : List (Key × V)) : List (Key × V) := more.foldl (fun acc kv => putK acc kv.1 kv.2) kvs
theorem KV.merge : ∀ {more : List (Key × V)} {rs : List (Key × Value)} {kvs : List (Key × V)} {vs : List (Key × Value)}, KV more rs -> KV kvs vs -> KV (mergeK kvs more) (merged vs rs) := by
 intro more rs kvs vs r
 unfold KV at r
 induction r generalizing kvs vs with
 | nil => intro q; exact q
 | @cons p q ps qs h t ih =>
  intro r0
  have e : KV (putK kvs p.1 p.2) (stored vs q.1 q.2) := by
   have := r0.put p.1 h.2
   rw [<- h.1]; exact this
  exact ih e
theorem length_mergeK : ∀ (more kvs : List (Key × V)), (mergeK kvs more).length <= kvs.length + more.length
 | [], kvs => by show kvs.length <= kvs.length + 0; omega
 | p :: r, kvs => by
  have h1 := length_mergeK r (putK kvs p.1 p.2)
  have h2 := length_putK kvs p.1 p.2
  show (mergeK (putK kvs p.1 p.2) r).length <= _
  rw [List.length_cons]; omega
theorem carries_of {P : Program} {w : World} : ∀ {kvs : List (Key × V)} {ws : List (Value × Value)}, VV (kvs.map fun kv => (kV kv.1, kv.2)) ws -> ∃ rs, Carries (mixKind P w) ws rs /\ KV kvs rs
 | [], _, r => by rw [List.map_nil] at r; cases r; exact ⟨[], True.intro, .nil⟩
 | p :: kvs, _, r => by
  rw [List.map_cons] at r
  cases r with
  | @cons a b as bs h t =>
   obtain ⟨rs, c, q⟩ := carries_of (P := P) (w := w) t
   obtain ⟨b1, b2⟩ := b
   exact ⟨(p.1, b2) :: rs, ⟨kV_is h.1, rfl, c⟩, .cons ⟨rfl, h.2⟩ q⟩
noncomputable def tDisp (trs : List (TE × TE)) : TE := fun σ H Q => ∀ p, H p = none -> tPairs trs σ (upd H p (.dK [])) fun ps H2 => H2 p = some (.dK []) /\ ∃ kvs : List (Key × V), ps = kvs.map (fun kv => (kV kv.1, kv.2)) /\ kvs.length <= 15 /\ Q (.ref p) (upd H2 p (.dK (mergeK [] kvs)))
theorem pe_disp {X : Cx} {pos : Pos} {keys : List (Option Expr)} {values : List Expr} {trs : List (TE × TE)} (h : PPs X pos keys values trs) (hall : keys.all (·.isSome) = true) (hl : keys.length = values.length) (h0 : keys ≠ [])
  (h15 : keys.length <= 15) : PE X (.Dict keys values pos) (tDisp trs) := by
 intro pins s σ H Q I q
 have hn := I.hok.fresh (Nat.le_refl s.heap.objs.size)
 have I1 := I.laid (a := s.heap.objs.size) (o := .dK []) (h' := s.heap.push { cls := .type "dict", data := .dict #[] }) (t' := s.toks) (fun _ _ q => Heap.get?_push_of_some _ q) (Nat.le_refl _) (dk_empty s.heap I.big)
 refine wpAny_Dict_walk (knd := mixKind X.prog X.w) hall hl h0 h15 (thn (h pins _ σ _ _ I1 (q _ hn)) fun ws s2 ⟨ps, H2, I2, rel, e, kvs, ep, lk, q2⟩ => ?_)
 subst ep
 obtain ⟨rs, c, rk⟩ := carries_of (P := X.prog) (w := X.w) rel
 obtain ⟨z, hd, vs0, r0, dd⟩ := dk_of I2.hok e
 cases r0
 refine ⟨rs, c, dd, fun h' dd' hs => ⟨.ref s.heap.objs.size, _, ?_, rfl, q2⟩⟩
 have hz : (mergeK [] kvs).length <= sizeLine := by
  have h1 := length_mergeK kvs []
  rw [List.length_nil] at h1
  rw [sizeLine_eq]; omega
 have he : ∃ q, h'.get? s.heap.objs.size = some q := let ⟨q, _, _, hq, _⟩ := dd'; ⟨q, hq⟩
 exact d_write I2 (by rw [e]; exact True.intro) hs he (dk_new hz hd (rk.merge .nil) dd')
structure M1 (X : Cx) (o : Expr) (m : Str) (apos : Pos) (e : Expr) (cpos : Pos) : Prop where
 base : attributeBase o m X.env (eval o X.env) = eval o X.env
 few : ((backTo cpos (starEach [e] X.env)).all (fun x => !x.1) && (backToKw cpos (keywordEach [] X.env)).all (fun x => x.1.isSome)
  && decide (([e] : List Expr).length + ([] : List Keyword).length + (if ([] : List Keyword).isEmpty then 0 else 1) < 30)) = true
 line : (apos.endLine == cpos.line) = true
 trees : backTo cpos (starEach [e] X.env) = [(false, eval e X.env)]
structure M2 (X : Cx) (o : Expr) (m : Str) (apos : Pos) (e f : Expr) (cpos : Pos) : Prop where
 base : attributeBase o m X.env (eval o X.env) = eval o X.env
 few : ((backTo cpos (starEach [e, f] X.env)).all (fun x => !x.1) && (backToKw cpos (keywordEach [] X.env)).all (fun x => x.1.isSome)
  && decide (([e, f] : List Expr).length + ([] : List Keyword).length + (if ([] : List Keyword).isEmpty then 0 else 1) < 30)) = true
 line : (apos.endLine == cpos.line) = true
 trees : backTo cpos (starEach [e, f] X.env) = [(false, eval e X.env), (false, eval f X.env)]
noncomputable def IsD (H : Hp) (a : Addr) : Prop := (∃ kvs, Rd H a (.dK kvs)) \/ ∃ kvs, Rd H a (.dT kvs)
theorem isD_at {X : Cx} {pins : List (Addr × Obj)} {σ : St} {H : Hp} {s : Shared} {a : Addr} (I : Inv X pins σ H s) (d : IsD H a) :
  s.TypeIs (.ref a) "dict" /\ (∀ b, Value.ref a = .ref b -> ∃ ob, s.heap.get? b = some ob /\ ob.dict = none) /\ (a == sysModules) = false := by
 rcases d with ⟨kvs, e⟩ | ⟨kvs, e⟩
 ·obtain ⟨_, hd, vs, _, dd⟩ := dk_rd I.hok e
  refine ⟨dd.typeIs, fun b q => ?_, hd⟩
  cases q
  obtain ⟨ob, _, _, h1, h2, _⟩ := dd
  exact ⟨ob, h1, h2.2.1⟩
 ·obtain ⟨_, hd, xs, _, dd⟩ := dt_rd I.hok e
  refine ⟨dd.typeIs, fun b q => ?_, hd⟩
  cases q
  obtain ⟨ob, _, _, h1, h2, _⟩ := dd
  exact ⟨ob, h1, h2.2.1⟩
section
variable {X : Cx} {pins : List (Addr × Obj)} {σ : St} {H : Hp} {s : Shared} {a : Addr} {y d : V} {u r : Value} {o : Option V} {A : Around} {E : Value -> Shared -> Prop}
theorem d_get2 {Q : Value -> Shared -> Prop} (hu : A.units + 1 < cLine) (I : Inv X pins σ H s) (g : DGet H a y o) (ry : RelV y u) (rd : RelV d r) (h : ∀ w' s', Inv X pins σ H s' -> RelV (o.getD d) w' -> Q w' s') :
  wpAny (model X.prog X.w) A (call (.builtin "dict.get") [.ref a, u, r]) Q E s := by
 rcases g with ⟨kvs, k, e, ey, l⟩ | ⟨kvs, k, b, e, ey, eb, l⟩
 ·subst ey
  obtain ⟨z, hd, vs, rel, dd⟩ := dk_rd I.hok e
  refine call_meetsIn PySem.F.slot_dict_get dd.typeIs PySem.F.entry_dict_get (PySem.F.args_dict_get_3 _ _ _) (meets_dict_get_default (mixKind X.prog X.w) a (kV_is ry) hd r) ⟨_, dd.mapOf, h _ _ (I.tok _) ?_⟩
  rw [l]
  exact (rel.val k).getD rd
 ·subst ey
  cases (show u = Value.ref b from ry)
  obtain ⟨z, hd, xs, rel, dd⟩ := dt_rd I.hok e
  refine call_meetsIn PySem.F.slot_dict_get dd.typeIs PySem.F.entry_dict_get (PySem.F.args_dict_get_3 _ _ _) (meetsH_dict_get_default (tupleKind (mixKind X.prog X.w)) a b hd r) ⟨tupleKind_room_in1 hu, k, xs, key_of I.hok eb, dd, h _ _ (I.tok _) ?_⟩
  rw [l]
  exact (rel.val k).getD rd
end
noncomputable def tDGet2 (td ty tx : TE) : TE := fun σ H Q => td σ H fun x H1 => ∃ a, x = .ref a /\ IsD H1 a /\ ty σ H1 fun y H2 => tx σ H2 fun z H3 => ∃ o, DGet H3 a y o /\ Q (o.getD z) H3
noncomputable def tDPop1 (td ty : TE) : TE := fun σ H Q => td σ H fun x H1 => ∃ a, x = .ref a /\ IsD H1 a /\ ty σ H1 fun y H2 => ∃ kvs k v, H2 a = some (.dK kvs) /\ y = kV k /\ valV kvs k = some v /\ Q v (upd H2 a (.dK (dropK kvs k)))
section
variable {X : Cx} {o e f : Expr} {apos cpos : Pos} {td ty tx : TE}
theorem pe_dget2 (hu : X.A.units + 1 < cLine) (ho : PE X o td) (he : PE X e ty) (hf : PE X f tx) (m : M2 X o "get" apos e f cpos) : PE X (.Call (.Attribute o "get" apos) [e, f] [] cpos) (tDGet2 td ty tx) := by
 intro pins s σ H Q I h
 refine wpAny_Call_method m.base m.few m.line PySem.F.plainAttrs_dict PySem.F.slot_dict_get PySem.F.type_dict_get (thn (ho pins s σ H _ I h) fun u s1 ⟨x, H1, I1, rx, a, ex, d, q1⟩ => ?_)
 subst ex
 obtain rfl : u = Value.ref a := rx
 obtain ⟨t1, t2, _⟩ := isD_at I1 d
 refine ⟨t1, t2, ?_⟩
 rw [m.trees]
 refine Calls.callWith_builtin rfl (Calls.evalArgs_plain (Calls.spliced_cons (thn (he pins s1 σ H1 _ I1 q1) fun iv s2 ⟨y, H2, I2, ry, q2⟩ =>
  Calls.spliced_cons (thn (hf pins s2 σ H2 _ I2 q2) fun fv s3 ⟨z, H3, I3, rz, ov, g, q3⟩ => Calls.spliced_nil ?_))))
 exact d_get2 hu I3 g ry rz fun w' s4 I4 rw' => ⟨_, H3, I4, rw', q3⟩
theorem pe_dpop1 (ho : PE X o td) (he : PE X e ty) (m : M1 X o "pop" apos e cpos) : PE X (.Call (.Attribute o "pop" apos) [e] [] cpos) (tDPop1 td ty) := by
 intro pins s σ H Q I h
 refine wpAny_Call_method m.base m.few m.line PySem.F.plainAttrs_dict PySem.F.slot_dict_pop PySem.F.type_dict_pop (thn (ho pins s σ H _ I h) fun u s1 ⟨x, H1, I1, rx, a, ex, d, q1⟩ => ?_)
 subst ex
 obtain rfl : u = Value.ref a := rx
 obtain ⟨t1, t2, _⟩ := isD_at I1 d
 refine ⟨t1, t2, ?_⟩
 rw [m.trees]
 refine Calls.callWith_builtin rfl (Calls.evalArgs_plain (Calls.spliced_cons (thn (he pins s1 σ H1 _ I1 q1) fun iv s2 ⟨y, H2, I2, ry, kvs, k, v, ea, ey, l, q2⟩ => Calls.spliced_nil ?_)))
 subst ey
 exact d_pop I2 ea ry l (.inl rfl) fun w' s3 I3 rw' => ⟨v, _, I3, rw', q2⟩
end
section
variable {X : Cx} {pins : List (Addr × Obj)} {σ : St} {H : Hp} {s : Shared} {a : Addr} {kvs : List (Key × V)} {A : Around} {E : Value -> Shared -> Prop}
end
section
variable {X : Cx} {pins : List (Addr × Obj)} {σ : St} {H : Hp} {s : Shared} {a : Addr} {y : V} {u : Value} {A : Around} {E : Value -> Shared -> Prop}
end
end L2
namespace HT
open PySem PyProof.Rows
section
open PySem.SeqAt
open PySem.AutoSeq1 (wpAny_loadPart')
open PySem.MeetsSeq PySem.MeetsSeq2 PySem.MeetsSeq3
end
section
variable {prog : Program} {w : World} {A : Around} {E : Value -> Shared -> Prop} {s : Shared}
noncomputable def sIx (n d : Nat) : Option Int -> Nat
 | none => d
 | some v => if v < 0 then (v + (n : Int)).toNat else min v.toNat n
theorem sIx_nat (n d k : Nat) : sIx n d (some (k : Int)) = min k n := by
 show (if (k : Int) < 0 then ((k : Int) + (n : Int)).toNat else min (k : Int).toNat n) = min k n
 rw [if_neg (by omega), Int.toNat_natCast]
end
end HT
namespace L2
open PySem PySem.Spec PyProof.Rows
noncomputable abbrev TO := St -> Hp -> (Option Int -> Hp -> Prop) -> Prop
noncomputable def PO (X : Cx) (e : Option Expr) (t : TO) : Prop :=
 ∀ (pins : List (Addr × Obj)) (s : Shared) (σ : St) (H : Hp) (Q : Option Int -> Hp -> Prop), Inv X pins σ H s -> t σ H Q ->
  wpAny (model X.prog X.w) X.A (evalPart e X.env) (fun u s' => ∃ o H', Inv X pins σ H' s' /\ IsPart u o /\ Q o H') X.xe s
noncomputable def tNoPart : TO := fun _ H Q => Q none H
noncomputable def tPart (t : TE) : TO := fun σ H Q => t σ H fun x H1 => ∃ i, x = .int i /\ Q (some i) H1
section
variable {X : Cx} {e : Expr} {te : TE} {lo hi : Option Expr} {tl th : TO} {pos p2 : Pos}
theorem po_none : PO X none tNoPart := by
 intro pins s σ H Q I h
 rw [evalPart_none]
 exact wpAny_pure ⟨none, H, I, .none, h⟩
theorem po_some (h : PE X e te) : PO X (some e) (tPart te) := by
 intro pins s σ H Q I hw
 rw [evalPart_some]
 refine thn (h pins s σ H _ I hw) fun u s1 ⟨x, H1, I1, r1, q1⟩ => ?_
 obtain ⟨i, rfl, q⟩ := q1
 obtain ⟨t, rfl⟩ := r1
 exact ⟨some i, H1, I1, .int i t, q⟩
noncomputable def SlR (X : Cx) (r : V -> Option Int -> Option Int -> Hp -> VK -> Prop) : Prop :=
 ∀ (pins : List (Addr × Obj)) (s : Shared) (σ : St) (H : Hp) (x : V) (v vl vu : Value) (lo hi : Option Int) (sl : Addr) (Q : VK), Inv X pins σ H s -> RelV x v -> s.heap.IsSliceOf sl vl vu .none -> IsPart vl lo -> IsPart vu hi -> r x lo hi H Q ->
  ∃ T id, typeLookup (.type T) "__getitem__" = pure (some (.builtin id)) /\ s.TypeIs v T /\ wpAny (model X.prog X.w) X.A (getItem v (.ref sl)) (EP X pins σ Q) X.xe s
noncomputable def tSl (r : V -> Option Int -> Option Int -> Hp -> VK -> Prop) (te : TE) (tl th : TO) : TE := fun σ H Q => te σ H fun x H1 => tl σ H1 fun l H2 => th σ H2 fun u H3 => r x l u H3 Q
theorem pe_slice {r : V -> Option Int -> Option Int -> Hp -> VK -> Prop} (hr : SlR X r) (he : PE X e te) (hl : PO X lo tl) (hu : PO X hi th) : PE X (.Subscript e (.Slice lo hi none p2) pos) (tSl r te tl th) := by
 intro pins s σ H Q I h
 refine Subscript_ (thn (he pins s σ H _ I h) fun v s1 ⟨x, H1, I1, r1, q1⟩ => ?_)
 refine wpAny_Slice (thn (hl pins s1 σ H1 _ I1 q1) fun vl s2 ⟨l, H2, I2, pl, q2⟩ => thn (hu pins s2 σ H2 _ I2 q2) fun vu s3 ⟨u, H3, I3, pu, q3⟩ => ?_)
 rw [evalPart_none]
 refine wpAny_pure ?_
 have I4 : Inv X pins σ H3 { s3 with heap := s3.heap.push { cls := .type "slice", data := .fields #[vl, vu, .none] } } := I3.kept (t' := s3.toks) fun b ob q => Heap.get?_push_of_some _ q
 obtain ⟨T, id, hT, ht, hg⟩ := hr pins { s3 with heap := s3.heap.push { cls := .type "slice", data := .fields #[vl, vu, .none] } } σ H3 x v vl vu l u s3.heap.objs.size Q I4 r1 (Heap.IsSliceOf.new ..) pl pu q3
 show wpAny (model X.prog X.w) X.A (subscriptTail e (.Slice lo hi none p2) v (.ref s3.heap.objs.size)) (EP X pins σ Q) X.xe { s3 with heap := s3.heap.push { cls := .type "slice", data := .fields #[vl, vu, .none] } }
 exact tail_any (ops := [.ref s3.heap.objs.size, v]) ht hT hg (by with_unfolding_all rfl)
noncomputable def cutV (xs : List V) (lo hi : Option Int) : List V := (xs.drop (HT.sIx xs.length 0 lo)).take (HT.sIx xs.length xs.length hi - HT.sIx xs.length 0 lo)
theorem cutV_length (xs : List V) (lo hi : Option Int) : (cutV xs lo hi).length <= xs.length := by
 unfold cutV
 rw [List.length_take, List.length_drop]
 omega
end
end L2
namespace L2
open PySem PySem.Spec PyProof.Rows
noncomputable def ixN (n : Nat) (i : Int) : Option Nat := if 0 <= i then (if i < n then some i.toNat else none) else if -(n : Int) <= i then some (i + n).toNat else none
noncomputable def atI {α : Type} (xs : List α) (i : Int) : Option α := (ixN xs.length i).bind fun j => xs[j]?
theorem ixN_seq {n : Nat} {i : Int} {j : Nat} (h : ixN n i = some j) : seqIndex? i n = some j /\ j < n /\ -(n : Int) <= i /\ i < n := by
 unfold ixN at h
 by_cases h0 : 0 <= i
 ·rw [if_pos h0] at h
  by_cases h1 : i < n
  ·rw [if_pos h1] at h
   have e : i.toNat = j := Option.some.inj h
   exact ⟨by rw [seqIndex_of h0 h1, e], by omega, by omega, h1⟩
  ·rw [if_neg h1] at h; cases h
 ·rw [if_neg h0] at h
  by_cases h1 : -(n : Int) <= i
  ·rw [if_pos h1] at h
   have e : (i + n).toNat = j := Option.some.inj h
   exact ⟨by rw [seqIndex_neg (by omega) h1, e], by omega, h1, by omega⟩
  ·rw [if_neg h1] at h; cases h
theorem atI_get {α : Type} {xs : List α} {i : Int} {v : α} (h : atI xs i = some v) : ∃ j, seqIndex? i xs.length = some j /\ xs[j]? = some v /\ j < xs.length /\ -(xs.length : Int) <= i /\ i < xs.length := by
 unfold atI at h
 cases e : ixN xs.length i with
 | none => rw [e] at h; cases h
 | some j =>
  rw [e] at h
  obtain ⟨h1, h2, h3, h4⟩ := ixN_seq e
  exact ⟨j, h1, h, h2, h3, h4⟩
theorem atI_nat {α : Type} {xs : List α} {j : Nat} {v : α} (h : xs[j]? = some v) : atI xs (j : Int) = some v := by
 have hj : j < xs.length := (List.getElem?_eq_some_iff.mp h).1
 have e : ixN xs.length (j : Int) = some j := by
  unfold ixN
  rw [if_pos (by omega), if_pos (by omega)]; simp
 unfold atI; rw [e]; exact h
theorem atI_last {α : Type} (xs : List α) (v : α) : atI (xs ++ [v]) (-1) = some v := by
 have hl : (xs ++ [v]).length = xs.length + 1 := by simp
 have e : ixN (xs ++ [v]).length (-1) = some xs.length := by
  unfold ixN
  rw [hl, if_neg (by decide), if_pos (by omega)]
  congr 1
  omega
 unfold atI
 rw [e]
 show (xs ++ [v])[xs.length]? = some v
 simp
noncomputable def PlainIx (b : Expr) : Prop := ∀ o i, subscripted b false o i = operate [o, i] (getItem o i)
noncomputable def IxR (X : Cx) (r : R2) : Prop :=
 ∀ (value slice : Expr) (pins : List (Addr × Obj)) (s : Shared) (σ : St) (H : Hp) (x y : V) (v u : Value) (Q : VK), Inv X pins σ H s -> RelV x v -> RelV y u -> r x y H Q ->
  subscripted slice false v u = operate [v, u] (getItem v u) -> wpAny (model X.prog X.w) X.A (subscriptTail value slice v u) (EP X pins σ Q) X.xe s
noncomputable def MtR (X : Cx) (id : String) (r : V -> List V -> Hp -> VK -> Prop) : Prop :=
 ∀ (pins : List (Addr × Obj)) (s : Shared) (σ : St) (H : Hp) (x : V) (xs : List V) (v : Value) (us : List Value) (Q : VK), Inv X pins σ H s -> RelV x v -> Vals xs us -> r x xs H Q ->
  wpAny (model X.prog X.w) X.A (call (.builtin id) (v :: us)) (EP X pins σ Q) X.xe s
section
variable {X : Cx} {a b : Expr} {ta tb : TE} {pos : Pos}
theorem pe_ix {r : R2} (hr : IxR X r) (ha : PE X a ta) (hb : PE X b tb) (hs : PlainIx b) : PE X (.Subscript a b pos) (tOp r ta tb) := by
 intro pins s σ H Q I h
 exact Subscript_ (binT ha hb I h fun v u s2 x y H2 I2 rx ry q => hr a b pins s2 σ H2 x y v u Q I2 rx ry q (hs _ _))
noncomputable def rIxL (K : PySem.W.Frag) : R2 := fun x y H Q => ∃ p xs i v, x = .ref p /\ y = .int i /\ SqL K H p xs /\ atI xs i = some v /\ Q v H
noncomputable def rIxT (K : PySem.W.Frag) : R2 := fun x y H Q => ∃ p xs i v, x = .ref p /\ y = .int i /\ SqT K H p xs /\ atI xs i = some v /\ Q v H
noncomputable def rIxS : R2 := fun x y H Q => ∃ z i c, x = .str z /\ y = .int i /\ z.length <= sizeLine /\ atI z.cps.toList i = some c /\ Q (.str ⟨#[c]⟩) H
theorem ix_list : IxR X (rIxL X.K) := by
 intro value slice pins s σ H x y v u Q I rx ry h hs
 obtain ⟨p, xs, i, z, rfl, rfl, hq, he, q⟩ := h
 cases rx
 obtain ⟨t, rfl⟩ := ry
 obtain ⟨its, r, pl, hz⟩ := I.list hq
 obtain ⟨j, h1, h2, h3, h4, h5⟩ := atI_get he
 obtain ⟨w, ew, rw'⟩ := r.get h2
 have hl := r.length
 have hn := line63
 have fin : EP X pins σ Q w s := ⟨z, H, I, rw', q⟩
 by_cases h0 : 0 <= i
 ·have hj : i.toNat = j := by
   rw [seqIndex_of h0 h5] at h1
   exact Option.some.inj h1
  exact item_listR pl.isList h0 (by omega) (by rw [hj]; simpa using ew) fin hs
 ·have hj : (i + (its.toArray.size : Int)).toNat = j := by
   rw [seqIndex_neg (by omega) h4] at h1
   rw [List.size_toArray, <- hl]
   exact Option.some.inj h1
  exact subscriptTail_builtinR (x := w) pl.isList.typeIs slot_list_getitem.lookup
   (wpAny_getItem_list_neg (Q := fun r s' => r = w /\ EP X pins σ Q r s') pl.isList (by omega) (by rw [List.size_toArray] <;> omega) (by omega) (by rw [hj]; simpa using ew) ⟨rfl, fin⟩) hs
theorem ix_tup : IxR X (rIxT X.K) := by
 intro value slice pins s σ H x y v u Q I rx ry h hs
 obtain ⟨p, xs, i, z, rfl, rfl, hq, he, q⟩ := h
 cases rx
 obtain ⟨t, rfl⟩ := ry
 obtain ⟨its, r, pl, hz⟩ := I.tuple hq
 obtain ⟨j, h1, h2, h3, h4, h5⟩ := atI_get he
 obtain ⟨w, ew, rw'⟩ := r.get h2
 have hl := r.length
 have hn := line63
 have fin : EP X pins σ Q w s := ⟨z, H, I, rw', q⟩
 exact subscriptTail_builtinR (x := w) pl.typeIs slot_tuple_getitem.lookup
  (getItem_tuple (j := j) (Q := fun r s' => r = w /\ EP X pins σ Q r s') pl (by omega) (by omega) (by rw [List.size_toArray, <- hl]; exact h1) (by simpa using ew) ⟨rfl, fin⟩) hs
theorem ix_str : IxR X rIxS := by
 intro value slice pins s σ H x y v u Q I rx ry h hs
 obtain ⟨z, i, c, rfl, rfl, hz, he, q⟩ := h
 obtain ⟨t, rfl⟩ := rx
 obtain ⟨t', rfl⟩ := ry
 obtain ⟨j, h1, h2, h3, h4, h5⟩ := atI_get he
 have hl : z.cps.toList.length = z.length := by simp [Str.length]
 rw [hl] at h1 h4 h5
 have hn := line63
 exact tail_any (typeIs_str s z t) slot_str_getitem.lookup (getItem_str (c := c) (by
  have e1 : decide (i < -(2 ^ 63 : Int)) = false := decide_eq_false (by omega)
  have e2 : decide (i ≥ 2 ^ 63) = false := decide_eq_false (by omega)
  rw [e1, e2, Bool.or_false]) (by rw [h1]; simpa using h2) ⟨.str ⟨#[c]⟩, H, I.tok _, ⟨_, rfl⟩, q⟩) hs
theorem slice_bounds (lo hi : Option Int) (n : Nat) : (sliceBounds lo hi none n).1 = ((HT.sIx n 0 lo : Nat) : Int) /\ (sliceBounds lo hi none n).2.1 = ((HT.sIx n n hi : Nat) : Int) /\ (sliceBounds lo hi none n).2.2 = 1 := by
 refine ⟨?_, ?_, rfl⟩
 ·cases lo with
  | none => simp [sliceBounds, HT.sIx]
  | some i =>
   simp only [sliceBounds, HT.sIx, Option.getD_none, show (1 : Int) > 0 by decide, if_true]
   by_cases h : i < 0
   ·simp only [h, if_true] <;> omega
   ·simp only [h, if_false] <;> omega
 ·cases hi with
  | none => simp [sliceBounds, HT.sIx]
  | some i =>
   simp only [sliceBounds, HT.sIx, Option.getD_none, show (1 : Int) > 0 by decide, if_true]
   by_cases h : i < 0
   ·simp only [h, if_true] <;> omega
   ·simp only [h, if_false] <;> omega
theorem slicePick_cut (its : List Value) (lo hi : Option Int) : slicePick its.toArray lo hi none = ((its.drop (HT.sIx its.length 0 lo)).take (HT.sIx its.length its.length hi - HT.sIx its.length 0 lo)).toArray := by
 obtain ⟨h1, h2, h3⟩ := slice_bounds lo hi its.toArray.size
 unfold slicePick
 rw [h1, h2, h3]
 simp only [sliceRange_one, pick_run, List.size_toArray] <;> rfl
noncomputable def rSlL (K : PySem.W.Frag) : V -> Option Int -> Option Int -> Hp -> VK -> Prop := fun x lo hi H Q => ∃ a xs, x = .ref a /\ SqL K H a xs /\ ∀ p, H p = none -> Q (.ref p) (upd H p (.lst (cutV xs lo hi)))
theorem sl_list : SlR X (rSlL X.K) := by
 intro pins s σ H x v vl vu lo hi sl Q I rx hs pl pu h
 obtain ⟨a, xs, rfl, hx, q⟩ := h
 cases rx
 obtain ⟨its, r, ht, hz⟩ := I.list hx
 have hlen := r.length
 refine ⟨"list", _, slot_list_getitem.lookup, ht.isList.typeIs, ?_⟩
 refine wpAny_getItem_list_slice ht.isList hs pl pu .none (by simp) ?_ (by rw [List.size_toArray] <;> omega)
 rw [slicePick_cut, <- hlen]
 refine ⟨.ref s.heap.objs.size, _, I.laid (t' := s.toks) (o := .lst (cutV xs lo hi)) (fun b ob q => Heap.get?_push_of_some _ q) (Nat.le_refl _) ?_, rfl, q _ (I.hok.fresh (Nat.le_refl _))⟩
 exact ⟨Nat.le_trans (cutV_length xs lo hi) hz, _, 0, (r.drop (HT.sIx xs.length 0 lo)).take (HT.sIx xs.length xs.length hi - HT.sIx xs.length 0 lo), Heap.get?_push_size _ rfl⟩
noncomputable def flatV : V -> Bool
 | .non => true
 | .bl _ => true
 | .int _ => true
 | .str _ => true
 | _ => false
noncomputable def eqV : V -> V -> Bool
 | .non, .non => true
 | .bl a, .bl b => a == b
 | .bl a, .int b => (if a then 1 else 0) == b
 | .int a, .bl b => a == (if b then 1 else 0)
 | .int a, .int b => a == b
 | .str a, .str b => a == b
 | _, _ => false
theorem eqAt_V {A : Around} {s : Shared} {y x : V} {u v : Value} (ry : RelV y u) (rx : RelV x v) (fy : flatV y = true) (fx : flatV x = true) : SeqAt.EqAt A s u v (eqV y x) := by
 cases y with
 | non =>
  cases ry
  cases x with
  | non => cases rx; exact SeqAt.EqAt.same _
  | bl b => cases rx; exact SeqAt.EqAt.none_bool b
  | int b => obtain ⟨t, rfl⟩ := rx; exact SeqAt.EqAt.none_int b t
  | str b => obtain ⟨t, rfl⟩ := rx; exact SeqAt.EqAt.none_str b t
  | _ => exact absurd (show false = true from fx) Bool.false_ne_true
 | bl a =>
  cases ry
  cases x with
  | non => cases rx; exact SeqAt.EqAt.bool_none a
  | bl b => cases rx; exact SeqAt.EqAt.bool_bool a b
  | int b => obtain ⟨t, rfl⟩ := rx; exact SeqAt.EqAt.bool_int a b t
  | str b => obtain ⟨t, rfl⟩ := rx; exact SeqAt.EqAt.bool_str a b t
  | _ => exact absurd (show false = true from fx) Bool.false_ne_true
 | int a =>
  obtain ⟨t', rfl⟩ := ry
  cases x with
  | non => cases rx; exact SeqAt.EqAt.int_none a t'
  | bl b => cases rx; exact SeqAt.EqAt.int_bool a t' b
  | int b => obtain ⟨t, rfl⟩ := rx; exact SeqAt.EqAt.int_int a t' b t
  | str b => obtain ⟨t, rfl⟩ := rx; exact SeqAt.EqAt.int_str a t' b t
  | _ => exact absurd (show false = true from fx) Bool.false_ne_true
 | str a =>
  obtain ⟨t', rfl⟩ := ry
  cases x with
  | non => cases rx; exact SeqAt.EqAt.str_none a t'
  | bl b => cases rx; exact SeqAt.EqAt.str_bool a t' b
  | int b => obtain ⟨t, rfl⟩ := rx; exact SeqAt.EqAt.str_int a t' b t
  | str b => obtain ⟨t, rfl⟩ := rx; exact SeqAt.EqAt.str_str a t' b t
  | _ => exact absurd (show false = true from fx) Bool.false_ne_true
 | _ => exact absurd (show false = true from fy) Bool.false_ne_true
noncomputable def eqU (x : V) (u : Value) : Bool := match u with
 | .none => eqV .non x
 | .bool b => eqV (.bl b) x
 | .int i _ => eqV (.int i) x
 | .str z _ => eqV (.str z) x
 | _ => false
theorem eqU_of {x y : V} {u : Value} (r : RelV y u) (f : flatV y = true) : eqU x u = eqV y x := by
 cases y with
 | non => cases r; rfl
 | bl b => cases r; rfl
 | int i => obtain ⟨t, rfl⟩ := r; rfl
 | str z => obtain ⟨t, rfl⟩ := r; rfl
 | _ => exact absurd (show false = true from f) Bool.false_ne_true
theorem any_eqU {x : V} : ∀ {xs : List V} {us : List Value}, Vals xs us -> xs.all flatV = true -> us.any (eqU x) = xs.any fun y => eqV y x
 | _, _, .nil, _ => rfl
 | y :: xs, u :: us, .cons r t, f => by
  rw [List.all_cons, Bool.and_eq_true] at f
  rw [List.any_cons, List.any_cons, eqU_of r f.1, any_eqU t f.2]
theorem mem_eqAt {A : Around} {s : Shared} {x : V} {v : Value} (rx : RelV x v) (fx : flatV x = true) : ∀ {xs : List V} {us : List Value}, Vals xs us -> xs.all flatV = true -> ∀ u ∈ us, SeqAt.EqAt A s u v (eqU x u)
 | _, _, .nil, _ => fun u hu => by cases hu
 | y :: xs, u :: us, .cons r t, f => fun u' hu => by
  rw [List.all_cons, Bool.and_eq_true] at f
  rcases List.mem_cons.mp hu with rfl | hu
  ·rw [eqU_of r f.1]; exact eqAt_V r rx f.1 fx
  ·exact mem_eqAt rx fx t f.2 u' hu
noncomputable def inV (x : V) (xs : List V) : Bool := xs.any fun y => eqV y x
noncomputable def rIn (K : PySem.W.Frag) (neg : Bool) : R2 := fun x y H Q => ∃ p xs, y = .ref p /\ (SqL K H p xs \/ SqT K H p xs) /\ flatV x = true /\ xs.all flatV = true /\ Q (.bl (if neg then !inV x xs else inV x xs)) H
theorem op_notIn_seq : OpR X (compareOp .NotIn) (rIn X.K true) := by
 intro pins s σ H x y v u Q I rx ry h
 obtain ⟨p, xs, rfl, hq, fx, fs, q⟩ := h
 cases ry
 rcases hq with hq | hq
 ·obtain ⟨its, r, pl, hz⟩ := I.list hq
  refine SeqAt.notIn_listAt (eqU x) pl.isList (fun w hw => mem_eqAt rx fx r fs w (by simpa using hw)) ⟨.bl _, H, I, rfl, ?_⟩
  rw [show its.toArray.any (eqU x) = its.any (eqU x) by simp, any_eqU r fs]
  exact q
 ·obtain ⟨its, r, pl, hz⟩ := I.tuple hq
  refine SeqAt.notIn_tupleAt (eqU x) pl (fun w hw => mem_eqAt rx fx r fs w (by simpa using hw)) ⟨.bl _, H, I, rfl, ?_⟩
  rw [show its.toArray.any (eqU x) = its.any (eqU x) by simp, any_eqU r fs]
  exact q
theorem call_list_of : CallR X (.type "list") (fun xs H Q => ∃ p ys, xs = [.ref p] /\ (SqL X.K H p ys \/ SqT X.K H p ys) /\ ∀ l, H l = none -> Q (.ref l) (upd H l (.lst ys))) := by
 intro pins s σ H xs us Q I r h
 obtain ⟨p, ys, rfl, hq, q⟩ := h
 obtain ⟨u, rfl, rx⟩ := vals1 r
 cases rx
 have fin : ∀ (its : List Value), Vals ys its -> ys.length <= sizeLine -> ∀ (h' : Heap) (c' : Nat), (∀ b o', s.heap.get? b = some o' -> h'.get? b = some o') ->
   h'.get? s.heap.objs.size = some { cls := .type "list", dict := none, data := .seq its.toArray c', slots := #[] } -> EP X pins σ Q (.ref s.heap.objs.size) { s with heap := h' } := fun its r' hz h' c' kp e =>
  ⟨.ref s.heap.objs.size, _, I.laid (t' := s.toks) kp (Nat.le_refl _) (show ObjOk X.prog X.w _ h' _ (.lst ys) from ⟨hz, its, c', r', e⟩), rfl, q _ (I.hok.fresh (Nat.le_refl _))⟩
 rcases hq with hq | hq
 ·obtain ⟨its, r', pl, hz⟩ := I.list hq
  have hlen := r'.length
  obtain ⟨o, ho, hc, n, hd⟩ := pl.isList
  exact call_list_seq p (.inl rfl) ho hc hd (fun h' c' kp e => fin its r' hz h' c' kp e) (by simp only [List.size_toArray] <;> omega)
 ·obtain ⟨its, r', pl, hz⟩ := I.tuple hq
  have hlen := r'.length
  obtain ⟨o, ho, hc, n, hd⟩ := pl
  exact call_list_seq p (.inr rfl) ho hc hd (fun h' c' kp e => fin its r' hz h' c' kp e) (by simp only [List.size_toArray] <;> omega)
noncomputable def tyV (K : PySem.W.Frag) (T : String) (x : V) (H : Hp) : Prop := match x with
 | .str _ => T = "str"
 | .int _ => T = "int"
 | .ref p => (T = "list" /\ ∃ xs, SqL K H p xs) \/ (T = "tuple" /\ ∃ o, K.lookup p = some o /\ o.cls = .type "tuple" /\ o.dict = none) \/
   (T = "dict" /\ ((∃ kvs, H p = some (.dK kvs)) \/ ∃ kvs, H p = some (.dT kvs))) \/ (T = "set" /\ ∃ S n, H p = some (.set S n))
 | _ => False
theorem tyV_is {pins : List (Addr × Obj)} {σ : St} {H : Hp} {s : Shared} {T : String} {x : V} {v : Value} (I : Inv X pins σ H s) (r : RelV x v) (ty : tyV X.K T x H) :
  s.TypeIs v T /\ ∀ a, v = .ref a -> ∃ ob, s.heap.get? a = some ob /\ ob.dict = none := by
 cases x with
 | str z =>
  obtain ⟨t, rfl⟩ := r
  cases (show T = "str" from ty)
  exact ⟨typeIs_str s z t, fun _ e => nomatch e⟩
 | int i =>
  obtain ⟨t, rfl⟩ := r
  cases (show T = "int" from ty)
  exact ⟨typeIs_int s i t, fun _ e => nomatch e⟩
 | ref p =>
  cases r
  rcases ty with ⟨rfl, xs, hq⟩ | ⟨rfl, o, hk, hc, hd⟩ | ⟨rfl, hk⟩ | ⟨rfl, S, n, hk⟩
  ·obtain ⟨its, _, pl, _⟩ := I.list hq
   refine ⟨pl.isList.typeIs, fun a e => ?_⟩
   cases e
   obtain ⟨o, n, e, c, hd, _⟩ := pl
   exact ⟨o, e, hd⟩
  ·refine ⟨⟨o, I.kIn p o hk, hc⟩, fun a e => ?_⟩
   cases e
   exact ⟨o, I.kIn _ o hk, hd⟩
  ·have z : ∃ o, s.heap.get? p = some o /\ o.ExactDict := by
    rcases hk with ⟨kvs, hk⟩ | ⟨kvs, hk⟩
    ·obtain ⟨_, _, _, _, o, _, _, e, ex, _⟩ := I.hok p _ hk
     exact ⟨o, e, ex⟩
    ·obtain ⟨_, _, _, _, o, _, _, e, ex, _⟩ := I.hok p _ hk
     exact ⟨o, e, ex⟩
   obtain ⟨o, e, ex⟩ := z
   refine ⟨⟨o, e, ex.1⟩, fun a e2 => ?_⟩
   cases e2
   exact ⟨o, e, ex.2.1⟩
  ·obtain ⟨o, _, _, _, e, ex, _⟩ := I.hok p _ hk
   refine ⟨⟨o, e, ex.1⟩, fun a e2 => ?_⟩
   cases e2
   exact ⟨o, e, ex.2.1⟩
 | _ => exact False.elim ty
noncomputable def tBM0 (K : PySem.W.Frag) (T : String) (r : V -> List V -> Hp -> VK -> Prop) (to : TE) : TE := fun σ H Q => to σ H fun x H1 => tyV K T x H1 /\ r x [] H1 Q
noncomputable def tBM (K : PySem.W.Frag) (T : String) (r : V -> List V -> Hp -> VK -> Prop) (to : TE) (t : TA) : TE := fun σ H Q => to σ H fun x H1 => tyV K T x H1 /\ t σ H1 fun xs H2 => r x xs H2 Q
variable {o e : Expr} {es : List Expr} {to : TE} {t : TA} {name : Str} {apos cpos : Pos} {T id : String} {r : V -> List V -> Hp -> VK -> Prop}
theorem pe_bm0 (pa : PlainAttrs T) (slot : Slot T name id) (hty : typeOf (.builtin id) = pure (.type "method_descriptor")) (hm : MtR X id r) (ho : PE X o to)
  (hbase : attributeBase o name X.env (eval o X.env) = eval o X.env := by rfl) (hline : (apos.endLine == cpos.line) = true := by rfl) : PE X (.Call (.Attribute o name apos) [] [] cpos) (tBM0 X.K T r to) := by
 intro pins s σ H Q I h
 refine wpAny_Call_method0_late hbase hline (thn (ho pins s σ H _ I h) fun v s1 ⟨x, H1, I1, r1, ty, q1⟩ => ?_)
 obtain ⟨h1, h2⟩ := tyV_is I1 r1 ty
 exact ⟨T, id, pa, slot, hty, h1, h2, Calls.callWith_builtin rfl (PySem.evalArgs_none (hm pins s1 σ H1 x [] v [] Q I1 r1 .nil q1))⟩
theorem pe_bm (pa : PlainAttrs T) (slot : Slot T name id) (hty : typeOf (.builtin id) = pure (.type "method_descriptor")) (hm : MtR X id r) (ho : PE X o to) (ha : PA X (e :: es) t)
  (hbase : attributeBase o name X.env (eval o X.env) = eval o X.env := by rfl)
  (hfew : ((backTo cpos (starEach (e :: es) X.env)).all (fun x => !x.1) && (backToKw cpos (keywordEach [] X.env)).all (fun x => x.1.isSome)
   && decide ((e :: es).length + ([] : List Keyword).length + (if ([] : List Keyword).isEmpty then 0 else 1) < 30)) = true := by rfl)
  (hline : (apos.endLine == cpos.line) = true := by rfl) (hs : starEach (e :: es) X.env = (false, eval e X.env) :: starEach es X.env := by rfl) (hplain : (backTo cpos (starEach es X.env)).any (·.1) = false := by rfl) :
  PE X (.Call (.Attribute o name apos) (e :: es) [] cpos) (tBM X.K T r to t) := by
 intro pins s σ H Q I h
 refine wpAny_Call_method_late hbase hfew hline rfl (thn (ho pins s σ H _ I h) fun v s1 ⟨x, H1, I1, r1, ty, q1⟩ => ?_)
 obtain ⟨h1, h2⟩ := tyV_is I1 r1 ty
 refine ⟨T, id, pa, slot, hty, h1, h2, ?_⟩
 have hA := ha cpos pins s1 σ H1 _ I1 q1
 rw [hs] at hA ⊢
 refine Calls.callWith_builtin (by show (false || (backTo cpos (starEach es X.env)).any (·.1)) = false; rw [hplain] <;> rfl) (Calls.evalArgs_plain ?_)
 exact thn hA fun us s2 ⟨vs, H2, I2, r2, q2⟩ => hm pins s2 σ H2 x vs v us Q I2 r1 r2 q2
/- xs.append(e), list.index on a module's tuple .. are MtR facts of 06m -/
end
end L2
namespace L2
open PySem PySem.Spec PyProof.Rows
noncomputable def MtM (X : Cx) (id : String) (r : V -> List V -> Hp -> VK -> Prop) : Prop :=
 ∀ (pins : List (Addr × Obj)) (s : Shared) (σ : St) (H : Hp) (x : V) (xs : List V) (v : Value) (us : List Value) (Q : VK), Inv X pins σ H s -> RelV x v -> Vals xs us -> r x xs H Q ->
  wpAny (model X.prog X.w) X.A (call (.builtin id) (v :: us)) (EP X pins σ Q) X.xe s
theorem Vals.one : ∀ {x : V} {us : List Value}, Vals [x] us -> ∃ u, us = [u] /\ RelV x u
 | _, _, .cons r .nil => ⟨_, rfl, r⟩
theorem Vals.zero : ∀ {us : List Value}, Vals [] us -> us = []
 | _, .nil => rfl
theorem Vals.reverse {xs : List V} {us : List Value} (h : Vals xs us) : Vals xs.reverse us.reverse := by
 induction h with
 | nil => exact .nil
 | cons r t ih => rw [List.reverse_cons, List.reverse_cons]; exact Vals.append ih (.cons r .nil)
section
variable {X : Cx} {pins : List (Addr × Obj)} {σ : St} {H : Hp} {s : Shared} {l b : Addr} {xs ys zs : List V}
theorem Inv.lset {its its' : List Value} {n : Nat} {f : Array Value -> Array Value} {t' : Nat} (I : Inv X pins σ H s) (hH : H l = some (.lst xs))
  (e : s.heap.get? l = some { cls := .type "list", data := .seq its.toArray n }) (hf : f its.toArray = its'.toArray) (hv : Vals ys its') (hz : ys.length <= sizeLine) :
  Inv X pins σ (upd H l (.lst ys)) { s with heap := s.heap.update l (Obj.mapSeq f), toks := t' } := by
 have q := PySem.IsL.update e f
 rw [hf] at q
 refine I.write (x := l) (e := l) (by rw [hH]; exact trivial) (.inl rfl) (fun b' u hb hu => (Heap.get?_update_other s.heap (Obj.mapSeq f) (Ne.symm hb)).trans hu) ⟨_, q⟩ ?_
 exact ⟨hz, its', _, hv, q⟩
theorem Inv.lnew {its : List Value} {t' : Nat} (I : Inv X pins σ H s) (hv : Vals ys its) (hz : ys.length <= sizeLine) :
  Inv X pins σ (upd H s.heap.objs.size (.lst ys)) { s with heap := s.heap.push { cls := .type "list", data := .seq its.toArray }, toks := t' } :=
 I.laid (fun _ _ q => Heap.get?_push_of_some _ q) (Nat.le_refl _) ⟨hz, its, 0, hv, Heap.get?_push_size _ rfl⟩
theorem Inv.fresh (I : Inv X pins σ H s) : H s.heap.objs.size = none := I.hok.fresh (Nat.le_refl _)
theorem Inv.lstM (I : Inv X pins σ H s) (hH : H l = some (.lst xs)) : xs.length <= sizeLine /\ ∃ (its : List Value) (n : Nat), Vals xs its /\ xs.length = its.length /\ s.heap.get? l = some { cls := .type "list", data := .seq its.toArray n } := by
 obtain ⟨z, its, n, r, e⟩ := I.hok l _ hH
 exact ⟨z, its, n, r, r.length, e⟩
end
section
variable {X : Cx}
noncomputable def rAppend : V -> List V -> Hp -> VK -> Prop := fun x vs H Q => ∃ l xs y, x = .ref l /\ vs = [y] /\ H l = some (.lst xs) /\ xs.length < sizeLine /\ Q .non (upd H l (.lst (xs ++ [y])))
theorem mt_append : MtM X "list.append" rAppend := by
 intro pins s σ H x vs v us Q I rx rv h
 obtain ⟨l, xs, y, rfl, rfl, hH, hz, q⟩ := h
 cases rx
 obtain ⟨u, rfl, ru⟩ := rv.one
 obtain ⟨z, its, n, r, hl, e⟩ := I.lstM hH
 refine call_meets F.slot_list_append ⟨_, e, rfl⟩ F.entry_list_append (F.args_list_append_2 _ _) (PySem.list_append l its.toArray n u (by rw [List.size_toArray]; omega)) ⟨e, ?_⟩
 refine ⟨.non, _, I.lset (its' := its ++ [u]) hH e (by simp) (r.append (.cons ru .nil)) ?_, rfl, q⟩
 rw [List.length_append, List.length_singleton]
 omega
noncomputable def rReverse : V -> List V -> Hp -> VK -> Prop := fun x vs H Q => ∃ l xs, x = .ref l /\ vs = [] /\ H l = some (.lst xs) /\ Q .non (upd H l (.lst xs.reverse))
theorem mt_reverse : MtM X "list.reverse" rReverse := by
 intro pins s σ H x vs v us Q I rx rv h
 obtain ⟨l, xs, rfl, rfl, hH, q⟩ := h
 cases rx
 have hus := rv.zero
 subst hus
 obtain ⟨z, its, n, r, hl, e⟩ := I.lstM hH
 refine call_meets F.slot_list_reverse ⟨_, e, rfl⟩ F.entry_list_reverse (F.args_list_reverse_1 _) (AutoSeq1.list_reverse_list_0 l its.toArray n (by rw [List.size_toArray]; omega)) ⟨e, ?_⟩
 refine ⟨.non, _, I.lset (its' := its.reverse) hH e (by simp) r.reverse ?_, rfl, q⟩
 rw [List.length_reverse]
 omega
end
section
variable {prog : Program} {w : World} {A : Around} {E : Value -> Shared -> Prop} {s : Shared}
end
section
variable {X : Cx}
end
end L2
namespace Att
open PySem PySem.W PySem.Calls PyProof.Rows
theorem ints_of_wellAll {P : Params} {h : Heap} : ∀ (ns : List Int) (vs : List Value), WellAll P h vs (ns.map WData.int) -> IntsAre vs ns := by
 intro ns
 induction ns with
 | nil =>
  intro vs w
  rw [List.map_nil] at w
  cases w
  exact .nil
 | cons n ns ih =>
  intro vs w
  rw [List.map_cons] at w
  cases w with
  | cons a b =>
   cases a
   exact .cons _ _ (ih _ b)
theorem script_of {l : OpenLaw} {n : Nat} (hn : l.most = some n) {P : Params} {h : Heap} {args : List WData} {vals : List Value}
  (hpre : l.row.toRowW.claim.pre args = true) (hwl : WellAll P h vals args) :
  ∃ a vs ns, vals = [Value.ref a] /\ args = [WData.list (ns.map WData.int)] /\ h.get? a = some { cls := .type "list", data := .seq vs.toArray } /\ IntsAre vs ns /\ ns.length <= n := by
 have hsh : WShape.hasAll [] args [.list .int] = true := (pre_splitW hpre).1
 have hc : l.pre.holds [] { args := args } = true := (pre_splitW hpre).2
 obtain ⟨d, r, rfl, h1, h2⟩ := hasAllW_cons hsh
 obtain rfl := hasAllW_nil h2
 obtain ⟨xs, rfl, h3⟩ := hasW_list h1
 obtain ⟨ns, rfl⟩ := items_int h3
 have hlen : ns.length <= n := by
  unfold OpenLaw.pre at hc
  have h4 : (WTm.not (.lt (.lit (.int (n : Int))) (.len (.arg 0)))).holds [] { args := [.list (ns.map .int)] } = true := by
   have h4 := (holds_andW hc).1
   rw [hn] at h4
   exact h4
  have h5 := condW_of h4 (w_not (w_lt w_lit (w_len_list (w_arg rfl))))
  rw [List.length_map] at h5
  refine Nat.le_of_not_lt fun q => ?_
  have q' : (n : Int) < ((ns.length : Nat) : Int) := by omega
  first
   | (rw [decide_eq_true q'] at h5; exact absurd h5 (by decide))
   | (simp at h5; omega)
 cases hwl with
 | cons w1 w2 =>
  cases w2
  cases w1 with
  | list ho hall => exact ⟨_, _, ns, rfl, rfl, ho, ints_of_wellAll ns _ hall, hlen⟩
theorem post_true (l : OpenLaw) (args : List WData) : l.row.toRowW.claim.post args (.bool true) args = true :=
 postW_of (r := l.row.toRowW) (X := (true == true))
  (show WShape.has [] (.bool true) .bool = true by first | rfl | decide | simp [WShape.has, WShape.arms, WShape.armsAll])
  (show (WTm.eq .res (.lit (.bool true))).value [] { args := args, res := some (.bool true), after := args } = some (.bool (true == true)) from w_eq_bool (w_res rfl) w_lit) rfl
theorem attach_call {l : OpenLaw} {n : Nat} {q : Program} {loose : List Str} {XP : (Str -> Option Value) -> Heap -> Prop} {YP : World -> Heap -> Prop} {d : DefRec}
  (hn : l.most = some n) (hdf : d.params.defaults = [])
  (call : ∀ (w : World) (s₀ s₁ : Shared) (mg mb : Str -> Option Value) (fa : Addr) (o : Obj) (pm cd doc : Value) (a : Addr) (vs : List Value) (ns : List Int),
   Ground q loose [] XP w s₀ mg mb s₁.heap -> YP w s₁.heap ->
   s₁.heap.get? fa = some o -> o.data = .func (docDef d.name d.params d.body d.scope pm cd doc) -> s₁.heap.CodeRec cd d.name -> mg d.name = some (.ref fa) ->
   s₁.heap.get? a = some { cls := .type "list", data := .seq vs.toArray } -> IntsAre vs ns -> ns.length <= n -> s₁.gens = #[] ->
   codeAny (model l.prog w) callerA (.call (.ref fa) ⟨[.ref a], []⟩) (fun r s' => r = .ok (.ret (.bool true)) /\ OldK s₁.heap s'.heap /\ s'.os = s₁.os /\ AllBare s'.gens) s₁) :
  WalkO q loose XP YP l.row.toRowW d [] (fun f vs => PySem.call f vs) := by
 intro w s₀ s₁ mg mb G Y fa o pm cd doc dV kV ho hd hcd hD hmg hg args vals as hpre hlay hrd hwl hlo
 obtain rfl : dV = .none := Dflts.none hD hdf
 obtain rfl : kV = .none := Dflts.noKw hD
 obtain ⟨a, vs, ns, rfl, rfl, hobj, hints, hlen⟩ := script_of hn hpre hwl
 refine enter_call (codeAny_mono (call w s₀ s₁ mg mb fa o pm cd doc a vs ns G Y ho (fd_plain hd) hcd hmg hobj hints hlen hg) fun r s' hq => ?_)
 obtain ⟨rfl, h2, h3, h4⟩ := hq
 exact ⟨.inl ⟨.bool true, .bool true, [], rfl, fun _ => rfl, .bool true, post_true l _, fun _ => ⟨List.Pairwise.nil, fun _ hm => (nomatch hm)⟩⟩, h2, h3, h4⟩
section
variable {prog : Program} {w : World} {A : Around} {E : Value -> Shared -> Prop} {s : Shared} {K : Frag}
end
end Att
namespace L2
open PySem PySem.Spec PyProof.Rows
theorem vals_ints : ∀ {vs : List Value} {ns : List Int}, IntsAre vs ns -> Vals (ns.map V.int) vs
 | _, _, .nil => .nil
 | _, _, .cons n t h => .cons ⟨t, rfl⟩ (vals_ints h)
noncomputable def Only (H : Hp) : Prop := ∀ b, H b = none \/ ∃ o xs, H b = some (.frz o (.lst xs))
theorem law_call {P : Program} {w : World} {K : PySem.W.Frag} {mg mb : Str -> Option Value} {CX : CXT} {k : Nat} {fa a : Addr} {fd : FuncData} {x : Str} {sp : Sp} {s₁ : Shared} {vs : List Value} {ns : List Int}
  (KX : K.In s₁.heap) (hns : s₁.heap.Ns mainGlobals mg) (hb : s₁.heap.Ns builtinsNs mb) (hbb : ∀ x : Str, x ≠ "__name__" -> mb x = bootBuiltins x) (hlim : s₁.heap.NoLimit) (hg : s₁.gens = #[])
  (ha : s₁.heap.get? a = some { cls := .type "list", data := .seq vs.toArray }) (hi : IntsAre vs ns) (hl : ns.length <= sizeLine) (hr : Room k callerA)
  (F : ∀ base : Heap, K.In base -> base.Ns mainGlobals mg -> FnOk P w K mg base CX k fa fd [x] sp) (hbind : ∀ (s : Shared) (u : Value), BindsTo s fd ⟨[u], []⟩ [(x, u)])
  (hsp : ∀ H : Hp, Only H -> SqL K H a (ns.map V.int) -> sp [.ref a] H (fun v _ => v = .bl true) fun _ _ _ => False)
  (hCX : ∀ H e s', CX [] H s₁ (fun _ _ _ => False) e s' -> False) :
  codeAny (model P w) callerA (.call (.ref fa) ⟨[.ref a], []⟩) (fun r s' => r = .ok (.ret (.bool true)) /\ OldK s₁.heap s'.heap /\ s'.os = s₁.os /\ AllBare s'.gens) s₁ := by
 have rv := vals_ints hi
 have lenV := hi.length
 have core : ∀ H : Hp, Only H -> SqL K H a (ns.map V.int) -> HOk P w H s₁.heap -> (∀ b, H b ≠ none -> b = a) -> (H a ≠ none -> K.lookup a = none) ->
   codeAny (model P w) callerA (.call (.ref fa) ⟨[.ref a], []⟩) (fun r s' => r = .ok (.ret (.bool true)) /\ OldK s₁.heap s'.heap /\ s'.os = s₁.os /\ AllBare s'.gens) s₁ := by
  intro H hO hS hok hA hK
  have base_of : ∀ {b : Addr} {o : Obj}, s₁.heap.get? b = some o -> H b = none -> (hidT s₁.heap H).get? b = some o := fun e n => hidT_get e n
  have noA : ∀ {b : Addr} {o : Obj} {es : Array DictEntry} {ep : Nat}, s₁.heap.get? b = some o -> o.data = .dict es ep -> H b = none := fun {b o es ep} e d => by
   cases q : H b with
   | none => rfl
   | some u =>
    have e' : b = a := hA b (by rw [q]; simp)
    subst e'
    rw [ha] at e; cases e
    have d' : Data.seq vs.toArray _ = Data.dict es ep := d
    cases d'
  have nsK : ∀ {b : Addr} {m : Str -> Option Value}, s₁.heap.Ns b m -> (hidT s₁.heap H).Ns b m := fun {b m} ⟨o, es, ep, e, d, r⟩ => ⟨o, es, ep, base_of e (noA e d), d, r⟩
  have hKb : K.In (hidT s₁.heap H) := fun b o e => base_of (KX b o e) (by
   cases q : H b with
   | none => rfl
   | some u =>
    have e' : b = a := hA b (by rw [q]; simp)
    subst e'
    rw [hK (by rw [q]; simp)] at e; cases e)
  have hM : Mod K mg (hidT s₁.heap H) := ⟨hKb, nsK hns, ⟨mb, nsK hb, hbb⟩, let ⟨mc, h1, h2⟩ := hlim; ⟨mc, nsK h1, h2⟩⟩
  have e0 : Env0 P w K mg (hidT s₁.heap H) callerA [] s₁ H := ⟨rfl, hM, fun b o e => of_hidT e, Nat.le_of_eq (hidT_size _ _), trivial, fun b hb => absurd (show b ∈ ([] : List Addr) from hb) (by simp), hok, .of_eq hg⟩
  refine codeAny_mono ((F _ hKb (nsK hns)).run callerA [] s₁ H ⟨[.ref a], []⟩ [.ref a] [.ref a] _ _ hr e0 (hbind s₁ (.ref a)) (.cons rfl .nil) (hsp H hO hS)) fun r s' h => ?_
  cases r with
  | error e => exact (hCX H e s' h).elim
  | ok fl =>
   cases fl with
   | next => exact False.elim h
   | brk => exact False.elim h
   | cont => exact False.elim h
   | ret u =>
    obtain ⟨v, H', os, bare, un, hok', r', q⟩ := h
    have q' : v = .bl true := q
    subst q'
    obtain rfl : u = Value.bool true := r'
    refine ⟨rfl, OldK.of_keep fun b o e => ?_, os, bare⟩
    cases q : H b with
    | none => exact un.keep b o e q (by intro z; exact absurd (show b ∈ ([] : List Addr) from z) (by simp)) (by simp)
    | some u =>
     rcases hO b with z | ⟨ob, xs, z⟩
     ·rw [q] at z; cases z
     ·have z2 := un.frzs b ob _ z
      obtain ⟨e1, _⟩ := hok b _ z
      obtain ⟨e2, _⟩ := hok' b _ z2
      rw [e] at e1; cases e1
      exact e2
 cases hk : K.lookup a with
 | some o =>
  have e := KX a o hk
  rw [ha] at e
  cases e
  refine core (fun _ => none) (fun _ => .inl rfl) (.inr ⟨_, vs.toArray, _, hk, rfl, rfl, rfl, by rw [List.size_toArray, lenV]; exact hl, by simpa using rv⟩) (fun b u z => by have z' : (none : Option HO) = some u := z; cases z') (fun b z => absurd rfl z) fun z => absurd rfl z
 | none =>
  refine core (fun b => if b = a then some (.frz { cls := .type "list", data := .seq vs.toArray } (.lst (ns.map V.int))) else none) (fun b => ?_) (.inl (.inr ⟨{ cls := .type "list", data := .seq vs.toArray }, if_pos rfl⟩)) (fun b u z => ?_) (fun b z => ?_) fun _ => hk
  ·by_cases hb : b = a
   ·exact .inr ⟨_, _, if_pos hb⟩
   ·exact .inl (if_neg hb)
  ·by_cases hb : b = a
   ·have z' := (if_pos hb).symm.trans z
    cases z'
    subst hb
    exact ⟨ha, by rw [List.length_map]; exact hl, vs, _, rv, ha⟩
   ·have z' := (if_neg hb).symm.trans z
    cases z'
  ·by_cases hb : b = a
   ·exact hb
   ·exact absurd (if_neg hb) z
end L2
namespace L2
open PySem PySem.Spec PyProof.Rows
theorem walk_of {l : PySem.W.OpenLaw} {n k : Nat} {q : Program} {loose : List Str} {XP : (Str -> Option Value) -> Heap -> Prop} {YP : World -> Heap -> Prop} {d : DefRec} {K : Params -> PySem.W.Frag} {CX : World -> CXT} {sp : World -> Sp} {x : Str}
  (hn : l.most = some n) (hn2 : n <= sizeLine) (hdf : d.params.defaults = []) (hr : Room k callerA)
  (hY : ∀ (w : World) (h : Heap), YP w h -> (K w.params).In h)
  (F : ∀ (w : World) (mg : Str -> Option Value) (fa : Addr) (h : Heap), (K w.params).In h -> h.Ns mainGlobals mg -> mg d.name = some (.ref fa) ->
   ∃ fd : FuncData, (∀ (s : Shared) (u : Value), BindsTo s fd ⟨[u], []⟩ [(x, u)]) /\
    ∀ base : Heap, (K w.params).In base -> base.Ns mainGlobals mg -> FnOk l.prog w (K w.params) mg base (CX w) k fa fd [x] (sp w))
  (hsp : ∀ (w : World) (H : Hp) (a : Addr) (ns : List Int), ns.length <= n -> Only H -> SqL (K w.params) H a (ns.map V.int) -> sp w [.ref a] H (fun v _ => v = .bl true) fun _ _ _ => False)
  (hCX : ∀ (w : World) (H : Hp) (s : Shared) (e : Value) (s' : Shared), CX w [] H s (fun _ _ _ => False) e s' -> False) :
  PySem.W.WalkO q loose XP YP l.row.toRowW d [] (fun f vs => PySem.call f vs) := by
 refine Att.attach_call hn hdf fun w s₀ s₁ mg mb fa o pm cd doc a vs ns G Y ho hd hcd hmg hobj hints hlen hg => ?_
 have KX := hY w _ Y
 obtain ⟨fd, hb, hF⟩ := F w mg fa _ KX G.T.g hmg
 exact law_call KX G.T.g G.T.b G.T.builtins G.T.nolimit hg hobj hints (Nat.le_trans hlen hn2) hr hF hb (fun H hO hS => hsp w H a ns hlen hO hS) fun H e s' => hCX w H s₁ e s'
theorem walk_ofK {l : PySem.W.OpenLaw} {n k : Nat} {q : Program} {loose : List Str} {XP : (Str -> Option Value) -> Heap -> Prop} {YP : World -> Heap -> Prop} {d : DefRec} {K : Params -> PySem.W.Frag} {CX : CXT} {sp : PySem.W.Frag -> Sp} {x : Str}
  (hn : l.most = some n) (hn2 : n <= sizeLine) (hdf : d.params.defaults = []) (hr : Room k callerA)
  (hY : ∀ (w : World) (h : Heap), YP w h -> (K w.params).In h)
  (F : ∀ (w : World) (mg : Str -> Option Value) (fa : Addr) (h : Heap), (K w.params).In h -> h.Ns mainGlobals mg -> mg d.name = some (.ref fa) ->
   ∃ fd : FuncData, (∀ (s : Shared) (u : Value), BindsTo s fd ⟨[u], []⟩ [(x, u)]) /\
    ∀ base : Heap, (K w.params).In base -> base.Ns mainGlobals mg -> FnOk l.prog w (K w.params) mg base CX k fa fd [x] (sp (K w.params)))
  (hsp : ∀ (K : PySem.W.Frag) (H : Hp) (a : Addr) (ns : List Int), ns.length <= n -> Only H -> SqL K H a (ns.map V.int) -> sp K [.ref a] H (fun v _ => v = .bl true) fun _ _ _ => False)
  (hCX : ∀ (H : Hp) (s : Shared) (e : Value) (s' : Shared), CX [] H s (fun _ _ _ => False) e s' -> False) :
  PySem.W.WalkO q loose XP YP l.row.toRowW d [] (fun f vs => PySem.call f vs) :=
 walk_of (K := K) (CX := fun _ => CX) (sp := fun w => sp (K w.params)) hn hn2 hdf hr hY F (fun w H a ns h1 h2 h3 => hsp (K w.params) H a ns h1 h2 h3) fun _ H s e s' => hCX H s e s'
end L2
/- THE LAST THEOREM (shape; LID, My.* are yours):
   My.Adr: a structure of the addresses that your layer names (classes, functions); My.Txt K t: a structure (Prop) of the equations over K;
   My.txt_mk : {K} {implicit addresses ..} (e1 : nsIn K mainGlobals "law" = some (some (.ref f))) (e2 : K.lookup f = some ⟨oc, od, .func (fnOf "law" "law" params body scope dV kV doc pm an cdv ct), sl⟩) (e3 : codeIn K cdv "law" = true) .. : ∃ t, My.Txt K t
set_option maxRecDepth 100000 in
set_option maxHeartbeats 0 in
theorem PySem.Challenge.cw_LID_holds : PySem.Challenge.rw_LID.Holds := by
 w_on; o_law; k_head; (case hw => w_witness2)
 k_fill
 refine L2.walk_of (l := PySem.Challenge.rw_LID) (n := 63) (k := 40) (x := "script") (CX := fun w => ..) (sp := fun _ => My.sp_law) rfl (by decide) rfl ⟨rfl, by decide, by decide⟩ (fun w h Y => PySem.W.kIn_of Y) ?F ?S ?C
 case F =>
  intro w mg fa h KX G hmg
  have T : ∃ t, My.Txt (L2.KOf KX) t := by
   dsimp only [L2.KOf]                          -- K must stand as «<heap const> w.params» for k_is
   refine' My.txt_mk ?e1 ?e2 ?e3 ..
   (case e1 => PySem.W.k_is)                    -- in the order: a name -> its address -> its object -> its parts
   (case e2 => PySem.W.k_is)
   ..
  obtain ⟨t, T⟩ := T
  have e0 := hmg.symm.trans (PySem.W.mg_of KX G T.law)
  cases e0                                       -- fa is the law's own address
  exact ⟨_, fun s u => .of_eq rfl, fun base kb nb => My.law_fn T kb nb⟩     -- if «.of_eq rfl» comes too early: refine' ⟨_, ?b, fun base kb nb => My.law_fn T kb nb⟩; exact fun s u => .of_eq rfl
 case S => exact fun w H a ns hl hO hS => ..
 case C => exact ..
(the tactic k_is has no namespace: write k_is) -/
namespace L2
open PySem PySem.Spec PyProof.Rows
noncomputable def defArgs (s : Stmt) : Arguments := match s with
 | .FunctionDef _ a _ _ _ _ _ _ _ _ => a
 | _ => { posonlyargs := [], args := [], vararg := none, kwonlyargs := [], kw_defaults := [], kwarg := none, defaults := [] }
noncomputable def defBody (s : Stmt) : List Stmt := match s with
 | .FunctionDef _ _ b _ _ _ _ _ _ _ => b
 | _ => []
noncomputable def defScope (s : Stmt) : Scope := match s with
 | .FunctionDef _ _ _ _ _ _ sc _ _ _ => sc
 | _ => { kind := .function, names := [], isGenerator := false, isCoroutine := false }
noncomputable abbrev CX0 : CXT := fun _ _ _ _ _ _ => False
noncomputable abbrev E0 : XK := fun _ _ _ => False
theorem pass0 {X : Cx} : Passes CX0 X E0 := fun _ _ _ _ _ _ _ h => h.elim
structure Fun (K : PySem.W.Frag) (x qual : Str) (st : Stmt) (f : Addr) (fd : FuncData) : Prop where
 ex : ∃ (oc : Value) (od : Option Addr) (kV doc pm : Value) (an : Option Addr) (cdv ct : Value) (osl : Array (Option Value)),
  fd = PySem.W.fnOf x qual (defArgs st) (defBody st) (defScope st) .none kV doc pm an cdv ct /\ K.lookup f = some ⟨oc, od, .func fd, osl⟩ /\ PySem.W.codeIn K cdv qual = true
 kp : PySem.W.keepIn K (.ref f) = true
section
variable {P : Program} {w : World} {K : PySem.W.Frag} {mg : Str -> Option Value} {base : Heap}
theorem Fun.ok {x qual : Str} {st : Stmt} {f : Addr} {fd : FuncData} {N ps : List Str} {k : Nat} {sp : Sp} (F : Fun K x qual st f fd) (S : FnScope N ps (defScope st)) (len : ∀ vs H Q E, sp vs H Q E -> vs.length = ps.length)
  (hbody : ∀ (cdv : Value) (A : Around) (outer : List Env) (s : Shared) (H : Hp) (vs : List V) (Q : VK) (E : XK), Room k (A.deeper (envOfC qual (defScope st) s.heap.objs.size f cdv)) -> sp vs H Q E ->
   ∃ t, PSs (cxOf CX0 P w K mg base N qual (defScope st) f cdv A outer s H E).nox (defBody st) t /\ t { nx := fun _ H' => Q .non H', rt := Q } (start N vs) H) : FnOk P w K mg base CX0 (k + 1) f fd ps sp := by
 obtain ⟨oc, od, kV, doc, pm, an, cdv, ct, osl, rfl, lk, hcd⟩ := F.ex
 refine fn_of lk hcd S len fun A outer s H vs Q E hr hsp => ?_
 obtain ⟨t, h, q⟩ := hbody cdv A outer s H vs Q E hr hsp
 exact ⟨t, h.nox, q⟩
theorem Fun.binds {x qual : Str} {st : Stmt} {f : Addr} {fd : FuncData} {ps : List Str} (F : Fun K x qual st f fd)
  (h : ∀ (kV doc pm : Value) (an : Option Addr) (cdv ct : Value) (us : List Value), us.length = ps.length -> bindArgs (PySem.W.fnOf x qual (defArgs st) (defBody st) (defScope st) .none kV doc pm an cdv ct) ⟨us, []⟩ = pure (ps.zip us)) : Binds K fd ps [] := by
 obtain ⟨oc, od, kV, doc, pm, an, cdv, ct, osl, rfl, lk, hcd⟩ := F.ex
 exact .all (h kV doc pm an cdv ct)
theorem fun_mk {x qual : Str} {st : Stmt} {f : Addr} {oc : Value} {od an : Option Addr} {osl : Array (Option Value)} {kV doc pm cdv ct : Value} (l : K.lookup f = some ⟨oc, od, .func (PySem.W.fnOf x qual (defArgs st) (defBody st) (defScope st) .none kV doc pm an cdv ct), osl⟩)
  (c : PySem.W.codeIn K cdv qual = true) (k : PySem.W.keepIn K (.ref f) = true) : Fun K x qual st f (PySem.W.fnOf x qual (defArgs st) (defBody st) (defScope st) .none kV doc pm an cdv ct) := ⟨⟨oc, od, kV, doc, pm, an, cdv, ct, osl, rfl, l, c⟩, k⟩
end
theorem hu_of {A : Around} {k : Nat} (hr : Room k A) : A.units + 1 < cLine := Nat.lt_of_le_of_lt (Nat.add_le_add_left (by decide : 1 <= 64) _) hr.units
theorem small1000 {n : Nat} (h : n <= 1000) : n < sizeLine := Nat.lt_of_le_of_lt h (by decide)
section
variable {X : Cx}
theorem pv (i : Nat) {x : Str} {pos : Pos} (hN : X.N[i]? = some x := by rfl) (hv : Vis X.env.scope x := by first | exact Or.inl rfl | exact Or.inr (Or.inl rfl) | exact Or.inr (Or.inr rfl)) (hd : (x == ("__debug__" : Str)) = false := by decide)
  (hcd : (x == ("__classdict__" : Str)) = false := by decide) : PE X (.Name x pos) (tVar i) := pe_var hN hv hd hcd
end
theorem iteF {A B : Prop} (h : B) : if false = true then A else B := by
 rw [if_neg Bool.false_ne_true]
 exact h
theorem iteT {A B : Prop} (h : A) : if true = true then A else B := by
 rw [if_pos rfl]
 exact h
theorem ite2 {c A B : Prop} [Decidable c] (h1 : c -> A) (h2 : ¬ c -> B) : if c then A else B := by
 by_cases h : c
 ·rw [if_pos h]
  exact h1 h
 ·rw [if_neg h]
  exact h2 h
noncomputable def Same (H H' : Hp) : Prop := ∀ b o, H b = some o -> H' b = some o
theorem Same.refl (H : Hp) : Same H H := fun _ _ h => h
theorem Same.trans {H H1 H2 : Hp} (a : Same H H1) (b : Same H1 H2) : Same H H2 := fun c o h => b c o (a c o h)
theorem Same.free {H H' : Hp} (e : Same H H') {l : Addr} (h : H' l = Option.none) : H l = Option.none := by
 cases q : H l with
 | none => rfl
 | some o =>
  rw [e l o q] at h
  cases h
theorem Same.seq {K : PySem.W.Frag} {H H' : Hp} {a : Addr} {xs : List V} (e : Same H H') (h : SqL K H a xs) : SqL K H' a xs := by
 rcases h with (h | ⟨o, h⟩) | h
 ·exact .inl (.inl (e _ _ h))
 ·exact .inl (.inr ⟨o, e _ _ h⟩)
 ·exact .inr h
section
variable {κ : Type} [DecidableEq κ]
theorem dropK_pos {p : κ × V} {r : List (κ × V)} {k : κ} (e : p.1 = k) : dropK (p :: r) k = dropK r k := by
 unfold dropK
 rw [List.filter_cons, if_neg (by simp [e])]
theorem dropK_neg {p : κ × V} {r : List (κ × V)} {k : κ} (e : ¬ p.1 = k) : dropK (p :: r) k = p :: dropK r k := by
 unfold dropK
 rw [List.filter_cons, if_pos (by simp [e])]
theorem dropK_mem {kvs : List (κ × V)} {k : κ} {p : κ × V} (h : p ∈ dropK kvs k) : p ∈ kvs := (List.mem_filter.mp h).1
theorem nd_dropK : ∀ {kvs : List (κ × V)} {k : κ}, (kvs.map (·.1)).Nodup -> ((dropK kvs k).map (·.1)).Nodup
 | [], _, _ => List.nodup_nil
 | p :: r, k, h => by
  have h : (p.1 :: r.map (·.1)).Nodup := h
  obtain ⟨h1, h2⟩ := List.nodup_cons.mp h
  by_cases e : p.1 = k
  ·rw [dropK_pos e]
   exact nd_dropK h2
  ·rw [dropK_neg e]
   show (p.1 :: (dropK r k).map (·.1)).Nodup
   refine List.nodup_cons.mpr ⟨fun m => h1 ?_, nd_dropK h2⟩
   obtain ⟨q, hq, eq⟩ := List.mem_map.mp m
   exact List.mem_map.mpr ⟨q, dropK_mem hq, eq⟩
end
end L2
namespace Tc
noncomputable def dv (t b : Int) : Int := if b < 0 then -(Int.gcd t b : Int) else (Int.gcd t b : Int)
theorem fmod_pos {t b : Int} (h : 0 < b) : 0 <= t.fmod b /\ t.fmod b < b := by
 rw [Int.fmod_eq_emod_of_nonneg _ (Int.le_of_lt h)]
 exact ⟨Int.emod_nonneg _ (by omega), Int.emod_lt_of_pos _ h⟩
theorem fmod_neg {t b : Int} (h : b < 0) : b < t.fmod b /\ t.fmod b <= 0 := by
 have e : t.fmod b = -((-t).fmod (-b)) := by
  have h1 := Int.mul_fdiv_add_fmod t b
  have h2 := Int.mul_fdiv_add_fmod (-t) (-b)
  rw [Int.neg_fdiv_neg] at h2
  have h3 : -b * t.fdiv b = -(b * t.fdiv b) := Int.neg_mul _ _
  rw [h3] at h2
  omega
 have p := fmod_pos (t := -t) (b := -b) (by omega)
 omega
theorem gcd_fmod (t b : Int) : Int.gcd b (t.fmod b) = Int.gcd t b := by
 have h1 := Int.mul_fdiv_add_fmod t b
 have e : t.fmod b = t + b * (-(t.fdiv b)) := by
  rw [Int.mul_neg]; omega
 rw [e, Int.gcd_comm, Int.gcd_add_mul_left_left]
structure Dv (t₀ b₀ t b : Int) : Prop where
 g : Int.gcd t b = Int.gcd t₀ b₀
 p : 0 < b₀ -> 0 <= b /\ (b = 0 -> 0 < t)
 n : b₀ < 0 -> b <= 0 /\ (b = 0 -> t < 0)
theorem Dv.start {t b : Int} (h : b ≠ 0) : Dv t b t b := ⟨rfl, fun p => ⟨Int.le_of_lt p, fun e => absurd e h⟩, fun p => ⟨Int.le_of_lt p, fun e => absurd e h⟩⟩
theorem Dv.turn {t₀ b₀ t b : Int} (d : Dv t₀ b₀ t b) (h : b ≠ 0) : Dv t₀ b₀ b (t.fmod b) := by
 refine ⟨(gcd_fmod t b).trans d.g, fun p => ?_, fun p => ?_⟩
 ·have q := d.p p
  have r := fmod_pos (t := t) (b := b) (by omega)
  exact ⟨r.1, fun _ => by omega⟩
 ·have q := d.n p
  have r := fmod_neg (t := t) (b := b) (by omega)
  exact ⟨r.2, fun _ => by omega⟩
theorem Dv.less {t b : Int} (h : b ≠ 0) : (t.fmod b).natAbs < b.natAbs := by
 rcases Int.lt_or_gt_of_ne h with q | q
 ·have r := fmod_neg (t := t) q; omega
 ·have r := fmod_pos (t := t) q; omega
theorem Dv.done {t₀ b₀ t b : Int} (d : Dv t₀ b₀ t b) (h : b = 0) (h0 : b₀ ≠ 0) : t = dv t₀ b₀ := by
 subst h
 have g := d.g
 rw [Int.gcd_zero_right] at g
 unfold dv
 rw [<- g]
 split
 ·rename_i q; have := (d.n q).2 rfl; omega
 ·have := (d.p (by omega)).2 rfl; omega
theorem gcd_pos {t b : Int} (h : b ≠ 0) : 0 < Int.gcd t b := Nat.pos_of_ne_zero fun e => h (Int.gcd_eq_zero_iff.mp e).2
theorem dv_ne {t b : Int} (h : b ≠ 0) : dv t b ≠ 0 := by
 have := gcd_pos (t := t) h
 unfold dv; split <;> omega
theorem dv_dvd_left (t b : Int) : dv t b ∣ t := by
 have := Int.gcd_dvd_left t b
 unfold dv; split
 ·exact Int.neg_dvd.mpr this
 ·exact this
theorem dv_dvd_right (t b : Int) : dv t b ∣ b := by
 have := Int.gcd_dvd_right t b
 unfold dv; split
 ·exact Int.neg_dvd.mpr this
 ·exact this
theorem dv_abs (t b : Int) : (dv t b).natAbs = Int.gcd t b := by
 unfold dv; split <;> omega
theorem dv_le {t b : Int} (h : b ≠ 0) : (dv t b).natAbs <= b.natAbs := by
 rw [dv_abs]
 have := Int.gcd_dvd_right t b
 exact Nat.le_of_dvd (by omega) (Int.natAbs_dvd_natAbs.mpr this |> (by simpa using ·))
theorem dv_num {t b : Int} (h : b ≠ 0) : t.fdiv (dv t b) = (Rat.divInt t b).num := by
 rw [Int.fdiv_eq_ediv_of_dvd (dv_dvd_left t b), Rat.num_divInt, Int.gcd_comm]
 unfold dv
 rcases Int.lt_or_gt_of_ne h with q | q
 ·rw [if_pos q, Int.sign_eq_neg_one_of_neg q, Int.ediv_neg, Int.neg_one_mul, Int.neg_ediv_of_dvd (Int.gcd_dvd_left t b)]
 ·rw [if_neg (by omega), Int.sign_eq_one_of_pos q, Int.one_mul]
theorem dv_den {t b : Int} (h : b ≠ 0) : b.fdiv (dv t b) = ((Rat.divInt t b).den : Int) := by
 rw [Int.fdiv_eq_ediv_of_dvd (dv_dvd_right t b), Rat.den_divInt, if_neg h, Int.gcd_comm]
 unfold dv
 rw [Int.natCast_ediv]
 rcases Int.lt_or_gt_of_ne h with q | q
 ·rw [if_pos q, Int.ediv_neg, <- Int.neg_ediv_of_dvd (Int.gcd_dvd_right t b)]
  congr 1; omega
 ·rw [if_neg (by omega)]
  congr 1; omega
end Tc
namespace Tc
theorem dv_pos {t b : Int} (h : 0 < b) : dv t b = (Int.gcd t b : Int) := by unfold dv; rw [if_neg (by omega)]
theorem low {n d : Int} (hd : 0 < d) (hg : Int.gcd n d = 1) : (Rat.divInt n d).num = n /\ ((Rat.divInt n d).den : Int) = d := by
 have h1 := dv_num (t := n) (b := d) (by omega)
 have h2 := dv_den (t := n) (b := d) (by omega)
 rw [dv_pos hd, hg] at h1 h2
 constructor
 ·rw [<- h1]; simp
 ·rw [<- h2]; simp
theorem rat_den_pos (r : Rat) : (0 : Int) < r.den := by have := r.den_pos; omega
theorem rat_gcd (r : Rat) : Int.gcd r.num r.den = 1 := by
 have := r.reduced
 unfold Nat.Coprime at this
 unfold Int.gcd
 simpa using this
theorem plus_ok (r q : Rat) {s rest top d : Int} (hs : s = dv r.den q.den) (hr : rest = (r.den : Int).fdiv s) (ht : top = r.num * ((q.den : Int).fdiv s) + q.num * rest) (hd : d = dv top s) :
  top.fdiv d = (r + q).num /\ rest * ((q.den : Int).fdiv d) = ((r + q).den : Int) := by
 have p1 := r.den_pos
 have p2 := q.den_pos
 have gp : 0 < Nat.gcd r.den q.den := Nat.gcd_pos_of_pos_left _ p1
 have es : s = ((Nat.gcd r.den q.den : Nat) : Int) := by
  rw [hs, dv_pos (by omega)]; unfold Int.gcd; simp
 have e1 : (r.den : Int).fdiv s = ((r.den / Nat.gcd r.den q.den : Nat) : Int) := by
  rw [es, Int.fdiv_eq_ediv_of_nonneg _ (by omega), Int.natCast_ediv]
 have e2 : (q.den : Int).fdiv s = ((q.den / Nat.gcd r.den q.den : Nat) : Int) := by
  rw [es, Int.fdiv_eq_ediv_of_nonneg _ (by omega), Int.natCast_ediv]
 have er : rest = ((r.den / Nat.gcd r.den q.den : Nat) : Int) := hr.trans e1
 have et : top = r.num * ((q.den / Nat.gcd r.den q.den : Nat) : Int) + q.num * ((r.den / Nat.gcd r.den q.den : Nat) : Int) := by rw [ht, e2, er]
 have key : top.natAbs.gcd (Nat.gcd r.den q.den) = top.natAbs.gcd ((r.den / Nat.gcd r.den q.den) * q.den) := by
  rw [et]
  exact Rat.add.aux r q rfl rfl rfl
 have ed : d = ((top.natAbs.gcd (Nat.gcd r.den q.den) : Nat) : Int) := by
  rw [hd, es, dv_pos (by omega)]; unfold Int.gcd; simp
 have hrd : Nat.gcd r.den q.den ∣ r.den := Nat.gcd_dvd_left _ _
 have hqd : Nat.gcd r.den q.den ∣ q.den := Nat.gcd_dvd_right _ _
 have rp : 0 < r.den / Nat.gcd r.den q.den := Nat.div_pos (Nat.le_of_dvd p1 hrd) gp
 have sum : r + q = Rat.divInt top (((r.den / Nat.gcd r.den q.den) * q.den : Nat) : Int) := by
  have h := Rat.divInt_add_divInt r.num q.num (d₁ := r.den) (d₂ := q.den) (by omega) (by omega)
  rw [Rat.num_divInt_den, Rat.num_divInt_den] at h
  rw [h]
  rw [Rat.divInt_eq_divInt_iff (Int.mul_ne_zero (by omega) (by omega)) (by have := Nat.mul_pos rp p2; omega)]
  rw [et]
  obtain ⟨a, ha⟩ := hrd
  obtain ⟨b, hb⟩ := hqd
  generalize Nat.gcd r.den q.den = g at *
  have a1 : r.den / g = a := by rw [ha]; exact Nat.mul_div_cancel_left _ gp
  have b1 : q.den / g = b := by rw [hb]; exact Nat.mul_div_cancel_left _ gp
  rw [a1, b1]
  rw [ha, hb]
  push_cast
  grind
 have dp : (0 : Int) < (((r.den / Nat.gcd r.den q.den) * q.den : Nat) : Int) := by have := Nat.mul_pos rp p2; omega
 have n1 := dv_num (t := top) (b := (((r.den / Nat.gcd r.den q.den) * q.den : Nat) : Int)) (by omega)
 have n2 := dv_den (t := top) (b := (((r.den / Nat.gcd r.den q.den) * q.den : Nat) : Int)) (by omega)
 have edd : dv top (((r.den / Nat.gcd r.den q.den) * q.den : Nat) : Int) = d := by
  rw [ed, dv_pos dp, key]; unfold Int.gcd; rw [Int.natAbs_natCast]
 rw [<- sum, edd] at n1 n2
 refine ⟨n1, ?_⟩
 rw [<- n2, er]
 have dq : d ∣ (q.den : Int) := by
  rw [ed]
  exact Int.natCast_dvd_natCast.mpr (Nat.dvd_trans (Nat.gcd_dvd_right _ _) hqd)
 have dpos : 0 < d := by
  rw [ed]; have := Nat.gcd_pos_of_pos_right top.natAbs gp; omega
 rw [Int.fdiv_eq_ediv_of_nonneg _ (by omega), Int.fdiv_eq_ediv_of_nonneg _ (by omega)]
 push_cast
 exact (Int.mul_ediv_assoc _ dq).symm
theorem cop_dvd {a d t b : Int} (h : Int.gcd t b = 1) (ha : a ∣ t) (hd : d ∣ b) : Int.gcd a d = 1 :=
 Nat.Coprime.coprime_dvd_left (Int.natAbs_dvd_natAbs.mpr ha) (Nat.Coprime.coprime_dvd_right (Int.natAbs_dvd_natAbs.mpr hd) h)
theorem cop_mul {a b c d : Int} (h1 : Int.gcd a d = 1) (h2 : Int.gcd a b = 1) (h3 : Int.gcd c d = 1) (h4 : Int.gcd c b = 1) : Int.gcd (a * c) (d * b) = 1 := by
 show Nat.Coprime (a * c).natAbs (d * b).natAbs
 rw [Int.natAbs_mul, Int.natAbs_mul]
 exact Nat.coprime_mul_iff_left.mpr ⟨Nat.coprime_mul_iff_right.mpr ⟨h1, h2⟩, Nat.coprime_mul_iff_right.mpr ⟨h3, h4⟩⟩
theorem times_ok {t1 b1 t2 b2 : Int} (h1 : 0 < b1) (h2 : b2 ≠ 0) (c1 : Int.gcd t1 b1 = 1) (c2 : Int.gcd t2 b2 = 1) {l r : Int} (hl : l = dv t1 b2) (hr : r = dv t2 b1) :
  (t1.fdiv l) * (t2.fdiv r) = (Rat.divInt (t1 * t2) (b1 * b2)).num /\ (b1.fdiv r) * (b2.fdiv l) = ((Rat.divInt (t1 * t2) (b1 * b2)).den : Int) := by
 have l0 : l ≠ 0 := by rw [hl]; exact dv_ne h2
 have r0 : 0 < r := by rw [hr, dv_pos h1]; have := gcd_pos (t := t2) (b := b1) (by omega); omega
 obtain ⟨a, ha⟩ : l ∣ t1 := by rw [hl]; exact dv_dvd_left _ _
 obtain ⟨b, hb⟩ : l ∣ b2 := by rw [hl]; exact dv_dvd_right _ _
 obtain ⟨c, hc⟩ : r ∣ t2 := by rw [hr]; exact dv_dvd_left _ _
 obtain ⟨d, hd⟩ : r ∣ b1 := by rw [hr]; exact dv_dvd_right _ _
 have e1 : t1.fdiv l = a := by rw [ha, Int.mul_fdiv_cancel_left _ l0]
 have e2 : b2.fdiv l = b := by rw [hb, Int.mul_fdiv_cancel_left _ l0]
 have e3 : t2.fdiv r = c := by rw [hc, Int.mul_fdiv_cancel_left _ (by omega)]
 have e4 : b1.fdiv r = d := by rw [hd, Int.mul_fdiv_cancel_left _ (by omega)]
 have gl : Int.gcd t1 b2 = l.natAbs := by rw [hl, dv_abs]
 have gr : Int.gcd t2 b1 = r.natAbs := by rw [hr, dv_abs]
 have la : 0 < l.natAbs := by omega
 have ra : 0 < r.natAbs := by omega
 have cab : Int.gcd a b = 1 := by
  rw [ha, hb, Int.gcd_mul_left] at gl
  exact Nat.eq_of_mul_eq_mul_left la (by omega)
 have ccd : Int.gcd c d = 1 := by
  rw [hc, hd, Int.gcd_mul_left] at gr
  exact Nat.eq_of_mul_eq_mul_left ra (by omega)
 have cad : Int.gcd a d = 1 := cop_dvd c1 ⟨l, by rw [ha, Int.mul_comm]⟩ ⟨r, by rw [hd, Int.mul_comm]⟩
 have cbc : Int.gcd c b = 1 := cop_dvd c2 ⟨r, by rw [hc, Int.mul_comm]⟩ ⟨l, by rw [hb, Int.mul_comm]⟩
 have dp : 0 < d := by
  rcases Int.lt_trichotomy d 0 with z | z | z
  ·have := Int.mul_neg_of_pos_of_neg r0 z; omega
  ·subst z; omega
  ·exact z
 have bp : 0 < b := by
  rcases Int.lt_or_gt_of_ne h2 with z | z
  ·have ln : l < 0 := by
    rw [hl]; unfold dv; rw [if_pos z]; have := gcd_pos (t := t1) h2; omega
   rcases Int.lt_trichotomy b 0 with y | y | y
   ·have := Int.mul_pos_of_neg_of_neg ln y; omega
   ·subst y; omega
   ·exact y
  ·have lp : 0 < l := by
    rw [hl, dv_pos z]; have := gcd_pos (t := t1) h2; omega
   rcases Int.lt_trichotomy b 0 with y | y | y
   ·have := Int.mul_neg_of_pos_of_neg lp y; omega
   ·subst y; omega
   ·exact y
 have lw := low (n := a * c) (d := d * b) (Int.mul_pos dp bp) ?_
 ·have ee : Rat.divInt (t1 * t2) (b1 * b2) = Rat.divInt (a * c) (d * b) := by
   rw [Rat.divInt_eq_divInt_iff (Int.mul_ne_zero (by omega) h2) (Int.mul_ne_zero (by omega) (by omega))]
   rw [ha, hb, hc, hd]; grind
  rw [e1, e2, e3, e4, ee]
  exact ⟨lw.1.symm, lw.2.symm⟩
 ·exact cop_mul cad cab ccd cbc
theorem mul_eq (r q : Rat) : Rat.divInt (r.num * q.num) (r.den * q.den) = r * q := by
 rw [<- Rat.divInt_mul_divInt, Rat.num_divInt_den, Rat.num_divInt_den]
theorem div_eq (r q : Rat) (h : q.num ≠ 0) : Rat.divInt (r.num * q.den) (r.den * q.num) = r / q := by
 rw [<- Rat.divInt_mul_divInt, Rat.num_divInt_den, Rat.div_def]
 congr 1
 rw [Rat.inv_def]
theorem gcd_swap (r : Rat) : Int.gcd (r.den : Int) r.num = 1 := by rw [Int.gcd_comm]; exact rat_gcd r
theorem neg_ok (r : Rat) : (0 - r.num) = (-r).num /\ (r.den : Int) = ((-r).den : Int) := by
 constructor
 ·rw [Rat.neg_num]; omega
 ·rw [Rat.neg_den]
theorem sub_eq (r q : Rat) : r + -q = r - q := (Rat.sub_eq_add_neg r q).symm
theorem lt_ok (r q : Rat) : decide (r.num * q.den < q.num * r.den) = decide (r < q) := by
 rw [decide_eq_decide, Rat.lt_iff]
theorem fq_inj {r q : Rat} (h1 : r.num = q.num) (h2 : (r.den : Int) = q.den) : r = q := Rat.ext h1 (by omega)
end Tc
namespace L2
open PySem PySem.Spec PyProof.Rows
theorem bt_abs : bootBuiltins "abs" = some (.builtin "abs") := by decide +kernel
theorem bt_isinstance : bootBuiltins "isinstance" = some (.builtin "isinstance") := by decide +kernel
theorem bt_int : bootBuiltins "int" = some (.type "int") := by decide +kernel
theorem bt_list : bootBuiltins "list" = some (.type "list") := by decide +kernel
theorem bt_tuple : bootBuiltins "tuple" = some (.type "tuple") := by decide +kernel
theorem bt_dict : bootBuiltins "dict" = some (.type "dict") := by decide +kernel
section
variable {X : Cx}
theorem op_mulB : OpR X (binaryOp .Mult) (rI IntMulOk fun i j => .int (i * j)) := opI fun _ _ _ _ _ _ _ hc q => mul_int q hc
noncomputable def CDivB (_ j : Int) : Prop := j ≠ 0 /\ j.natAbs.log2 < 9000
theorem op_fdivB : OpR X (binaryOp .FloorDiv) (rI CDivB fun i j => .int (i.fdiv j)) := opI fun _ _ _ _ _ _ _ hc q => floordiv_int hc.1 q (.inl (PyProof.noPylong_of_log2 hc.2))
theorem log2_lt {n k : Nat} (h : n < 2 ^ k) (hk : 0 < k) : n.log2 < k := by
 rcases Nat.eq_zero_or_pos n with h0 | hp
 ·subst h0
  have : Nat.log2 0 = 0 := by decide
  omega
 ·exact (Nat.log2_lt (Nat.ne_of_gt hp)).mpr h
theorem mulOk_of {a b : Int} (k : Nat) (ha : a.natAbs < 2 ^ k) (hb : b.natAbs < 2 ^ k) (h : k <= 67108864) : IntMulOk a b := by
 have bits : ∀ x : Int, x.natAbs < 2 ^ k -> Builtin.Int.intBits x <= k := fun x hx => by
  unfold Builtin.Int.intBits
  split
  ·exact Nat.zero_le _
  ·rename_i hx0
   rcases Nat.eq_zero_or_pos k with h0 | hp
   ·subst h0
    have : x = 0 := by
     have : x.natAbs < 1 := hx
     omega
    simp [this] at hx0
   ·have := log2_lt hx hp
    omega
 exact IntMulOk.of_le (bits a ha) (bits b hb) (by omega)
theorem divB_of {i j : Int} (h : j ≠ 0) (hb : j.natAbs < 2 ^ 9000) : CDivB i j := ⟨h, log2_lt hb (by decide)⟩
theorem call_isi : CallR X (.builtin "isinstance") (fun xs H Q => ∃ x n t b, xs = [x, .ty n] /\ TyOf X.K H x t /\ PySem.W.kitOne X.K t (.type n) = some b /\ Q (.bl b) H) := by
 intro pins s σ H xs us Q I r h
 obtain ⟨x, n, t, b, rfl, ty, e, q⟩ := h
 obtain ⟨u, u', rfl, ru, ru'⟩ := vals2 r
 cases ru'
 exact isinst_ok I ru ty e fun tk => ⟨.bl b, H, I.tok tk, rfl, q⟩
noncomputable def ItrS (lo c : Int) (n : Nat) : It := ⟨fun i _ => i < n, fun i H x H' => H' = H /\ x = .int (lo + (i : Int) * c), fun i _ => n <= i⟩
theorem turn_rangeS {P : Program} {w : World} {K : PySem.W.Frag} {tg : Expr} (it : Addr) (lo c : Int) (n : Nat) : Turn P w K tg (ItrS lo c n) [it] it (fun i h => IsRangeIter h it (lo + (i : Nat) * c) ((n : Int) - (i : Nat)) c) where
 mem := by simp
 obj := fun i h st b hb => by
  have e : b = it := by simpa using hb
  subst e
  exact ⟨_, st, fun v z => by
   have z' : Data.fields _ = Data.cell v := z
   cases z'⟩
 keep := fun i h h' st k => k it (by simp) _ st
 item := by
  intro X hP hw hK hc i pins s σ H E I hf st hg
  subst hP hw hK
  obtain ⟨f0, f1, f2, f3, f4, f5⟩ := hf it (by simp)
  have W := Walks.range (prog := X.prog) (w := X.w) (I.ok.hd hc) it lo c n
  refine W.item i s _ _ hg st fun v h' tk hv st' kk => ?_
  obtain ⟨t, rfl⟩ := hv
  have I1 : Inv X pins σ H { s with heap := h', toks := tk } := I.turned (fun b o hb e => kk b o (by simpa using hb) e) f0 f1 f3 f4 f5
  exact ⟨_, rfl, go_of (s := { s with heap := h', toks := tk }) (n := "range_iterator") st' rfl rfl (by decide) ⟨.int (lo + (i : Int) * c), H, I1, ⟨t, rfl⟩, ⟨rfl, rfl⟩, st', fun b hb => (hf b hb).1⟩⟩
 done := by
  intro X hP hw hK hc i pins s σ H E I hf st hg
  subst hP hw hK
  obtain ⟨f0, f1, f2, f3, f4, f5⟩ := hf it (by simp)
  exact wpAny_pyNext_range_end (I.ok.hd hc) st (by have : n <= i := hg; omega) fun h' eb => ⟨rfl, I.turned (t' := s.toks) (fun b o hb e => eb b o hb e) f0 f1 f3 f4 f5⟩
 self := fun _ _ _ _ _ st h => wpAny_pyIter_rangeiter st h
noncomputable def rngN (lo hi c : Int) : Nat := if lo < hi then ((hi - lo - 1) / c + 1).toNat else 0
theorem rngN_eq {lo hi c : Int} (h : 0 < c) : ((rngN lo hi c : Nat) : Int) = Builtin.Range.rangeSize lo hi c := by
 unfold rngN Builtin.Range.rangeSize
 rw [if_pos h]
 split
 ·have := Int.ediv_nonneg (a := hi - lo - 1) (b := c) (by omega) (by omega)
  omega
 ·rfl
theorem small_step {a b c : Int} (ha : -(2 ^ 60) <= a) (ha' : a < 2 ^ 60) (hb : -(2 ^ 60) <= b) (hb' : b < 2 ^ 60) (hc : 0 < c) (hc' : c < 2 ^ 60) : Builtin.Range.small a b c = true := by
 have hs : 0 <= Builtin.Range.rangeSize a b c /\ Builtin.Range.rangeSize a b c < 2 ^ 62 := by
  unfold Builtin.Range.rangeSize
  rw [if_pos hc]
  split
  ·have h1 := Int.ediv_nonneg (a := b - a - 1) (b := c) (by omega) (by omega)
   have h2 : (b - a - 1) / c <= b - a - 1 := Int.ediv_le_self _ (by omega)
   omega
  ·omega
 unfold Builtin.Range.small
 simp only [Builtin.Range.rangeFitsLong, Bool.and_eq_true, Bool.or_eq_true, decide_eq_true_eq, beq_iff_eq, if_pos (show c > 0 from hc)]
 omega
theorem range_itS {tg : Expr} {pins : List (Addr × Obj)} {σ : St} {H : Hp} {s : Shared} {R : It -> Hp -> Prop} {E : Value -> Shared -> Prop} {lo hi c : Int} {t u v : Tok} {tk : Nat} (I : Inv X pins σ H s) (h1 : -(2 ^ 60) <= lo) (h2 : lo < 2 ^ 60) (h3 : -(2 ^ 60) <= hi) (h4 : hi < 2 ^ 60) (hc : 0 < c) (hc' : c < 2 ^ 60)
  (q : R (ItrS lo c (rngN lo hi c)) H) : wpAny (model X.prog X.w) X.A (pyIter (.ref s.heap.objs.size)) (PIE X pins σ tg R) E { s with heap := s.heap.push { cls := .type "range", data := .fields #[.int lo t, .int hi u, .int c v] }, toks := tk } := by
 refine wpAny_pyIter_range (IsRange.new ..) (small_step h1 h2 h3 h4 hc hc') ?_
 have I1 : Inv X pins σ H { s with heap := s.heap.push { cls := .type "range", data := .fields #[.int lo t, .int hi u, .int c v] }, toks := tk } := I.kept fun b o e => Heap.get?_push_of_some _ e
 refine ⟨(s.heap.push { cls := .type "range", data := .fields #[.int lo t, .int hi u, .int c v] }).objs.size, [(s.heap.push { cls := .type "range", data := .fields #[.int lo t, .int hi u, .int c v] }).objs.size], _, _, H, rfl,
  I1.kept (t' := tk) fun b o e => Heap.get?_push_of_some _ e, turn_rangeS _ lo c (rngN lo hi c), ?_, fun b hb => ?_, q⟩
 ·have e1 : lo + ((0 : Nat) : Int) * c = lo := by simp
  have e2 : ((rngN lo hi c : Nat) : Int) - ((0 : Nat) : Int) = Builtin.Range.rangeSize lo hi c := by rw [rngN_eq hc]; simp
  show IsRangeIter _ _ (lo + ((0 : Nat) : Int) * c) (((rngN lo hi c : Nat) : Int) - ((0 : Nat) : Int)) c
  rw [e1, e2]
  exact Heap.get?_push_size _ rfl
 ·have e : b = (s.heap.push { cls := .type "range", data := .fields #[.int lo t, .int hi u, .int c v] }).objs.size := by simpa using hb
  subst e
  exact I1.fpOk (Nat.le_refl _) (I1.hok.fresh (Nat.le_refl _))
noncomputable def iRng3 (ta : TA) : TI := fun σ H R => ta σ H fun vs H1 => ∃ i j c : Int, vs = [.int i, .int j, .int c] /\ (-(2 ^ 60) <= i /\ i < 2 ^ 60 /\ -(2 ^ 60) <= j /\ j < 2 ^ 60 /\ 0 < c /\ c < 1073741824) /\ R (ItrS i c (rngN i j c)) H1
theorem pi_range3 {tg a b c : Expr} {ta : TA} {p pos : Pos} (hg : Gl X "range") (hm : X.mg "range" = none) (ha : PA X [a, b, c] ta) (hs : starEach [a, b, c] X.env = [(false, eval a X.env), (false, eval b X.env), (false, eval c X.env)] := by rfl)
  (hs2 : starEach [b, c] X.env = [(false, eval b X.env), (false, eval c X.env)] := by rfl) : PI X tg (.Call (.Name "range" p) [a, b, c] [] pos) (iRng3 ta) := by
 intro pins s σ H R I h
 refine Call_ (ld_blt I hg hm boot_range (PyProof.Rows.callWith_type1 (thn (ha pos pins s σ H _ I h) fun us s1 ⟨vs, H1, I1, r1, q1⟩ => ?_) (by rw [hs, hs2]) (by rw [hs2]; rfl)))
 obtain ⟨i, j, k, e, ⟨q1, q2, q3, q4, q5, q6⟩, q⟩ := q1
 subst e
 cases r1 with
 | cons r rr =>
  cases rr with
  | cons r' rr =>
   cases rr with
   | cons r'' rr =>
    cases rr
    obtain ⟨t, rfl⟩ := r
    obtain ⟨t', rfl⟩ := r'
    obtain ⟨t'', rfl⟩ := r''
    exact call_range_3 (by omega) (range_itS I1 q1 q2 q3 q4 q5 (by omega) q) (.inl (PyProof.noPylong_small (by omega)))
theorem for_rangeS {lo c : Int} {n : Nat} {g : TG} {tb : TS} {D : Ends} {σ : St} {H : Hp} (Pv : Nat -> St -> Hp -> Prop) (h0 : Pv 0 σ H)
  (hs : ∀ i σ H, i < n -> Pv i σ H -> g (.int (lo + (i : Int) * c)) σ H fun σ2 H2 => tb { D with nx := Pv (i + 1), ct := Pv (i + 1), bk := D.nx } σ2 H2) (hd : ∀ σ H, Pv n σ H -> D.nx σ H) :
  ∃ W : Nat -> Nat -> St -> Hp -> Prop, (∃ m, W 0 m σ H) /\ ∀ i m σ H, W i m σ H ->
   ((ItrS lo c n).stop i H /\ D.nx σ H) \/ ((ItrS lo c n).go i H /\ ∃ N : St -> Hp -> Prop, (∀ σ' H', N σ' H' -> ∃ m', m' < m /\ W (i + 1) m' σ' H') /\ ∀ x H', (ItrS lo c n).yld i H x H' -> g x σ H' fun σ2 H2 => tb { D with nx := N, ct := N, bk := D.nx } σ2 H2) := by
 refine ⟨fun i m σ H => m = n - i /\ i <= n /\ Pv i σ H, ⟨n, by simp, Nat.zero_le _, h0⟩, ?_⟩
 rintro i m σ H ⟨rfl, hi, p⟩
 by_cases hlt : i < n
 ·refine .inr ⟨hlt, Pv (i + 1), fun σ' H' p' => ⟨n - (i + 1), by omega, rfl, hlt, p'⟩, fun x H' y => ?_⟩
  obtain ⟨e, y⟩ := y
  subst e y
  exact hs i σ _ hlt p
 ·have e : i = n := by omega
  subst e
  exact .inl ⟨Nat.le_refl _, hd σ H p⟩
end
structure FnAt (P : Program) (w : World) (K : PySem.W.Frag) (mg : Str -> Option Value) (base : Heap) (CX : CXT) (k : Nat) (x : Str) (ps : List Str) (sp : Sp) : Prop where
 ex : ∃ (f : Addr) (fd : FuncData), FnOk P w K mg base CX k f fd ps sp /\ mg x = some (.ref f) /\ PySem.W.keepIn K (.ref f) = true /\ Binds K fd ps []
structure DefAt (K : PySem.W.Frag) (mg : Str -> Option Value) (x : Str) (st : Stmt) : Prop where
 ex : ∃ (f : Addr) (fd : FuncData), Fun K x x st f fd /\ mg x = some (.ref f)
theorem DefAt.mk' {K : PySem.W.Frag} {h : Heap} {mg : Str -> Option Value} {x : Str} {st : Stmt} {f : Addr} {oc : Value} {od an : Option Addr} {osl : Array (Option Value)} {kV doc pm cdv ct : Value} (X : K.In h) (G : h.Ns mainGlobals mg)
  (a : PySem.W.nsIn K mainGlobals x = some (some (.ref f))) (l : K.lookup f = some ⟨oc, od, .func (PySem.W.fnOf x x (defArgs st) (defBody st) (defScope st) .none kV doc pm an cdv ct), osl⟩)
  (c : PySem.W.codeIn K cdv x = true) (k : PySem.W.keepIn K (.ref f) = true) : DefAt K mg x st := ⟨f, _, fun_mk (st := st) l c k, PySem.W.mg_of X G a⟩
section
variable {P : Program} {w : World} {K : PySem.W.Frag} {mg : Str -> Option Value} {base : Heap}
theorem DefAt.ok {x : Str} {st : Stmt} {N ps : List Str} {k : Nat} {sp : Sp} (D : DefAt K mg x st) (S : FnScope N ps (defScope st)) (len : ∀ vs H Q E, sp vs H Q E -> vs.length = ps.length)
  (hb : ∀ (kV doc pm : Value) (an : Option Addr) (cdv ct : Value) (us : List Value), us.length = ps.length -> bindArgs (PySem.W.fnOf x x (defArgs st) (defBody st) (defScope st) .none kV doc pm an cdv ct) ⟨us, []⟩ = pure (ps.zip us))
  (hbody : ∀ (f : Addr) (cdv : Value) (A : Around) (outer : List Env) (s : Shared) (H : Hp) (vs : List V) (Q : VK) (E : XK), Room k (A.deeper (envOfC x (defScope st) s.heap.objs.size f cdv)) -> sp vs H Q E ->
   ∃ t, PSs (cxOf CX0 P w K mg base N x (defScope st) f cdv A outer s H E).nox (defBody st) t /\ t { nx := fun _ H' => Q .non H', rt := Q } (start N vs) H) : FnAt P w K mg base CX0 (k + 1) x ps sp := by
 obtain ⟨f, fd, F, m⟩ := D.ex
 exact ⟨f, fd, F.ok S len fun cdv A outer s H vs Q E hr h => hbody f cdv A outer s H vs Q E hr h, m, F.kp, F.binds hb⟩
end
section
variable {X : Cx} {CX : CXT} {k j : Nat} {ps : List Str} {sp : Sp} {E : XK} {x : Str} {p pos : Pos} {e : Expr} {es : List Expr} {t : TA}
theorem pe_fn (F : FnAt X.prog X.w X.K X.mg X.base CX j x ps sp) (hr : Room k X.A) (hg : Gl X x) (hx : Passes CX X E) (ha : PA X (e :: es) t) (hj : j <= k := by decide)
  (hdb : (x == ("__debug__" : Str)) = false := by decide) (he : starEach (e :: es) X.env = (false, eval e X.env) :: starEach es X.env := by rfl) (hpl : (backTo pos (starEach es X.env)).any (·.1) = false := by rfl) :
  PE X (.Call (.Name x p) (e :: es) [] pos) (tCall sp [] E t) := by
 obtain ⟨f, fd, G, m, kp, b⟩ := F.ex
 exact pe_call G (hr.mono hj) hg m kp b .nil hx ha hdb he hpl
end
end L2
namespace L2
open PySem PySem.Spec PyProof.Rows
noncomputable def tyH : Option HO -> Option String
 | some (.lst _) => some "list"
 | some (.frz _ (.lst _)) => some "list"
 | some (.tup _) => some "tuple"
 | some (.dK _) => some "dict"
 | some (.dT _) => some "dict"
 | _ => none
noncomputable def tyS (H : Hp) : V -> Option String
 | .non => some "NoneType"
 | .bl _ => some "bool"
 | .int _ => some "int"
 | .str _ => some "str"
 | .ref a => tyH (H a)
 | _ => none
theorem tyH_cases {o : Option HO} {n : String} (h : tyH o = some n) :
  (n = "list" /\ ((∃ xs, o = some (.lst xs)) \/ ∃ ob xs, o = some (.frz ob (.lst xs)))) \/ (n = "tuple" /\ ∃ xs, o = some (.tup xs)) \/ (n = "dict" /\ ((∃ kvs, o = some (.dK kvs)) \/ ∃ kvs, o = some (.dT kvs))) := by
 cases o with
 | none => cases h
 | some u =>
  cases u with
  | lst xs => cases h; exact .inl ⟨rfl, .inl ⟨xs, rfl⟩⟩
  | tup xs => cases h; exact .inr (.inl ⟨rfl, xs, rfl⟩)
  | dK kvs => cases h; exact .inr (.inr ⟨rfl, .inl ⟨kvs, rfl⟩⟩)
  | dT kvs => cases h; exact .inr (.inr ⟨rfl, .inr ⟨kvs, rfl⟩⟩)
  | frz ob v =>
   cases v with
   | lst xs => cases h; exact .inl ⟨rfl, .inr ⟨ob, xs, rfl⟩⟩
   | _ => cases h
  | _ => cases h
theorem tyOf_of {K : PySem.W.Frag} {H : Hp} {v : V} {n : String} (h : tyS H v = some n) : TyOf K H v (.type n) := by
 cases v with
 | non => cases h; exact .non
 | bl b => cases h; exact .bl b
 | int i => cases h; exact .int i
 | str x => cases h; exact .str x
 | byt b => cases h
 | flt b => cases h
 | ty b => cases h
 | ref a =>
  rcases tyH_cases (show tyH (H a) = some n from h) with ⟨rfl, ⟨xs, e⟩ | ⟨ob, xs, e⟩⟩ | ⟨rfl, xs, e⟩ | ⟨rfl, ⟨kvs, e⟩ | ⟨kvs, e⟩⟩
  ·exact .lst e
  ·exact .frz e
  ·exact .tup e
  ·exact .dK e
  ·exact .dT e
noncomputable def subS (n m : String) : Bool := n == m || (n == "bool" && m == "int")
theorem kit_tt {K : PySem.W.Frag} {n m : String} (hn : n ∈ ["NoneType", "bool", "int", "str", "list", "tuple", "dict"]) (hm : m ∈ ["int", "bool", "str", "list", "tuple", "dict"]) :
  PySem.W.kitOne K (.type n) (.type m) = some (subS n m) := by
 simp only [List.mem_cons, List.not_mem_nil, or_false] at hn hm
 rcases hn with rfl | rfl | rfl | rfl | rfl | rfl | rfl <;> rcases hm with rfl | rfl | rfl | rfl | rfl | rfl <;> first | rfl | (with_unfolding_all rfl) | decide +kernel
theorem Same.upd {H : Hp} {p : Addr} {o : HO} (h : H p = none) : Same H (upd H p o) := fun b u e => by
 rw [upd_ne (ne_of_none e h)]; exact e
end L2
namespace L2
open PySem PySem.Spec PyProof.Rows
section
variable {P : Program} {w : World} {H H' : Hp} {h h' : Heap} {a : Addr} {o : HO}
theorem ObjOk.there (x : ObjOk P w H h a o) : ∃ ob, h.get? a = some ob := by
 cases o with
 | lst xs => obtain ⟨_, _, _, _, e⟩ := x; exact ⟨_, e⟩
 | tup xs => obtain ⟨_, _, _, ob, e, _⟩ := x; exact ⟨ob, e⟩
 | dK kvs => obtain ⟨_, _, _, _, ob, _, _, e, _⟩ := x; exact ⟨ob, e⟩
 | dT kvs => obtain ⟨_, _, _, _, ob, _, _, e, _⟩ := x; exact ⟨ob, e⟩
 | set S n => obtain ⟨ob, _, _, _, e, _⟩ := x; exact ⟨ob, e⟩
 | ins C dx fs => obtain ⟨_, _, _, e, _⟩ := x; exact ⟨_, e⟩
 | own y => obtain ⟨ob, e⟩ := x; exact ⟨ob, e⟩
 | xd fs => obtain ⟨_, ⟨ob, _, _, e, _⟩, _⟩ := x; exact ⟨ob, e⟩
 | rng lo hi => obtain ⟨_, _, _, e⟩ := x; exact ⟨_, e⟩
 | frz ob u => obtain ⟨e, _⟩ := x; exact ⟨_, e⟩
 | tbl ps => exact ⟨_, (show h.get? a = some _ from x)⟩
 | met f y => exact ⟨_, (show h.get? a = some _ from x)⟩
 | ext φ => obtain ⟨_, ⟨ob, e⟩, _⟩ := x; exact ⟨ob, e⟩
theorem HOk.via (x : HOk P w H h) (k : ∀ b u ob, H b = some u -> h.get? b = some ob -> h'.get? b = some ob) : HOk P w H h' := fun b u e =>
 (x b u e).stay (fun c ob hc q => by
  rcases hc with z | z
  ·subst z; exact k c u ob e q
  ·exact k c _ ob z q) (fun _ q => q) fun _ _ q => q
end
theorem frs_cons {env : Env} {L : Addr} {outer : List Env} (hf : env.frame = some L) : frs (env :: outer) = L :: frs outer := by
 unfold frs; rw [List.filterMap_cons, hf]
structure Kp (P : Program) (w : World) (outer : List Env) (H : Hp) (h : Heap) (H' : Hp) (h' : Heap) (B : Heap) : Prop where
 hok : HOk P w H' h'
 un : Un (frs outer) [] H H' h h'
 old : ∀ b o, h.get? b = some o -> H b = none -> b ∉ frs outer -> B.get? b = some o
 has : ∀ b o, h.get? b = some o -> b ∉ frs outer -> ∃ o', B.get? b = some o'
 trk : ∀ b u, H' b = some u -> ∃ o, h'.get? b = some o /\ B.get? b = some o
section
variable {X : Cx} {pins : List (Addr × Obj)} {σ : St} {H1 H2 : Hp} {s1 : Shared} {h2 h3 B : Heap} {a : Addr} {C a0 : Value} {vs : List Value}
theorem Kp.raise (I : Inv X pins σ H1 s1) (hx : Heap.MadeExcOf s1.heap h2 a C vs) : Kp X.prog X.w X.stack H1 s1.heap H1 h2 (PySem.W.hideAll s1.heap (frs X.stack)) where
 hok := I.hok.kept hx.keeps
 un := Un.kept hx.keeps
 old := fun b o e _ hb => PySem.W.hideAll_get _ e hb
 has := fun b o e hb => ⟨o, PySem.W.hideAll_get _ e hb⟩
 trk := fun b u e => by
  obtain ⟨o, q⟩ := (I.hok b u e).there
  refine ⟨o, hx.keeps b o q, PySem.W.hideAll_get _ q fun hb => ?_⟩
  rw [I.stkFree b hb] at e; cases e
theorem Kp.slots (I : Inv X pins σ H1 s1) (K : Kp X.prog X.w X.stack H1 s1.heap H2 h2 B) (st : B.StaysIn h3) (sl : h2.UpToSlots h3) : Kp X.prog X.w X.stack H1 s1.heap H2 h3 B := by
 have trk3 : ∀ b u, H2 b = some u -> ∃ o, h3.get? b = some o /\ B.get? b = some o := fun b u e => by
  obtain ⟨o, _, q⟩ := K.trk b u e
  exact ⟨o, st b o q, q⟩
 have fr : ∀ b o, s1.heap.get? b = some o -> H1 b = none -> b ∈ frs X.stack -> ∃ sl, h3.get? b = some { o with slots := sl } := fun b o e n hb => by
  obtain ⟨sl1, e1⟩ := K.un.slot b o e n hb (by simp)
  obtain ⟨_, o', e', d⟩ := I.stack.mem hb
  rw [e] at e'
  cases e'
  obtain ⟨sl2, e2⟩ := sl b _ e1 d
  exact ⟨sl2, e2⟩
 refine ⟨K.hok.via fun b u ob e q => ?_, ⟨fun b o e n hb _ => st b o (K.old b o e n hb), fun b o e n hb _ => fr b o e n hb, K.un.free, fun b o e hx => ?_, K.un.tups, K.un.frzs, K.un.tbls⟩, K.old, K.has, trk3⟩
 ·obtain ⟨o, q1, q2⟩ := K.trk b u e
  rw [q] at q1
  cases q1
  exact st b ob q2
 ·by_cases hb : b ∈ frs X.stack
  ·obtain ⟨sl1, e1⟩ := fr b o e (I.stkFree b hb) hb
   exact ⟨_, e1⟩
  ·obtain ⟨o', e'⟩ := K.has b o e hb
   exact ⟨o', st b o' e'⟩
theorem Kp.leave (I : Inv X pins σ H1 s1) (hex : X.ex = []) (hst : X.stack = X.env :: X.outer) (hf : X.env.frame = some X.env.locals) (K : Kp X.prog X.w X.stack H1 s1.heap H2 h2 B) (st : B.StaysIn h3) (sl : h2.UpToSlots h3) :
  Kp X.prog X.w X.outer X.H₀ X.s₀.heap H2 h3 B := by
 have K3 := K.slots I st sl
 have fe : frs X.stack = X.env.locals :: X.fs := by rw [hst]; exact frs_cons hf
 have nex : ∀ b : Addr, b ∉ X.ex := fun b z => by rw [hex] at z; cases z
 have nin : ∀ b o, X.s₀.heap.get? b = some o -> b ∉ X.fs -> b ∉ frs X.stack := fun b o e hb z => by
  rw [fe] at z
  rcases List.mem_cons.mp z with z | z
  ·have h1 := Heap.lt_size e
   have h2 := I.ok.above
   rw [z] at h1
   exact absurd (Nat.lt_of_lt_of_le h1 h2) (Nat.lt_irrefl _)
  ·exact hb z
 have old : ∀ b o, X.s₀.heap.get? b = some o -> X.H₀ b = none -> b ∉ frs X.outer -> B.get? b = some o := fun b o e n hb =>
  K.old b o (I.base.keep b o e n hb (nex b)) (I.base.free b o e n (nex b)) (nin b o e hb)
 refine ⟨K3.hok, ⟨fun b o e n hb _ => st b o (old b o e n hb), fun b o e n hb _ => ?_, fun b o e n _ => ?_, fun b o e _ => ?_, fun b xs e => K3.un.tups b xs (I.base.tups b xs e), fun b o u e => K3.un.frzs b o u (I.base.frzs b o u e), fun b ps e => ?_⟩, old, fun b o e hb => ?_, K3.trk⟩
 ·obtain ⟨sl1, e1⟩ := I.base.slot b o e n hb (nex b)
  obtain ⟨sl2, e2⟩ := K3.un.slot b _ e1 (I.base.free b o e n (nex b)) (by rw [fe]; exact List.mem_cons_of_mem _ hb) (by simp)
  exact ⟨sl2, e2⟩
 ·obtain ⟨o1, e1⟩ := I.base.there b o e (nex b)
  exact K3.un.free b o1 e1 (I.base.free b o e n (nex b)) (by simp)
 ·obtain ⟨o1, e1⟩ := I.base.there b o e (nex b)
  exact K3.un.there b o1 e1 (by simp)
 ·obtain ⟨m1, e1⟩ := I.base.tbls b ps e
  obtain ⟨m2, e2⟩ := K3.un.tbls b _ e1
  exact ⟨m1 ++ m2, by rw [e2, Array.append_assoc]⟩
 ·obtain ⟨o1, e1⟩ := I.base.there b o e (nex b)
  exact K.has b o1 e1 (nin b o e hb)
end
noncomputable def CXE (P : Program) (w : World) : CXT := fun outer H s E e s' => ∃ (a : Addr) (C : Value) (H' : Hp) (B : Heap) (a0 : Value),
 e = .ref a /\ s'.os = s.os /\ AllBare s'.gens /\ Kp P w outer H s.heap H' s'.heap B /\ Heap.FlyingW B outer a C a0 s'.heap /\ E C none H'
noncomputable def Raises (X : Cx) (E : XK) : Prop := ∀ (C : Value) (pins : List (Addr × Obj)) (σ : St) (H1 : Hp) (s1 : Shared) (h2 : Heap) (a : Addr) (vs : List Value), Inv X pins σ H1 s1 -> Heap.MadeExcOf s1.heap h2 a C vs -> E C none H1 -> X.xe (.ref a) { s1 with heap := h2 }
section
variable {P : Program} {w : World} {K : PySem.W.Frag} {mg : Str -> Option Value} {base : Heap} {N : List Str} {qual : Str} {scope : Scope} {f : Addr} {cd : Value} {A : Around} {outer : List Env} {s : Shared} {H : Hp} {E : XK}
theorem raises_cx : Raises (cxOf (CXE P w) P w K mg base N qual scope f cd A outer s H E) E := by
 intro C pins σ H1 s1 h2 a vs I hx q
 have hl := PySem.W.funFrames_hide (as := frs (cxOf (CXE P w) P w K mg base N qual scope f cd A outer s H E).stack) I.stack fun env he b hb => List.mem_filterMap.mpr ⟨env, he, hb⟩
 refine wpAny_leaves_madeW I.ok.frames rfl (fun b o q => PySem.W.of_hideAll _ q) hl hx fun h3 t fl _ _ sl => ?_
 exact ⟨a, C, H1, _, .ref t, rfl, I.os, I.bare, (Kp.raise I hx).leave I rfl rfl rfl fl.1 sl, fl, q⟩
end
theorem excObj_of {K : PySem.W.Frag} {h : Heap} {C : Addr} {bmB : List Value} {newId : String} (X : K.In h) (q : PySem.W.excIn K C bmB newId = true) :
  ∃ bm N nm qn bs hdct sn sub ab col dd k0 k1 k2 k3 k5 mN, h.get? C = some (excClassObj nm qn C N bs bm hdct sn sub ab col dd k0 k1 k2 k3 k5 newId) /\ h.Ns N mN /\ mN "__init__" = none /\ OwnTail h bmB bm := by
 unfold PySem.W.excIn at q
 split at q
 ·rename_i d1 cd1 sl1 look
  split at q
  ·rename_i C1 bm1 s0 s1 s2 s3 n1 s5 hmro hslots
   simp only [beq_iff_eq, Bool.not_eq_true', Bool.and_eq_true] at q
   obtain ⟨⟨⟨⟨⟨q1, q2⟩, hdel⟩, htl⟩, hns⟩, hini⟩ := q
   subst q1 q2
   obtain ⟨u1, u2, u3, u4, u5, u6, u7, u8, u9, u10, u11⟩ := cd1
   dsimp only at hmro hdel hns hini
   subst hmro hdel
   have es : sl1 = #[s0, s1, s2, s3, some (.builtin n1), s5] := by
    cases sl1 with
    | mk l =>
     have : l = [s0, s1, s2, s3, some (.builtin n1), s5] := hslots
     rw [this]
   subst es
   have at_ := X _ _ look
   refine ⟨bm1, u4, u1, u5, u2, u6, u7, u8, u9, u10, d1, s0, s1, s2, s3, s5, _, at_, .of_isNs (PySem.W.isNs_of_in X hns), ?_, PySem.W.tail_of_in X htl⟩
   exact PySem.W.nsMap_none_of_in X hns hini
  ·cases q
 ·cases q
section
variable {X : Cx} {E : XK} {C : Addr} {B newId initId : String} {bmB : List Value} {x : Str} {np cpos pos : Pos} {e₀ : Expr} {rest : List Expr} {t : TA}
noncomputable def tRaise (C : Addr) (E : XK) (t : TA) : TS := fun _ σ H => t σ H fun vs H1 => vs.length <= sizeLine /\ E (.ref C) none H1
theorem ps_raise (R : Raises X E) (hc : X.calm = true) (hg : Gl X x) (hm : X.mg x = some (.ref C)) (hq : PySem.W.excIn X.K C bmB newId = true) (FB : ExcBaseFacts B newId initId bmB) (ha : PA X (e₀ :: rest) t)
  (he : starEach (e₀ :: rest) X.env = (false, eval e₀ X.env) :: starEach rest X.env := by rfl) (hpl : (backTo cpos (starEach rest X.env)).any (·.1) = false := by rfl) (hd : (x == ("__debug__" : Str)) = false := by decide) :
  PS X (.Raise (some (.Call (.Name x np) (e₀ :: rest) [] cpos)) none pos) (tRaise C E t) := by
 intro pins s σ H D I h
 obtain ⟨tl, N, nm, qn, bs, hdct, sn, sub, ab, col, dd, k0, k1, k2, k3, k5, mN, hC, hN, hni, T⟩ := excObj_of I.mod.kin hq
 refine wpAny_Raise_call_subT (k5 := k5) (k3 := k3) (k2 := k2) (k1 := k1) (k0 := k0) (dd := dd) (col := col) (ab := ab) (sub := sub) (sn := sn) (hdct := hdct) (bm := tl) (bs := bs) (N := N) (q := qn) (nm := nm) (C := C) FB (mN := mN) (T.hasType FB.hasBase) (I.ok.hd hc) ?_ hni (ld_glob I hg hm ⟨rfl, ?_⟩ hd)
 ·rw [he]
  show (false || (backTo cpos (starEach rest X.env)).any (·.1)) = false
  rw [hpl]; rfl
 ·have h1 := ha cpos pins s σ H _ I h
  rw [he] at h1 ⊢
  refine Calls.evalArgs_plain (wpAny_mono h1 (fun us s1 z => ?_) fun _ _ y => y)
  obtain ⟨vs, H1, I1, r, hz, q⟩ := z
  exact ⟨rfl, by rw [<- r.length]; exact hz, I1.bk _ _ hC, hN.keeps I1.bk, T.keeps I1.bk, fun h' a hx => R _ pins σ H1 s1 h' a us I1 hx q⟩
end
end L2
namespace L2
open PySem PySem.Spec PyProof.Rows
section
variable {X : Cx} {pins : List (Addr × Obj)} {σ : St} {H H1 H2 : Hp} {s s1 s2 : Shared} {B : Heap}
end
section
variable {X : Cx} {k j : Nat} {ps : List Str} {sp : Sp} {x : Str} {p pos : Pos} {e : Expr} {es : List Expr} {t : TA}
end
section
variable {X : Cx} {pins : List (Addr × Obj)} {σ : St} {H : Hp} {s : Shared} {a : Addr} {o : HO}
theorem Inv.track (I : Inv X pins σ H s) (hn : H a = none) (hnew : X.s₀.heap.get? a = none) (hL : a ≠ X.env.locals) (hC : ∀ x c, X.env.cells.lookup x = some c -> c ≠ a) (hP : ∀ p ∈ X.pn ++ pins, p.1 ≠ a)
  (ho : ObjOk X.prog X.w (upd H a o) s.heap a o) : Inv X pins σ (upd H a o) s := by
 have ne : ∀ b u, H b = some u -> b ≠ a := fun b u e z => by rw [z, hn] at e; cases e
 refine ⟨I.ok, I.os, I.bare, ⟨I.base.keep, I.base.slot, fun b ob e n hx => ?_, I.base.there, fun b xs e => ?_, fun b ob u e => ?_, fun b ps e => ?_⟩, I.loc, I.cell, ?_, fun x c e => ?_, fun p hp => ?_, fun b u e => ?_, I.len⟩
 ·rw [upd_ne (fun z => by rw [z, hnew] at e; cases e)]
  exact I.base.free b ob e n hx
 ·have q := I.base.tups b xs e
  rw [upd_ne (ne b _ q)]; exact q
 ·have q := I.base.frzs b ob u e
  rw [upd_ne (ne b _ q)]; exact q
 ·obtain ⟨m, q⟩ := I.base.tbls b ps e
  exact ⟨m, by rw [upd_ne (ne b _ q)]; exact q⟩
 ·rw [upd_ne (Ne.symm hL)]; exact I.free
 ·rw [upd_ne (hC x c e)]; exact I.freeC x c e
 ·obtain ⟨e1, e2, e3⟩ := I.pin p hp
  exact ⟨e1, by rw [upd_ne (hP p hp)]; exact e2, e3⟩
 ·by_cases z : b = a
  ·subst z; rw [upd_same] at e; cases e; exact ho
  ·rw [upd_ne z] at e
   exact (I.hok b u e).stay (fun _ _ _ q => q) (fun c q => by rw [upd_ne (ne c _ q)]; exact q) fun c xs q => by rw [upd_ne (ne c _ q)]; exact q
end
section
variable {X : Cx} {x n : Str} {C' : Addr} {i : Nat} {np pos : Pos} {b₀ : Stmt} {suite : List Stmt} {rest : List ExceptHandler} {ts : TS} {tr : Value -> TS}
end
end L2
namespace L2
open PySem PySem.Spec PyProof.Rows PySem.W PySem.Builtin PySem.Builtin.ObjectAttr PySem.Builtin.Getset_descriptor
section
variable {prog : Program} {w : World} {A : Around} {E : Value -> Shared -> Prop}
structure ExcK (K : Frag) (C : Addr) : Prop where
 ga : findIn K (.ref C) "__getattribute__" = some (some (.builtin "BaseException.__getattribute__"))
 g2 : findIn K (.ref C) "__getattr__" = some none
 cl : findIn K (.ref C) "__class__" = some (some (.builtin "object.__class__"))
 mB : mroIn K C (.type "BaseException") = some true
 mO : mroIn K C (.type "object") = some true
end
section
variable {X : Cx}
end
end L2
namespace L2
open PySem PySem.Spec PyProof.Rows
noncomputable def closOf (cells : List (Str × Addr)) : List (Str × NameKind) -> List (Str × Addr) -> List (Str × Addr)
 | [], cs => cs
 | x :: r, cs => closOf cells r (if x.2 == .free then (match cells.lookup x.1 with | some a => (x.1, a) :: cs | none => cs) else cs)
theorem closureFor_eq {scope : Scope} {env : Env} (h : ∀ x ∈ scope.names, x.2 = .free -> ∃ a, env.cells.lookup x.1 = some a) : closureFor scope env = pure (closOf env.cells scope.names []) := by
 have aux : ∀ (names : List (Str × NameKind)) (cs : List (Str × Addr)), (∀ x ∈ names, x.2 = .free -> ∃ a, env.cells.lookup x.1 = some a) ->
   (forIn (m := Sem) names cs fun x r => do
    if (x.2 == NameKind.free) = true then do
     let a <- cellOf env x.1
     pure (ForInStep.yield ((x.1, a) :: r))
    else pure (ForInStep.yield r)) = pure (closOf env.cells names cs) := by
  intro names
  induction names with
  | nil => intro cs _; rfl
  | cons x r ih =>
   intro cs hx
   rw [List.forIn_cons]
   cases hk : (x.2 == NameKind.free) with
   | false =>
    simp only [Bool.false_eq_true, if_false, pure_bind]
    rw [ih cs fun y hy => hx y (List.mem_cons_of_mem _ hy)]
    show _ = pure (closOf env.cells r (if x.2 == .free then _ else cs))
    rw [hk]; rfl
   | true =>
    obtain ⟨a, ha⟩ := hx x List.mem_cons_self (by simpa using hk)
    have e : cellOf env x.1 = pure a := by unfold cellOf; rw [ha]
    simp only [if_true, e, pure_bind]
    rw [ih _ fun y hy => hx y (List.mem_cons_of_mem _ hy)]
    show _ = pure (closOf env.cells r (if x.2 == .free then (match env.cells.lookup x.1 with | some a => (x.1, a) :: cs | none => cs) else cs))
    rw [hk, ha]; rfl
 have h1 := aux scope.names [] h
 unfold closureFor
 simp only [bind_pure]
 exact h1
theorem closOf_sub {cells : List (Str × Addr)} : ∀ {names : List (Str × NameKind)} {cs : List (Str × Addr)}, (∀ p ∈ cs, cells.lookup p.1 = some p.2) -> ∀ p ∈ closOf cells names cs, cells.lookup p.1 = some p.2
 | [], _, h => h
 | x :: r, cs, h => closOf_sub (names := r) fun p hp => by
  split at hp
  ·split at hp
   ·rename_i a ha
    rcases List.mem_cons.mp hp with rfl | hp
    ·exact ha
    ·exact h p hp
   ·exact h p hp
  ·exact h p hp
theorem closOf_mono {cells : List (Str × Addr)} : ∀ {names : List (Str × NameKind)} {cs : List (Str × Addr)} {p : Str × Addr}, p ∈ cs -> p ∈ closOf cells names cs
 | [], _, _, h => h
 | x :: r, cs, p, h => closOf_mono (names := r) (by
  split
  ·split
   ·exact List.mem_cons_of_mem _ h
   ·exact h
  ·exact h)
theorem closOf_has {cells : List (Str × Addr)} {x : Str} {a : Addr} (ha : cells.lookup x = some a) : ∀ {names : List (Str × NameKind)} {cs : List (Str × Addr)}, (x, NameKind.free) ∈ names -> (x, a) ∈ closOf cells names cs
 | y :: r, cs, h => by
  rcases List.mem_cons.mp h with rfl | h
  ·refine closOf_mono (names := r) ?_
   simp [ha]
  ·exact closOf_has ha (names := r) h
theorem lookup_mem {α : Type} {x : Str} {v : α} : ∀ {l : List (Str × α)}, l.lookup x = some v -> (x, v) ∈ l
 | [], h => by simp at h
 | (y, u) :: r, h => by
  rw [List.lookup_cons] at h
  cases e : x == y with
  | true => rw [e] at h; cases h; rw [beq_iff_eq.mp e]; exact List.mem_cons_self
  | false => rw [e] at h; exact List.mem_cons_of_mem _ (lookup_mem h)
theorem mem_lookup {α : Type} {x : Str} {v : α} : ∀ {l : List (Str × α)}, (x, v) ∈ l -> ∃ u, l.lookup x = some u
 | (y, u) :: r, h => by
  rw [List.lookup_cons]
  cases e : x == y with
  | true => exact ⟨u, rfl⟩
  | false =>
   rcases List.mem_cons.mp h with z | z
   ·cases z; simp at e
   ·exact mem_lookup z
noncomputable def compOk (osc scope : Scope) (N Tn Fn : List Str) (js : List Nat) : Bool :=
 (scope.kind == .function) && (osc.kind == .function) && (scope.names.all fun y => match y.2 with
  | .cell => false
  | .local => scope.names.lookup y.1 == some .local
  | .free => osc.names.lookup y.1 == some .cell && scope.names.lookup y.1 == some .free
  | _ => true) && (js.map (fun j => N[j]?) == Fn.map some) && (Fn.all fun x => scope.names.lookup x == some .free) && (Tn.all fun x => scope.names.lookup x == some .local) && decide (Tn ++ Fn).Nodup
structure CompScope (osc scope : Scope) (N Tn Fn : List Str) (js : List Nat) : Prop where
 kind : scope.kind = .function
 okind : osc.kind = .function
 nocell : ∀ y ∈ scope.names, y.2 ≠ .cell
 loc : ∀ y ∈ scope.names, y.2 = .local -> scope.names.lookup y.1 = some .local
 fre : ∀ y ∈ scope.names, y.2 = .free -> osc.names.lookup y.1 = some .cell
 idx : js.map (fun j => N[j]?) = Fn.map some
 fn : ∀ x ∈ Fn, scope.names.lookup x = some .free
 tn : ∀ x ∈ Tn, scope.names.lookup x = some .local
 nd : (Tn ++ Fn).Nodup
theorem CompScope.of {osc scope : Scope} {N Tn Fn : List Str} {js : List Nat} (h : compOk osc scope N Tn Fn js = true) : CompScope osc scope N Tn Fn js := by
 unfold compOk at h
 simp only [Bool.and_eq_true, beq_iff_eq, decide_eq_true_eq, List.all_eq_true] at h
 obtain ⟨⟨⟨⟨⟨⟨h1, h1'⟩, h2⟩, h3⟩, h4⟩, h5⟩, h6⟩ := h
 refine ⟨h1, h1', fun y hy e => ?_, fun y hy e => ?_, fun y hy e => ?_, h3, h4, h5, h6⟩
 ·have := h2 y hy; rw [e] at this; cases this
 ·have := h2 y hy; rw [e] at this; simpa using this
 ·have := h2 y hy; rw [e] at this; simp only [Bool.and_eq_true, beq_iff_eq] at this; exact this.1
noncomputable def cxIn (X : Cx) (N : List Str) (scope : Scope) (cl : List (Str × Addr)) (C : Addr) (s : Shared) (H : Hp) (fp : List Addr) : Cx :=
 { X with N := N, s₀ := s, H₀ := H, env := compEnvC scope cl C X.env, outer := X.stack, ex := fp, fn := fun _ => false, pn := [], xe := fun _ _ => False }
noncomputable def innS (k : Nat) (js : List Nat) (σ : St) : St := List.replicate k none ++ js.map fun j => (σ[j]?).join
theorem lookup_relabel {env : Env} (hk : env.scope.kind = .function) : ∀ {names : List (Str × NameKind)} {x : Str} {k : NameKind}, (∀ y ∈ names, y.2 = .free -> env.kindOf y.1 = some .cell) -> names.lookup x = some k ->
  (names.map fun (n, k) => if (k == NameKind.free && env.scope.kind == .function && env.kindOf n == some .cell) then (n, NameKind.cell) else (n, k)).lookup x = some (if k = .free then .cell else k)
 | [], _, _, _, h => by simp at h
 | (n, k') :: r, x, k, hf, h => by
  have ih := @lookup_relabel env hk r x k fun y hy => hf y (List.mem_cons_of_mem _ hy)
  have h0 := hf (n, k') List.mem_cons_self
  rw [List.map_cons]
  show List.lookup x ((if (k' == NameKind.free && env.scope.kind == .function && env.kindOf n == some .cell) = true then (n, NameKind.cell) else (n, k')) :: _) = _
  rw [List.lookup_cons] at h
  by_cases hk' : k' = .free
  ·subst hk'
   have e : (NameKind.free == NameKind.free && env.scope.kind == .function && env.kindOf n == some .cell) = true := by rw [h0 rfl, hk]; decide
   rw [if_pos e, List.lookup_cons]
   cases hx : x == n with
   | true => rw [hx] at h; cases h; rfl
   | false => rw [hx] at h; exact ih h
  ·have e : ¬ (k' == NameKind.free && env.scope.kind == .function && env.kindOf n == some .cell) = true := by
    intro z; simp only [Bool.and_eq_true, beq_iff_eq] at z; exact hk' z.1.1
   rw [if_neg e, List.lookup_cons]
   cases hx : x == n with
   | true => rw [hx] at h; cases h; simp [hk']
   | false => rw [hx] at h; exact ih h
theorem relabel_of {env : Env} : ∀ {names : List (Str × NameKind)} {x : Str} {k : NameKind}, (names.map fun (n, k) => if (k == NameKind.free && env.scope.kind == .function && env.kindOf n == some .cell) then (n, NameKind.cell) else (n, k)).lookup x = some k ->
  ∃ k', (x, k') ∈ names /\ (k' = k \/ (k' = .free /\ k = .cell))
 | [], _, _, h => by simp at h
 | (n, k') :: r, x, k, h => by
  have ih := @relabel_of env r x k
  rw [List.map_cons] at h
  have h : List.lookup x ((if (k' == NameKind.free && env.scope.kind == .function && env.kindOf n == some .cell) = true then (n, NameKind.cell) else (n, k')) :: _) = some k := h
  by_cases e : (k' == NameKind.free && env.scope.kind == .function && env.kindOf n == some .cell) = true
  ·rw [if_pos e, List.lookup_cons] at h
   cases hx : x == n with
   | true =>
    rw [hx] at h; cases h
    simp only [Bool.and_eq_true, beq_iff_eq] at e
    refine ⟨.free, ?_, .inr ⟨rfl, rfl⟩⟩
    rw [beq_iff_eq.mp hx, <- e.1.1]; exact List.mem_cons_self
   | false => rw [hx] at h; obtain ⟨q, m, z⟩ := ih h; exact ⟨q, List.mem_cons_of_mem _ m, z⟩
  ·rw [if_neg e, List.lookup_cons] at h
   cases hx : x == n with
   | true => rw [hx] at h; cases h; refine ⟨k', ?_, .inl rfl⟩; rw [beq_iff_eq.mp hx]; exact List.mem_cons_self
   | false => rw [hx] at h; obtain ⟨q, m, z⟩ := ih h; exact ⟨q, List.mem_cons_of_mem _ m, z⟩
section
variable {X : Cx} {pins : List (Addr × Obj)} {σ : St} {H : Hp} {s : Shared} {scope : Scope} {Tn Fn : List Str} {js : List Nat} {fp : List Addr}
theorem inv_in {C : Addr} {h1 : Heap} {tk : Nat} {mC : Str -> Option Value} (cs : CompScope X.env.scope scope X.N Tn Fn js) (I : Inv X pins σ H s) (hC : C = s.heap.objs.size) (hn : h1.Ns C mC) (k1 : ∀ b o, s.heap.get? b = some o -> h1.get? b = some o)
  (hf : ∀ b ∈ fp, FpOk X pins H b) (ho : ∀ b ∈ fp, ∃ o, s.heap.get? b = some o) :
  Inv (cxIn X (Tn ++ Fn) scope (closOf X.env.cells scope.names []) C s H fp) (X.pn ++ pins) (innS Tn.length js σ) H { s with heap := h1, toks := tk } := by
 have hcl : ∀ x c, (closOf X.env.cells scope.names []).lookup x = some c -> X.env.cells.lookup x = some c := fun x c e => closOf_sub (names := scope.names) (cs := []) (fun _ z => nomatch z) _ (lookup_mem e)
 have hlen : (js.map fun j => X.N[j]?).length = (Fn.map some).length := congrArg List.length cs.idx
 rw [List.length_map, List.length_map] at hlen
 have hfr : ∀ y ∈ scope.names, y.2 = .free -> X.env.kindOf y.1 = some .cell := cs.fre
 subst hC
 refine ⟨⟨I.ok.mod, cs.kind, I.ok.glob, I.ok.blt, Nat.le_refl _, fun x y c e1 e2 => I.ok.inj x y c (hcl x c e1) (hcl y c e2), fun x hx => ?_, fun x c z => absurd z Bool.false_ne_true, I.ok.hd, I.ok.frames, .inl rfl, fun b hb => ⟨?_, fun x c e => (hf b hb).2.2.2.2.1 x c (hcl x c e)⟩, I.bs,
  Nat.le_trans I.ok.bsz I.sz, fun b o e hb => ?_, fun b hb z => ?_, I.stack, I.stkFree⟩, rfl, I.bare, Un.kept k1, ⟨mC, hn, fun i x v e1 e2 e3 => ?_⟩, fun x c e => ?_, I.fresh, fun x c e => I.freeC x c (hcl x c e), fun p hp => ?_, I.hok.kept k1, ?_⟩
 ·-- has
  have hx : (relabel scope X.env).names.lookup x = some .cell \/ (relabel scope X.env).names.lookup x = some .free := hx
  have key : (x, NameKind.free) ∈ scope.names := by
   rcases hx with hx | hx
   ·obtain ⟨k', m, z⟩ := relabel_of hx
    rcases z with z | ⟨z, _⟩
    ·subst z; exact absurd rfl (cs.nocell _ m)
    ·subst z; exact m
   ·obtain ⟨k', m, z⟩ := relabel_of hx
    rcases z with z | ⟨_, z⟩
    ·subst z; exact m
    ·cases z
  obtain ⟨a, ha⟩ := I.ok.has x (.inl (hfr _ key rfl))
  exact mem_lookup (closOf_has ha key)
 ·obtain ⟨o, e⟩ := ho b hb
  exact Nat.ne_of_lt (Heap.lt_size e)
 ·rcases (hf b hb).2.2.2.1 with z | z
  ·exact I.ok.noex b o e z
  ·exact absurd (Nat.lt_of_lt_of_le (Heap.lt_size (I.ok.bs b o e).1) z) (Nat.lt_irrefl _)
 ·rcases List.mem_cons.mp (I.stkSub b z) with q | q
  ·exact (hf b hb).2.1 q
  ·exact (hf b hb).2.2.1 q
 ·-- names
  have e1 : (Tn ++ Fn)[i]? = some x := e1
  have e2 : (List.replicate Tn.length none ++ js.map fun j => (σ[j]?).join)[i]? = some (some v) := e2
  by_cases hi : i < Tn.length
  ·rw [List.getElem?_append_left (by simpa using hi), List.getElem?_replicate] at e2
   split at e2 <;> cases e2
  ·rw [List.getElem?_append_right (by simpa using hi)] at e2
   rw [List.getElem?_append_right (by simpa using hi)] at e1
   rw [List.length_replicate, List.getElem?_map] at e2
   cases ej : js[i - Tn.length]? with
   | none => rw [ej] at e2; cases e2
   | some j =>
    rw [ej] at e2
    have e2 : (σ[j]?).join = some v := by simpa using e2
    have e2' : σ[j]? = some (some v) := by
     cases q : σ[j]? with
     | none => rw [q] at e2; cases e2
     | some o => rw [q] at e2; cases o with
      | none => cases e2
      | some v' => cases e2; rfl
    have ej' : X.N[j]? = some x := by
     have h0 : (js.map fun j => X.N[j]?)[i - Tn.length]? = (Fn.map some)[i - Tn.length]? := by rw [cs.idx]
     rw [List.getElem?_map, ej, List.getElem?_map, e1] at h0
     simpa using h0
    have hx : scope.names.lookup x = some .free := cs.fn x (List.mem_of_getElem? e1)
    have hox : X.env.kindOf x = some .cell := hfr _ (lookup_mem hx) rfl
    obtain ⟨m, hm, hl⟩ := I.loc
    obtain ⟨u, r, l⟩ := hl j x v ej' e2' (.inr (.inl hox))
    refine ⟨u, r, .inr ⟨.inl ?_, ?_⟩⟩
    ·show (relabel scope X.env).names.lookup x = some .cell
     have z := lookup_relabel (env := X.env) cs.okind (names := scope.names) hfr hx
     rw [if_pos rfl] at z
     exact z
    ·rcases l with ⟨k, _⟩ | ⟨_, c, ec, z⟩
     ·rw [hox] at k; cases k
     ·obtain ⟨c', e'⟩ := mem_lookup (closOf_has (cs := []) ec (lookup_mem hx))
      have : c' = c := Option.some.inj ((hcl x c' e').symm.trans ec)
      subst this
      obtain ⟨o, q1, q2⟩ := z
      exact ⟨c', e', o, k1 _ _ q1, q2⟩
 ·obtain ⟨v, o, q1, q2⟩ := I.cell x c (hcl x c e)
  exact ⟨v, o, k1 _ _ q1, q2⟩
 ·have hp : p ∈ ([] : List (Addr × Obj)) ++ (X.pn ++ pins) := hp
  rw [List.nil_append] at hp
  obtain ⟨e, n, ne, nf, d⟩ := I.pin p hp
  refine ⟨k1 _ _ e, n, Nat.ne_of_lt (Heap.lt_size e), fun z => ?_, d⟩
  rcases List.mem_cons.mp (I.stkSub p.1 z) with q | q
  ·exact ne q
  ·exact nf q
 ·show (List.replicate Tn.length none ++ js.map fun j => (σ[j]?).join).length = (Tn ++ Fn).length
  rw [List.length_append, List.length_append, List.length_replicate, List.length_map, hlen]
structure CFree (X : Cx) (pins : List (Addr × Obj)) (C : Addr) : Prop where
 nl : C ≠ X.env.locals
 yg : X.s₀.heap.objs.size <= C
 nc : ∀ x c, X.env.cells.lookup x = some c -> c ≠ C
 np : ∀ p ∈ X.pn ++ pins, p.1 ≠ C
theorem Inv.letgo {C : Addr} {h2 : Heap} (I : Inv X pins σ H s) (hn : H C = none) (c : CFree X pins C) (sb : Heap.SameBut C s.heap h2) : Inv X pins σ H { s with heap := h2 } :=
 I.turned (t' := s.toks) (it := C) (fun b o hb e => (sb.2 b hb).trans e) hn c.nl (.inr c.yg) c.nc c.np
theorem Inv.cfree {C : Addr} (I : Inv X pins σ H s) (hC : C = s.heap.objs.size) : CFree X pins C := by
 refine ⟨by rw [hC]; exact Nat.ne_of_gt I.lt, by rw [hC]; exact I.sz, fun x c e z => ?_, fun p hp z => ?_⟩
 ·obtain ⟨v, q⟩ := I.cell x c e
  have := q.lt
  rw [z, hC] at this; exact absurd this (Nat.lt_irrefl _)
 ·have := Heap.lt_size (I.pin p hp).1
  rw [z, hC] at this; exact absurd this (Nat.lt_irrefl _)
theorem inv_out {C : Addr} {cl : List (Str × Addr)} {N : List Str} {σ' : St} {H' : Hp} {pins' : List (Addr × Obj)} {s' : Shared} (I : Inv X pins σ H s) (hf : ∀ b ∈ fp, FpOk X pins H b) (J : Inv (cxIn X N scope cl C s H fp) pins' σ' H' s') : Inv X pins σ H' s' :=
 I.call' (ch := fp) J.os J.base J.hok J.bare fun b hb => ⟨(hf b hb).2.2.2.1, (hf b hb).2.1, (hf b hb).2.2.2.2.1, (hf b hb).2.2.2.2.2⟩
end
section
variable {prog : Program} {w : World} {A : Around} {s : Shared}
theorem compLoop_go {elt target iter : Expr} {ifs : List Expr} {scope : Scope} {pos : Pos} {it acc : Value} {env : Env} {R : Result -> Shared -> Prop} (I : Nat -> Shared -> Prop)
  (turn : ∀ n s, I n s -> wpAny (model prog w) A (pyNext it) (fun r s₁ => match r with
   | none => R (.ok .next) s₁
   | some v => wpAny (model prog w) A (letOwnedTupleGo target it v) (fun _ s₀ => wpAny (model prog w) A (assign target env v) (fun _ s₂ =>
     wpAny (model prog w) A (forIn ifs true fun c r => if r = true then do let ok <- isTrue c env (eval c env); pure (ForInStep.yield ok) else pure (ForInStep.yield r)) (fun ok s₃ =>
      if ok = true then wpAny (model prog w) A (eval elt env) (fun x s₄ =>
       wpAny (model prog w) A (call (.builtin "list.append") [acc, x]) (fun _ s₅ => ∃ m, m < n /\ I m s₅) (fun _ _ => False) s₄) (fun _ _ => False) s₃
      else ∃ m, m < n /\ I m s₃) (fun _ _ => False) s₂) (fun _ _ => False) s₀) (fun _ _ => False) s₁) (fun _ _ => False) s)
  (n : Nat) (h : I n s) : codeAny (model prog w) A (.compLoop (.ListComp elt [⟨target, iter, ifs, 0⟩] scope pos) 0 it acc env) R s := by
 refine codeAny_loop rfl I (fun n s hI => ?_) n h
 show wpAny _ A ((compTurn (.ListComp elt [⟨target, iter, ifs, 0⟩] scope pos) 0 it acc env).onRaise (fun x => do noteFrame x env; theTreesLotGoes x)) _ _ s
 refine wpAny_noted ?_
 rw [compTurn_list]
 refine wpAny_bind (wpAny_standAt (wpAny_bind (wpAny_mono (turn n s hI) (fun r s₁ h₁ => ?_) fun _ _ h' => h'.elim)))
 cases r with
 | none => exact wpAny_pure h₁
 | some v =>
  refine wpAny_bind (wpAny_mono h₁ (fun _ s₀ h₀' => ?_) fun _ _ h' => h'.elim)
  refine wpAny_bind (wpAny_mono h₀' (fun _ s₂ h₂ => wpAny_bind (wpAny_mono h₂ (fun ok s₃ h₃ => ?_) fun _ _ h' => h'.elim)) fun _ _ h' => h'.elim)
  cases ok with
  | false => exact wpAny_pure ⟨rfl, h₃⟩
  | true =>
   exact wpAny_bind (wpAny_bind (wpAny_mono h₃ (fun x s₄ h₄ => wpAny_bind (wpAny_mono h₄ (fun _ s₅ h₅ => wpAny_pure (wpAny_pure ⟨rfl, h₅⟩)) fun _ _ h' => h'.elim)) fun _ _ h' => h'.elim))
end
noncomputable def PIfs (X : Cx) (ifs : List Expr) (t : TT) : Prop :=
 ∀ (pins : List (Addr × Obj)) (s : Shared) (σ : St) (H : Hp) (Q : Bool -> Hp -> Prop), Inv X pins σ H s -> t σ H Q ->
  wpAny (model X.prog X.w) X.A (forIn ifs true fun c r => if r = true then do let ok <- isTrue c X.env (eval c X.env); pure (ForInStep.yield ok) else pure (ForInStep.yield r)) (TP X pins σ Q) X.xe s
noncomputable abbrev tTrue : TT := fun _ H Q => Q true H
theorem pif_none {X : Cx} : PIfs X [] tTrue := fun _ _ _ H _ I h => wpAny_tests_nil ⟨H, I, h⟩
theorem pif_one {X : Cx} {c : Expr} {t : TT} (h : PT X c t) : PIfs X [c] t := fun pins s σ H Q I hq => wpAny_tests_one (h pins s σ H Q I hq)
noncomputable def tBlock (J : It) (g : TG) (tc : TT) (te : TE) (D : Addr) (Z : Hp -> Prop) (σ : St) (H : Hp) : Prop :=
 ∃ W : Nat -> Nat -> St -> Hp -> Prop, (∃ m, W 0 m σ H) /\ ∀ i m σ H, W i m σ H ->
  (J.stop i H /\ Z H) \/ (J.go i H /\ ∃ N : St -> Hp -> Prop, (∀ σ' H', N σ' H' -> ∃ m', m' < m /\ W (i + 1) m' σ' H') /\
   ∀ x H', J.yld i H x H' -> g x σ H' fun σ2 H2 => tc σ2 H2 fun b H3 => if b = true then te σ2 H3 fun y H4 => ∃ ys, H4 D = some (.lst ys) /\ ys.length < sizeLine /\ N σ2 (upd H4 D (.lst (ys ++ [y]))) else N σ2 H3)
section
variable {X : Cx} {scope : Scope} {Tn Fn : List Str} {js : List Nat} {tg iter elt : Expr} {ifs : List Expr} {wi : TI} {g : TG} {tc : TT} {te : TE} {pos : Pos}
theorem block_run {pins : List (Addr × Obj)} {σ : St} {H2 : Hp} {s2 : Shared} {it : Addr} {fp : List Addr} {tn : Nat -> Heap -> Prop} {J : It} {Z : Addr -> Hp -> Prop} {RR : Value -> Addr -> Result -> Shared -> Prop} {E : Value -> Shared -> Prop} (hc : X.calm = true)
  (cs : CompScope X.env.scope scope X.N Tn Fn js)
  (hg : ∀ C s H fp, PG (cxIn X (Tn ++ Fn) scope (closOf X.env.cells scope.names []) C s H fp) tg g) (ht : ∀ C s H fp, PIfs (cxIn X (Tn ++ Fn) scope (closOf X.env.cells scope.names []) C s H fp) ifs tc)
  (he : ∀ C s H fp, PE (cxIn X (Tn ++ Fn) scope (closOf X.env.cells scope.names []) C s H fp) elt te)
  (I2 : Inv X pins σ H2 s2) (T : Turn X.prog X.w X.K tg J fp it tn) (st2 : tn 0 s2.heap) (f2 : ∀ b ∈ fp, FpOk X pins H2 b)
  (hb : ∀ D, H2 D = none -> tBlock J g tc te D (Z D) (innS Tn.length js σ) (upd H2 D (.lst [])))
  (fin : ∀ D C s' H' m, s'.heap.Ns C m -> Inv X pins σ H' s' -> H' C = none -> CFree X pins C -> Z D H' -> RR (.ref D) C (.ok .next) s') :
  wpAny (model X.prog X.w) X.A (newList []) (fun acc s₃ => wpAny (model X.prog X.w) X.A (newFunctionEnv scope X.env.globals (closOf X.env.cells scope.names []) [] X.env.qual none .none (some X.env)) (fun cenv s₄ =>
   codeAny (model X.prog X.w) X.A (.compStart (.ListComp elt [⟨tg, iter, ifs, 0⟩] scope pos) 0 (.ref it) acc { cenv with scope := relabel scope X.env }) (RR acc cenv.locals) s₄) E s₃) E s2 := by
 refine wpAny_newObj_type (wpAny_newFunctionEnv cs.nocell (by intro y hy; simp at hy) (fun h₁ hns₁ hsb₁ => ?_) cs.kind)
 dsimp only at hns₁ hsb₁ ⊢
 have I3 := I2.lnew (its := []) (ys := []) (t' := s2.toks) .nil (Nat.zero_le _)
 have fD : H2 s2.heap.objs.size = none := I2.fresh
 obtain ⟨W, ⟨m0, w0⟩, turn⟩ := hb _ fD
 generalize hH2 : s2.heap.push { cls := .type "list", dict := none, data := .seq ([] : List Value).toArray } = g2 at hns₁ hsb₁ I3 ⊢
 have up2 : ∀ b o, s2.heap.get? b = some o -> g2.get? b = some o := fun b o e => hH2 ▸ Heap.get?_push_of_some _ e
 generalize hD : s2.heap.objs.size = D at *
 have up3 : ∀ b o, g2.get? b = some o -> h₁.get? b = some o := fun b o e => hsb₁.extBut b o (Nat.ne_of_lt (Heap.lt_size e)) (Heap.get?_push_of_some _ e)
 have hob : ∀ b ∈ fp, ∃ o, s2.heap.get? b = some o := fun b hb => let ⟨o, e, _⟩ := T.obj 0 _ st2 b hb; ⟨o, e⟩
 have neD : ∀ b ∈ fp, b ≠ D := fun b hb => by
  obtain ⟨o, e⟩ := hob b hb
  rw [<- hD]; exact Nat.ne_of_lt (Heap.lt_size e)
 have f3 : ∀ b ∈ fp, FpOk X pins (upd H2 D (.lst [])) b := fun b hb => ⟨by rw [upd_ne (neD b hb)]; exact (f2 b hb).1, (f2 b hb).2⟩
 have J0 := inv_in (fp := fp) (tk := s2.toks + ([] : List (Str × Value)).length) cs I3 rfl hns₁ up3 f3 fun b hb => let ⟨o, e⟩ := hob b hb; ⟨o, up2 b o e⟩
 have tn0 : tn 0 h₁ := T.keep _ _ _ st2 fun b hb o e => up3 b o (up2 b o e)
 have cf : CFree X pins g2.objs.size := I3.cfree rfl
 generalize hX' : cxIn X (Tn ++ Fn) scope (closOf X.env.cells scope.names []) g2.objs.size { s2 with heap := g2, toks := s2.toks } (upd H2 D (.lst [])) fp = X' at J0
 have eP : X'.prog = X.prog := by rw [<- hX']; rfl
 have ew : X'.w = X.w := by rw [<- hX']; rfl
 have eK : X'.K = X.K := by rw [<- hX']; rfl
 have eA : X'.A = X.A := by rw [<- hX']; rfl
 have ec : X'.calm = true := by rw [<- hX']; exact hc
 have ee : X'.env = compEnvC scope (closOf X.env.cells scope.names []) g2.objs.size X.env := by rw [<- hX']; rfl
 have ex : X'.xe = fun _ _ => False := by rw [<- hX']; rfl
 have Hg : PG X' tg g := by rw [<- hX']; exact hg _ _ _ _
 have Ht : PIfs X' ifs tc := by rw [<- hX']; exact ht _ _ _ _
 have He : PE X' elt te := by rw [<- hX']; exact he _ _ _ _
 have out : ∀ {pins' σ' H' s'}, Inv X' pins' σ' H' s' -> Inv X pins σ H' s' := by
  intro pins' σ' H' s' J
  rw [<- hX'] at J
  exact inv_out I3 f3 J
 have fsX : ∀ b ∈ fp, b ∉ X'.fs := by
  intro b hb z
  rw [<- hX'] at z
  rcases List.mem_cons.mp (I3.stkSub b z) with q | q
  ·exact (f3 b hb).2.1 q
  ·exact (f3 b hb).2.2.1 q
 have stat : ∀ {H' : Hp}, (∀ b ∈ fp, H' b = none) -> ∀ b ∈ fp, FpOk X' (X.pn ++ pins) H' b := fun {H'} hn b hb => by
  refine ⟨hn b hb, ?_, fsX b hb, .inl (by rw [<- hX']; exact hb), ?_, ?_⟩
  ·rw [ee]
   obtain ⟨o, e⟩ := hob b hb
   exact Nat.ne_of_lt (Heap.lt_size (up2 b o e))
  ·intro x c e
   rw [ee] at e
   exact (f3 b hb).2.2.2.2.1 x c (closOf_sub (names := scope.names) (cs := []) (fun _ z => nomatch z) _ (lookup_mem e))
  ·intro p hp
   have hp : p ∈ X.pn ++ pins := by rw [<- hX'] at hp; simpa [cxIn] using hp
   exact (f3 b hb).2.2.2.2.2 p hp
 have loop : ∀ s4 : Shared, s4 = { s2 with heap := h₁, toks := s2.toks + ([] : List (Str × Value)).length } ->
   codeAny (model X.prog X.w) X.A (.compLoop (.ListComp elt [⟨tg, iter, ifs, 0⟩] scope pos) 0 (.ref it) (.ref D) (compEnvC scope (closOf X.env.cells scope.names []) g2.objs.size X.env)) (RR (.ref D) g2.objs.size) s4 := by
  rintro s4 rfl
  refine compLoop_go (fun n s' => ∃ i σ' H', Inv X' (X.pn ++ pins) σ' H' s' /\ tn i s'.heap /\ (∀ b ∈ fp, H' b = none) /\ W i n σ' H') ?_ m0 ⟨0, _, _, J0, tn0, fun b hb => (f3 b hb).1, w0⟩
  rintro n s5 ⟨i, σ5, H5, I5, st5, fr5, w5⟩
  rw [<- ee, <- eA, <- eP, <- ew, <- ex]
  rcases turn i n σ5 H5 w5 with ⟨stop, qz⟩ | ⟨go, N, hN, step⟩
  ·have td := T.done X' eP ew eK ec i (X.pn ++ pins) s5 σ5 H5 X'.xe I5 (stat fr5) st5 stop
   rw [<- eP, <- ew] at td
   refine thn td fun r s6 ⟨hr, I6⟩ => ?_
   subst hr
   obtain ⟨m, hm, _⟩ := id I6.loc
   rw [ee] at hm
   have hfr := I6.free
   rw [ee] at hfr
   exact fin D _ s6 H5 m hm (out I6) hfr cf qz
  ·have ti := T.item X' eP ew eK ec i (X.pn ++ pins) s5 σ5 H5 X'.xe I5 (stat fr5) st5 go
   rw [<- eP, <- ew] at ti
   refine thn ti fun r s6 ⟨u, hr, h6⟩ => ?_
   subst hr
   refine thn h6 fun _ s7 ⟨x, H7, I7, r7, y7, st7, fr7⟩ => ?_
   have I7' := I7.pinned (stat fr7) (T.obj _ _ st7)
   refine thn (Hg _ s7 σ5 H7 x u _ I7' r7 (step x H7 y7)) fun _ s8 ⟨σ8, H8, I8, q8⟩ => ?_
   refine thn (Ht _ s8 σ8 H8 _ I8 q8) fun ok s9 ⟨H9, I9, q9⟩ => ?_
   have again : ∀ {σa : St} {Ha : Hp} {sa : Shared}, Inv X' ((X.pn ++ pins) ++ pinsAt fp s7.heap) σa Ha sa -> N σa Ha -> ∃ m, m < n /\ ∃ i σ' H', Inv X' (X.pn ++ pins) σ' H' sa /\ tn i sa.heap /\ (∀ b ∈ fp, H' b = none) /\ W i m σ' H' := fun {σa Ha sa} Ia na => by
    obtain ⟨m', hm, wa⟩ := hN σa Ha na
    refine ⟨m', hm, i + 1, σa, Ha, Ia.unpinned, T.keep _ _ _ st7 fun b hb o e => (Ia.pin (b, o) (List.mem_append_right _ (List.mem_append_right _ (mem_pinsAt hb e)))).1, fun b hb => ?_, wa⟩
    obtain ⟨o, e, d⟩ := T.obj _ _ st7 b hb
    exact (Ia.pin (b, o) (List.mem_append_right _ (List.mem_append_right _ (mem_pinsAt hb e)))).2.1
   cases ok with
   | false => exact again I9 q9
   | true =>
    refine thn (He _ s9 σ8 H9 _ I9 q9) fun y s10 ⟨yv, H10, I10, r10, ys, e10, l10, n10⟩ => ?_
    exact thn (mt_append (X := X') _ s10 σ8 H10 (.ref D) [yv] (.ref D) [y] (fun _ H' => N σ8 H') I10 rfl (.cons r10 .nil) ⟨D, ys, yv, rfl, rfl, e10, l10, n10⟩) fun _ s11 ⟨_, H11, I11, _, n11⟩ => again I11 n11
 exact codeAny_compStart_list (loop _ rfl) (T.self _ 0 _ _ _ tn0 (loop _ rfl))
noncomputable def tComp (wi : TI) (g : TG) (tc : TT) (te : TE) (k : Nat) (js : List Nat) : TE := fun σ H Q => wi σ H fun J H1 => ∀ D, H1 D = none -> tBlock J g tc te D (Q (.ref D)) (innS k js σ) (upd H1 D (.lst []))
theorem pe_comp (Tn Fn : List Str) (js : List Nat) (hc : X.calm = true) (h : compOk X.env.scope scope X.N Tn Fn js = true) (hi : PI X tg iter wi)
  (hg : ∀ C s H fp, PG (cxIn X (Tn ++ Fn) scope (closOf X.env.cells scope.names []) C s H fp) tg g) (ht : ∀ C s H fp, PIfs (cxIn X (Tn ++ Fn) scope (closOf X.env.cells scope.names []) C s H fp) ifs tc)
  (he : ∀ C s H fp, PE (cxIn X (Tn ++ Fn) scope (closOf X.env.cells scope.names []) C s H fp) elt te) (hs : ∀ x, foldedSetIterable iter X.env x = pure x := by intro _; rfl) :
  PE X (.ListComp elt [⟨tg, iter, ifs, 0⟩] scope pos) (tComp wi g tc te Tn.length js) := by
 intro pins s σ H Q I hq
 have cs := CompScope.of h
 rw [eval_ListComp]
 refine wpAny_comprehension_free (use := none) rfl hs (closureFor_eq ?_) cs.kind cs.loc (thn (hi pins s σ H _ I hq) fun xv s1 h1 => thn h1 fun itv s2 h2 => ?_)
 ·intro x hx e; exact I.ok.has x.1 (.inl (cs.fre x hx e))
 obtain ⟨it, fp, tn, J, H2, rfl, I2, T, st2, f2, hb⟩ := h2
 refine block_run (Z := fun D H' => Q (.ref D) H') (RR := fun acc C => compPost (model X.prog X.w) X.A X.xe none (EP X pins σ Q) acc C) hc cs hg ht he I2 T st2 f2 hb ?_
 intro D C s' H' m hm I' hn cf z
 exact ⟨m, hm, fun h' sb => ⟨.ref D, H', I'.letgo hn cf sb, rfl, z⟩⟩
theorem ps_setcomp (Tn Fn : List Str) (js : List Nat) {i : Nat} {y : Str} {py spos : Pos} (hN : X.N.Nodup) (hiN : X.N[i]? = some y) (hy : X.env.scope.names.lookup y = some .local) (hc : X.calm = true) (h : compOk X.env.scope scope X.N Tn Fn js = true) (hi : PI X tg iter wi)
  (hg : ∀ C s H fp, PG (cxIn X (Tn ++ Fn) scope (closOf X.env.cells scope.names []) C s H fp) tg g) (ht : ∀ C s H fp, PIfs (cxIn X (Tn ++ Fn) scope (closOf X.env.cells scope.names []) C s H fp) ifs tc)
  (he : ∀ C s H fp, PE (cxIn X (Tn ++ Fn) scope (closOf X.env.cells scope.names []) C s H fp) elt te) (hsw : swapsWith (.ListComp elt [⟨tg, iter, ifs, 0⟩] scope pos) (some (.Name y py)) spos.line X.env = pure true := by rfl)
  (hs : ∀ x, foldedSetIterable iter X.env x = pure x := by intro _; rfl) :
  PS X (.Assign [.Name y py] (.ListComp elt [⟨tg, iter, ifs, 0⟩] scope pos) spos) (tAsg (tComp wi g tc te Tn.length js) (gName i)) := by
 intro pins s σ H D0 I hq
 have cs := CompScope.of h
 rw [exec_Assign_Name_used _ _ _ _ hsw]
 refine wpAny_bind (wpAny_standAt (wpAny_bind ?_))
 show wpAny _ X.A (do let _ <- comprehension (.ListComp elt [⟨tg, iter, ifs, 0⟩] scope pos) scope X.env _ (newList []) false (eval iter X.env) (some (assign (.Name y py) X.env))) _ _ s
 refine wpAny_bind (wpAny_mono (wpAny_comprehension_free (use := some (assign (.Name y py) X.env)) (Q := fun _ s' => SP X pins D0 .next s') rfl hs (closureFor_eq ?_) cs.kind cs.loc
  (thn (hi pins s σ H _ I hq) fun xv s1 h1 => thn h1 fun itv s2 h2 => ?_)) (fun _ s' hq => wpAny_pure (wpAny_pure hq)) fun _ _ e => e)
 ·intro x hx e; exact I.ok.has x.1 (.inl (cs.fre x hx e))
 obtain ⟨it, fp, tn, J, H2, rfl, I2, T, st2, f2, hb⟩ := h2
 refine block_run (Z := fun D H' => D0.nx (σ.set i (some (.ref D))) H') (RR := fun acc C => compPost (model X.prog X.w) X.A X.xe (some (assign (.Name y py) X.env)) (fun _ s' => SP X pins D0 .next s') acc C) hc cs hg ht he I2 T st2 f2 hb ?_
 intro D C s' H' m hm I' hn cf z
 show wpAny _ X.A (assign (.Name y py) X.env (.ref D)) _ _ s'
 refine wpAny_assign_Name (store_ok2 (v := .ref D) I' hN hiN (.inl hy) rfl (fun s'' I'' sb => ?_) (.inr hy))
 obtain ⟨a, sb, ha⟩ := sb
 have hCa : C ≠ a := by
  rcases ha with e | e
  ·rw [e]; exact cf.nl
  ·exact fun z => cf.nc _ _ e z.symm
 exact ⟨m, hm.sameBut sb hCa, fun h' sb' => ⟨_, H', I''.letgo hn cf sb', z⟩⟩
end
theorem block_list {K : PySem.W.Frag} {a : Addr} {xs : List V} {g : TG} {tc : TT} {te : TE} {D : Addr} {Z : Hp -> Prop} {σ : St} {H : Hp} (Pv : Nat -> St -> Hp -> Prop) (h0 : Pv 0 σ H) (hl : ∀ i σ H, i <= xs.length -> Pv i σ H -> SqL K H a xs)
  (hs : ∀ i x σ H, xs[i]? = some x -> Pv i σ H -> g x σ H fun σ2 H2 => tc σ2 H2 fun b H3 => if b = true then te σ2 H3 fun y H4 => ∃ ys, H4 D = some (.lst ys) /\ ys.length < sizeLine /\ Pv (i + 1) σ2 (upd H4 D (.lst (ys ++ [y]))) else Pv (i + 1) σ2 H3)
  (hd : ∀ σ H, Pv xs.length σ H -> Z H) : tBlock (Itl K a) g tc te D Z σ H := by
 refine ⟨fun i m σ H => m = xs.length - i /\ i <= xs.length /\ Pv i σ H, ⟨xs.length, by simp, Nat.zero_le _, h0⟩, ?_⟩
 rintro i m σ H ⟨rfl, hi, p⟩
 have q := hl i σ H hi p
 by_cases hlt : i < xs.length
 ·refine .inr ⟨⟨xs, xs[i], q, by simp [hlt]⟩, Pv (i + 1), fun σ' H' p' => ⟨xs.length - (i + 1), by omega, rfl, hlt, p'⟩, fun x H' y => ?_⟩
  obtain ⟨e, y⟩ := y
  subst e
  exact hs i x σ _ (y xs q) p
 ·have e : i = xs.length := by omega
  subst e
  exact .inl ⟨⟨xs, q, Nat.le_refl _⟩, hd σ H p⟩
theorem block_range {lo : Int} {n : Nat} {g : TG} {tc : TT} {te : TE} {D : Addr} {Z : Hp -> Prop} {σ : St} {H : Hp} (Pv : Nat -> St -> Hp -> Prop) (h0 : Pv 0 σ H)
  (hs : ∀ i σ H, i < n -> Pv i σ H -> g (.int (lo + i)) σ H fun σ2 H2 => tc σ2 H2 fun b H3 => if b = true then te σ2 H3 fun y H4 => ∃ ys, H4 D = some (.lst ys) /\ ys.length < sizeLine /\ Pv (i + 1) σ2 (upd H4 D (.lst (ys ++ [y]))) else Pv (i + 1) σ2 H3)
  (hd : ∀ σ H, Pv n σ H -> Z H) : tBlock (Itr lo n) g tc te D Z σ H := by
 refine ⟨fun i m σ H => m = n - i /\ i <= n /\ Pv i σ H, ⟨n, by simp, Nat.zero_le _, h0⟩, ?_⟩
 rintro i m σ H ⟨rfl, hi, p⟩
 by_cases hlt : i < n
 ·refine .inr ⟨hlt, Pv (i + 1), fun σ' H' p' => ⟨n - (i + 1), by omega, rfl, hlt, p'⟩, fun x H' y => ?_⟩
  obtain ⟨e, y⟩ := y
  subst e y
  exact hs i σ _ hlt p
 ·have e : i = n := by omega
  subst e
  exact .inl ⟨Nat.le_refl _, hd σ H p⟩
end L2
namespace L2
open PySem PySem.Spec PyProof.Rows
mutual
noncomputable def RepD (K : PySem.W.Frag) (H : Hp) : PyData -> V -> Prop
 | .none, v => v = .non
 | .bool b, v => v = .bl b
 | .int i, v => v = .int i
 | .str x, v => v = .str x /\ (PyData.str x).canLay0 = true
 | .tuple xs, v => ∃ a vs, v = .ref a /\ SqT K H a vs /\ RepDs K H xs vs
 | .list xs, v => ∃ a vs, v = .ref a /\ SqL K H a vs /\ RepDs K H xs vs
 | .dict _, _ => False
noncomputable def RepDs (K : PySem.W.Frag) (H : Hp) : List PyData -> List V -> Prop
 | [], vs => vs = []
 | d :: ds, vs => ∃ v r, vs = v :: r /\ RepD K H d v /\ RepDs K H ds r
end
section
variable {X : Cx} {pins : List (Addr × Obj)} {σ : St} {H : Hp} {s : Shared}
mutual
theorem RepD.reads (I : Inv X pins σ H s) : ∀ {d : PyData} {v : V} {u : Value}, RepD X.K H d v -> RelV v u -> ∃ as, Reads s.heap u d as
 | .none, v, u, h, r => by
  have h : v = .non := by simpa [RepD] using h
  subst h; cases r; exact ⟨_, .none⟩
 | .bool b, v, u, h, r => by
  have h : v = .bl b := by simpa [RepD] using h
  subst h; cases r; exact ⟨_, .bool b⟩
 | .int i, v, u, h, r => by
  have h : v = .int i := by simpa [RepD] using h
  subst h; obtain ⟨t, rfl⟩ := r; exact ⟨_, .int i t⟩
 | .str x, v, u, h, r => by
  simp only [RepD] at h
  obtain ⟨rfl, _⟩ := h
  obtain ⟨t, rfl⟩ := r; exact ⟨_, .str x t⟩
 | .tuple xs, v, u, h, r => by
  have h : ∃ a vs, v = .ref a /\ SqT X.K H a vs /\ RepDs X.K H xs vs := by simpa [RepD] using h
  obtain ⟨a, vs, rfl, q, rs⟩ := h
  cases r
  obtain ⟨its, rv, p, _⟩ := I.tuple q
  obtain ⟨o, e, c, n, d⟩ := (show s.heap.IsTuple a its.toArray from p)
  obtain ⟨as, ra⟩ := RepDs.reads I rs rv
  exact ⟨_, .tuple e c d (by simpa using ra)⟩
 | .list xs, v, u, h, r => by
  have h : ∃ a vs, v = .ref a /\ SqL X.K H a vs /\ RepDs X.K H xs vs := by simpa [RepD] using h
  obtain ⟨a, vs, rfl, q, rs⟩ := h
  cases r
  obtain ⟨its, rv, p, _⟩ := I.list q
  obtain ⟨o, e, c, n, d⟩ := p.isList
  obtain ⟨as, ra⟩ := RepDs.reads I rs rv
  exact ⟨_, .list e c d (by simpa using ra)⟩
 | .dict _, v, u, h, r => by
  have h : False := by simpa [RepD] using h
  exact h.elim
theorem RepDs.reads (I : Inv X pins σ H s) : ∀ {ds : List PyData} {vs : List V} {us : List Value}, RepDs X.K H ds vs -> Vals vs us -> ∃ as, ReadsAll s.heap us ds as
 | [], vs, us, h, r => by
  have h : vs = [] := by simpa [RepDs] using h
  subst h; cases r; exact ⟨_, .nil⟩
 | d :: ds, vs, us, h, r => by
  have h : ∃ v r, vs = v :: r /\ RepD X.K H d v /\ RepDs X.K H ds r := by simpa [RepDs] using h
  obtain ⟨v, rs, rfl, h1, h2⟩ := h
  cases r with
  | cons a b =>
   obtain ⟨as, r1⟩ := RepD.reads I h1 a
   obtain ⟨bs, r2⟩ := RepDs.reads I h2 b
   exact ⟨_, .cons r1 r2⟩
end
mutual
theorem RepD.lay {K : PySem.W.Frag} : ∀ {d : PyData} {v : V}, RepD K H d v -> d.canLay0 = true
 | .none, _, _ => rfl
 | .bool _, _, _ => rfl
 | .int _, _, _ => rfl
 | .str x, v, h => by
  simp only [RepD] at h
  exact h.2
 | .tuple xs, v, h => by
  have h : ∃ a vs, v = .ref a /\ SqT K H a vs /\ RepDs K H xs vs := by simpa [RepD] using h
  obtain ⟨a, vs, rfl, q, rs⟩ := h
  have := RepDs.lay rs
  simpa [PyData.canLay0] using this
 | .list xs, v, h => by
  have h : ∃ a vs, v = .ref a /\ SqL K H a vs /\ RepDs K H xs vs := by simpa [RepD] using h
  obtain ⟨a, vs, rfl, q, rs⟩ := h
  have := RepDs.lay rs
  simpa [PyData.canLay0] using this
 | .dict _, v, h => by
  have h : False := by simpa [RepD] using h
  exact h.elim
theorem RepDs.lay {K : PySem.W.Frag} : ∀ {ds : List PyData} {vs : List V}, RepDs K H ds vs -> PyData.canLayAll0 ds = true
 | [], _, _ => rfl
 | d :: ds, vs, h => by
  have h : ∃ v r, vs = v :: r /\ RepD K H d v /\ RepDs K H ds r := by simpa [RepDs] using h
  obtain ⟨v, rs, rfl, h1, h2⟩ := h
  have a := RepD.lay h1
  have b := RepDs.lay h2
  simp [PyData.canLayAll0, a, b]
end
end
section
variable {X : Cx} {k : Nat}
noncomputable def rEqD (K : PySem.W.Frag) : R2 := fun x y H Q => ∃ d d', RepD K H d x /\ RepD K H d' y /\ d.depth <= 64 /\ Q (.bl (PyData.eqv d d')) H
noncomputable def rNeD (K : PySem.W.Frag) : R2 := fun x y H Q => ∃ d d', RepD K H d x /\ RepD K H d' y /\ d.depth <= 64 /\ Q (.bl (!PyData.eqv d d')) H
theorem op_eqD (hr : Room k X.A) : OpR X (compareOp .Eq) (rEqD X.K) := by
 intro pins s σ H x y v u Q I rx ry h
 obtain ⟨d, d', h1, h2, hd, q⟩ := h
 obtain ⟨as, r1⟩ := h1.reads I rx
 obtain ⟨bs, r2⟩ := h2.reads I ry
 exact SeqAt.compareEq_reads r1 r2 h1.lay h2.lay (by have := hr.units; have : min d.depth d'.depth <= d.depth := Nat.min_le_left _ _; omega) ⟨.bl _, H, I, rfl, q⟩
theorem op_neD (hr : Room k X.A) : OpR X (compareOp .NotEq) (rNeD X.K) := by
 intro pins s σ H x y v u Q I rx ry h
 obtain ⟨d, d', h1, h2, hd, q⟩ := h
 obtain ⟨as, r1⟩ := h1.reads I rx
 obtain ⟨bs, r2⟩ := h2.reads I ry
 exact SeqAt.compareNe_reads r1 r2 h1.lay h2.lay (by have := hr.units; have : min d.depth d'.depth <= d.depth := Nat.min_le_left _ _; omega) ⟨.bl _, H, I, rfl, q⟩
end
noncomputable def pq (t b : Int) : PyData := .tuple [.int t, .int b]
theorem rep_pq {K : PySem.W.Frag} {H : Hp} {a : Addr} {t b : Int} (h : SqT K H a [.int t, .int b]) : RepD K H (pq t b) (.ref a) := by
 simp only [pq, RepD, RepDs]
 exact ⟨a, _, rfl, h, _, _, rfl, rfl, _, _, rfl, rfl, rfl⟩
theorem eqv_pq (t b t' b' : Int) : PyData.eqv (pq t b) (pq t' b') = decide (t = t' /\ b = b') := by
 simp [pq, PyData.eqv, PyData.eqvAll, Bool.beq_eq_decide_eq]
theorem pq_depth (t b : Int) : (pq t b).depth <= 64 := by
 simp [pq, PyData.depth, PyData.depthAll]
section
variable {P : Program} {w : World} {K : PySem.W.Frag} {mg : Str -> Option Value} {base : Heap}
theorem DefAt.okE {x : Str} {st : Stmt} {N ps : List Str} {k : Nat} {sp : Sp} (D : DefAt K mg x st) (S : FnScope N ps (defScope st)) (len : ∀ vs H Q E, sp vs H Q E -> vs.length = ps.length)
  (hb : ∀ (kV doc pm : Value) (an : Option Addr) (cdv ct : Value) (us : List Value), us.length = ps.length -> bindArgs (PySem.W.fnOf x x (defArgs st) (defBody st) (defScope st) .none kV doc pm an cdv ct) ⟨us, []⟩ = pure (ps.zip us))
  (hbody : ∀ (f : Addr) (cdv : Value) (A : Around) (outer : List Env) (s : Shared) (H : Hp) (vs : List V) (Q : VK) (E : XK), Room k (A.deeper (envOfC x (defScope st) s.heap.objs.size f cdv)) -> sp vs H Q E ->
   ∃ t, PSs (cxOf (CXE P w) P w K mg base N x (defScope st) f cdv A outer s H E) (defBody st) t /\ t { nx := fun _ H' => Q .non H', rt := Q } (start N vs) H) : FnAt P w K mg base (CXE P w) (k + 1) x ps sp := by
 obtain ⟨f, fd, F, m⟩ := D.ex
 have hF := F
 obtain ⟨oc, od, kV, doc, pm, an, cdv, ct, osl, rfl, lk, hcd⟩ := F.ex
 exact ⟨f, _, fn_of lk hcd S len fun A outer s H vs Q E hr hsp => hbody f cdv A outer s H vs Q E hr hsp, m, hF.kp, hF.binds hb⟩
end
theorem pass00 {X : Cx} : Passes (CXE X.prog X.w) X E0 := fun _ _ _ _ _ _ _ ⟨_, _, _, _, _, _, _, _, _, _, q⟩ => q.elim
end L2
namespace Tc
open PySem L2
noncomputable abbrev fq (r : Rat) : List V := [.int r.num, .int (r.den : Nat)]
noncomputable def FrV (H : Hp) (v : V) (r : Rat) : Prop := ∃ a, v = .ref a /\ H a = some (.tup (fq r))
theorem FrV.same {H H' : Hp} {v : V} {r : Rat} (h : FrV H v r) (s : Same H H') : FrV H' v r := let ⟨a, e, h⟩ := h; ⟨a, e, s _ _ h⟩
theorem FrV.upd {H : Hp} {v : V} {r : Rat} {p : Addr} {o : HO} (h : FrV H v r) (n : H p = none) : FrV (upd H p o) v r := h.same (Same.upd n)
theorem FrV.new {H : Hp} {r : Rat} {p : Addr} : FrV (L2.upd H p (.tup (fq r))) (.ref p) r := ⟨p, rfl, upd_same⟩
theorem FrV.newOf {H : Hp} {r : Rat} {p : Addr} {t b : Int} (h1 : t = r.num) (h2 : b = (r.den : Int)) : FrV (L2.upd H p (.tup [.int t, .int b])) (.ref p) r := by
 subst h1 h2; exact FrV.new
theorem FrV.rep {K : PySem.W.Frag} {H : Hp} {v : V} {r : Rat} (h : FrV H v r) : RepD K H (pq r.num r.den) v := by
 obtain ⟨a, rfl, h⟩ := h
 exact rep_pq (SqT.of h)
theorem fq_dec (r q : Rat) : decide (r.num = q.num /\ (r.den : Int) = q.den) = decide (r = q) := by
 rw [decide_eq_decide]
 constructor
 ·rintro ⟨h1, h2⟩; exact fq_inj h1 h2
 ·rintro rfl; exact ⟨rfl, rfl⟩
structure Bd (n : Nat) (r : Rat) : Prop where
 num : r.num.natAbs < 2 ^ n
 den : r.den < 2 ^ n
theorem pow_le {m n : Nat} (h : m <= n) : (2 : Nat) ^ m <= 2 ^ n := Nat.pow_le_pow_right (by decide) h
theorem Bd.mono {m n : Nat} {r : Rat} (b : Bd m r) (h : m <= n) : Bd n r := ⟨Nat.lt_of_lt_of_le b.num (pow_le h), Nat.lt_of_lt_of_le b.den (pow_le h)⟩
theorem Bd.neg {n : Nat} {r : Rat} (b : Bd n r) : Bd n (-r) := ⟨by rw [Rat.neg_num, Int.natAbs_neg]; exact b.num, by rw [Rat.neg_den]; exact b.den⟩
theorem natAbs_mul_lt {a b : Int} {m n : Nat} (ha : a.natAbs < 2 ^ m) (hb : b.natAbs < 2 ^ n) : (a * b).natAbs < 2 ^ (m + n) := by
 rw [Int.natAbs_mul, Nat.pow_add]
 exact Nat.mul_lt_mul'' ha hb
theorem fq_num_le (t b : Int) (hb : b ≠ 0) : (Rat.divInt t b).num.natAbs <= t.natAbs := by
 rw [<- dv_num hb]
 have h := Int.fdiv_mul_cancel (dv_dvd_left t b)
 have h2 : ((t.fdiv (dv t b)) * dv t b).natAbs = t.natAbs := by rw [h]
 rw [Int.natAbs_mul] at h2
 have h3 : 0 < (dv t b).natAbs := by have := dv_ne (t := t) hb; omega
 rw [<- h2]
 exact Nat.le_mul_of_pos_right _ h3
theorem fq_den_le (t b : Int) (hb : b ≠ 0) : (Rat.divInt t b).den <= b.natAbs := by
 have e := dv_den (t := t) hb
 have h := Int.fdiv_mul_cancel (dv_dvd_right t b)
 have h2 : ((b.fdiv (dv t b)) * dv t b).natAbs = b.natAbs := by rw [h]
 rw [Int.natAbs_mul, e] at h2
 have h3 : 0 < (dv t b).natAbs := by have := dv_ne (t := t) hb; omega
 have : (((Rat.divInt t b).den : Int)).natAbs <= b.natAbs := by rw [<- h2]; exact Nat.le_mul_of_pos_right _ h3
 omega
theorem Bd.divInt {n : Nat} {t b : Int} (hb : b ≠ 0) (h1 : t.natAbs < 2 ^ n) (h2 : b.natAbs < 2 ^ n) : Bd n (Rat.divInt t b) := ⟨Nat.lt_of_le_of_lt (fq_num_le t b hb) h1, Nat.lt_of_le_of_lt (fq_den_le t b hb) h2⟩
theorem add_eq (r q : Rat) : r + q = Rat.divInt (r.num * q.den + q.num * r.den) (r.den * q.den) := by
 have h := Rat.divInt_add_divInt r.num q.num (d₁ := r.den) (d₂ := q.den) (by have := rat_den_pos r; omega) (by have := rat_den_pos q; omega)
 rw [Rat.num_divInt_den, Rat.num_divInt_den] at h
 exact h
theorem Bd.mul {m n : Nat} {r q : Rat} (b1 : Bd m r) (b2 : Bd n q) : Bd (m + n) (r * q) := by
 rw [<- mul_eq]
 have d1 := rat_den_pos r
 have d2 := rat_den_pos q
 have n1 : ((r.den : Int)).natAbs < 2 ^ m := b1.den
 have n2 : ((q.den : Int)).natAbs < 2 ^ n := b2.den
 exact Bd.divInt (Int.mul_ne_zero (by omega) (by omega)) (natAbs_mul_lt b1.num b2.num) (natAbs_mul_lt n1 n2)
theorem Bd.divR {n : Nat} {r : Rat} (b : Bd n r) (h : n <= 8999) {i d : Int} (hd : d ≠ 0) (hl : d.natAbs <= r.den) : CDivB i d :=
 divB_of hd (Nat.lt_of_le_of_lt hl (Nat.lt_of_lt_of_le b.den (pow_le (by omega))))
theorem paired_get {α β : Type} {F : α -> β -> Prop} : ∀ {xs : List α} {ys : List β} {i : Nat} {x : α}, Paired F xs ys -> xs[i]? = some x -> ∃ y, ys[i]? = some y /\ F x y
 | _, _, _, _, .nil, e => by simp at e
 | _, _, 0, _, .cons r _, e => by simp at e; subst e; exact ⟨_, rfl, r⟩
 | _, _, i + 1, x, .cons _ t, e => by
  obtain ⟨u, h1, h2⟩ := paired_get (i := i) (x := x) t (by simpa using e)
  exact ⟨u, by simpa using h1, h2⟩
noncomputable def spCd : Sp := fun vs H Q _ => ∃ t b : Int, vs = [.int t, .int b] /\ b ≠ 0 /\ Q (.int (dv t b)) H
noncomputable def sp2 (n : Nat) (f : Rat -> Rat -> Rat) : Sp := fun vs H Q _ => ∃ x y r q, vs = [x, y] /\ FrV H x r /\ FrV H y q /\ Bd n r /\ Bd n q /\ ∀ v H', Same H H' -> FrV H' v (f r q) -> Q v H'
noncomputable abbrev spPlus : Sp := sp2 8000 (· + ·)
noncomputable abbrev spMinus : Sp := sp2 8000 (· - ·)
noncomputable abbrev spTimes : Sp := fun vs H Q _ => ∃ x y a b t1 b1 t2 b2, vs = [x, y] /\ x = .ref a /\ H a = some (.tup [.int t1, .int b1]) /\ y = .ref b /\ H b = some (.tup [.int t2, .int b2]) /\ 0 < b1 /\ b2 ≠ 0 /\ Int.gcd t1 b1 = 1 /\ Int.gcd t2 b2 = 1 /\
 (t1.natAbs < 2 ^ 8000 /\ b1.natAbs < 2 ^ 8000 /\ t2.natAbs < 2 ^ 8000 /\ b2.natAbs < 2 ^ 8000) /\ ∀ v H', Same H H' -> FrV H' v (Rat.divInt (t1 * t2) (b1 * b2)) -> Q v H'
theorem spTimes.of {vs : List V} {H : Hp} {Q : VK} {E : XK} {x y : V} {r q : Rat} (e : vs = [x, y]) (h1 : FrV H x r) (h2 : FrV H y q) (b1 : Bd 8000 r) (b2 : Bd 8000 q) (k : ∀ v H', Same H H' -> FrV H' v (r * q) -> Q v H') : spTimes vs H Q E := by
 obtain ⟨a, rfl, ha⟩ := h1
 obtain ⟨b, rfl, hb⟩ := h2
 have d1 := rat_den_pos r
 have d2 := rat_den_pos q
 exact ⟨_, _, a, b, r.num, r.den, q.num, q.den, e, rfl, ha, rfl, hb, d1, by omega, rat_gcd r, rat_gcd q, ⟨b1.num, b1.den, b2.num, b2.den⟩, fun v H' s h => k v H' s (by rw [<- mul_eq]; exact h)⟩
noncomputable def spOver (C : Addr) : Sp := fun vs H Q E => ∃ x y r q, vs = [x, y] /\ FrV H x r /\ FrV H y q /\ Bd 8000 r /\ Bd 8000 q /\ (q ≠ 0 -> ∀ v H', Same H H' -> FrV H' v (r / q) -> Q v H') /\ (q = 0 -> E (.ref C) none H)
noncomputable def spUnder : Sp := fun vs H Q _ => ∃ x y r q, vs = [x, y] /\ FrV H x r /\ FrV H y q /\ Bd 8000 r /\ Bd 8000 q /\ Q (.bl (decide (r < q))) H
noncomputable def sumQ (rs : List Rat) : Rat := rs.foldl (· + ·) 0
theorem sumQ_take {rs : List Rat} {i : Nat} {r : Rat} (h : rs[i]? = some r) : sumQ (rs.take (i + 1)) = sumQ (rs.take i) + r := by
 unfold sumQ
 rw [List.take_add_one, h, List.foldl_append]; rfl
theorem foldl_add (rs : List Rat) (a : Rat) : rs.foldl (· + ·) a = a + rs.foldl (· + ·) 0 := by
 induction rs generalizing a with
 | nil => simp [Rat.add_zero]
 | cons r rs ih =>
  rw [List.foldl_cons, List.foldl_cons, ih (a + r), ih (0 + r), Rat.zero_add, Rat.add_assoc]
theorem sumQ_cons (r : Rat) (rs : List Rat) : sumQ (r :: rs) = r + sumQ rs := by
 unfold sumQ
 rw [List.foldl_cons, foldl_add, Rat.zero_add]
theorem sumQ_append (a b : List Rat) : sumQ (a ++ b) = sumQ a + sumQ b := by
 unfold sumQ
 rw [List.foldl_append, foldl_add]
noncomputable def spSumOf (K : PySem.W.Frag) : Sp := fun vs H Q _ => ∃ (a : Addr) (xs : List V) (rs : List Rat), vs = [.ref a] /\ SqL K H a xs /\ Paired (FrV H) xs rs /\ (∀ r ∈ rs, Bd 8000 r) /\ (∀ k, k <= rs.length -> Bd 8000 (sumQ (rs.take k))) /\ ∀ v H', Same H H' -> FrV H' v (sumQ rs) -> Q v H'
noncomputable def spCell (K : PySem.W.Frag) : Sp := fun vs H Q _ => ∃ (a : Addr) (ns : List Int) (k : Int), vs = [.ref a, .int k] /\ SqL K H a (ns.map V.int) /\ 0 <= k /\ ∀ c : Int, Q (.int c) H
noncomputable def spDivisor : Sp := fun vs H Q _ => ∃ a b : Int, vs = [.int a, .int b] /\ Q (.int (Int.gcd a b : Nat)) H
noncomputable def spLaw (K : PySem.W.Frag) : Sp := fun vs H Q _ => ∃ (a : Addr) (ns : List Int), vs = [.ref a] /\ SqL K H a (ns.map V.int) /\ ns.length <= 63 /\ ∀ H', Q (.bl true) H'
theorem sz {n : Nat} (h : n <= 1000) : n <= sizeLine := Nat.le_of_lt (small1000 h)
theorem map_at {ns : List Int} {k : Int} (h0 : 0 <= k) (h1 : k < (ns.map V.int).length) : ∃ c : Int, atI (ns.map V.int) k = some (V.int c) := by
 obtain ⟨j, rfl⟩ := Int.eq_ofNat_of_zero_le h0
 have hj : j < ns.length := by rw [List.length_map] at h1; omega
 refine ⟨ns[j], atI_nat ?_⟩
 rw [List.getElem?_map, List.getElem?_eq_getElem hj]
 rfl
theorem fmod_lt {c m : Int} (h : 0 < m) : 0 <= c.fmod m /\ c.fmod m < m := fmod_pos h
theorem dec_true {p : Prop} [Decidable p] {A B : Prop} (hp : p) (h : A) : if decide p = true then A else B := by
 rw [decide_eq_true hp]; exact iteT h
theorem dec_false {p : Prop} [Decidable p] {A B : Prop} (hp : ¬ p) (h : B) : if decide p = true then A else B := by
 rw [decide_eq_false hp]; exact iteF h
theorem paired_same {H H' : Hp} {xs : List V} {rs : List Rat} (s : Same H H') (h : Paired (FrV H) xs rs) : Paired (FrV H') xs rs := Paired.mapP h fun _ _ f => f.same s
theorem paired_rev {α β : Type} {F : α -> β -> Prop} {xs : List α} {ys : List β} (h : Paired F xs ys) : Paired F xs.reverse ys.reverse := by
 induction h with
 | nil => exact .nil
 | cons r t ih => rw [List.reverse_cons, List.reverse_cons]; exact ih.snoc r
end Tc
namespace L2
open PySem PySem.Spec PyProof.Rows
section
variable {X : Cx}
end
section
variable {X : Cx} {K : PySem.W.Frag}
theorem ix_tup' (h : X.K = K) : IxR X (rIxT K) := by subst h; exact ix_tup
theorem ix_list' (h : X.K = K) : IxR X (rIxL K) := by subst h; exact ix_list
theorem sl_list' (h : X.K = K) : SlR X (rSlL K) := by subst h; exact sl_list
theorem op_notIn_seq' (h : X.K = K) : OpR X (compareOp .NotIn) (rIn K true) := by subst h; exact op_notIn_seq
theorem op_eqD' {k : Nat} (h : X.K = K) (hr : Room k X.A) : OpR X (compareOp .Eq) (rEqD K) := by subst h; exact op_eqD hr
theorem op_neD' {k : Nat} (h : X.K = K) (hr : Room k X.A) : OpR X (compareOp .NotEq) (rNeD K) := by subst h; exact op_neD hr
theorem call_len' (h : X.K = K) : CallR X (.builtin "len") (fun xs H Q => ∃ x n, xs = [x] /\ LenV K x H n /\ Q (.int n) H) := by subst h; exact call_len
theorem call_isi' (h : X.K = K) : CallR X (.builtin "isinstance") (fun xs H Q => ∃ x n t b, xs = [x, .ty n] /\ TyOf K H x t /\ PySem.W.kitOne K t (.type n) = some b /\ Q (.bl b) H) := by subst h; exact call_isi
theorem call_list_of' (h : X.K = K) : CallR X (.type "list") (fun xs H Q => ∃ p ys, xs = [.ref p] /\ (SqL K H p ys \/ SqT K H p ys) /\ ∀ l, H l = none -> Q (.ref l) (upd H l (.lst ys))) := by subst h; exact call_list_of
theorem pi_list' {tg l : Expr} {tl : TE} (h : X.K = K) (hl : PE X l tl) : PI X tg l (iList K tl) := by subst h; exact pi_list hl
end
theorem Same.updD {H H' : Hp} {D : Addr} {o : HO} (s : Same H H') (h : H D = none) : Same H (L2.upd H' D o) := fun b u e => by
 rw [L2.upd_ne (ne_of_none e h)]; exact s b u e
end L2
namespace L2
open PySem PySem.Spec PyProof.Rows
theorem strs_of_vals : ∀ {ys : List Str} {vs : List Value}, Vals (ys.map V.str) vs -> StrsAre vs ys
 | [], _, .nil => .nil
 | y :: ys, _, .cons r t => by obtain ⟨tk, rfl⟩ := r; exact .cons y tk (strs_of_vals t)
section
variable {X : Cx} {K : PySem.W.Frag}
noncomputable def rJoin (K : PySem.W.Frag) : V -> List V -> Hp -> VK -> Prop := fun x vs H Q => ∃ (z : Str) (a : Addr) (ys : List Str), x = .str z /\ vs = [.ref a] /\ SqL K H a (ys.map V.str) /\ (ys.map (·.length)).sum + ys.length * z.length <= 16777216 /\ Q (.str (Txt.join z ys)) H
theorem mt_join' (h : X.K = K) : MtR X "str.join" (rJoin K) := by
 subst h
 intro pins s σ H x xs v us Q I rx rv h
 obtain ⟨z, a, ys, rfl, rfl, hq, hz, q⟩ := h
 obtain ⟨t, rfl⟩ := rx
 obtain ⟨u, rfl, ru⟩ := Vals.one rv
 cases ru
 obtain ⟨its, r, p, _⟩ := I.list hq
 exact join_list p.isList (by simpa using strs_of_vals r) hz fun t' k => ⟨.str _, H, I.tok k, ⟨t', rfl⟩, q⟩
theorem pe_bm' {o e : Expr} {es : List Expr} {to : TE} {t : TA} {name : Str} {apos cpos : Pos} {T id : String} {r : V -> List V -> Hp -> VK -> Prop} (h : X.K = K) (pa : PlainAttrs T) (slot : Slot T name id) (hty : typeOf (.builtin id) = pure (.type "method_descriptor"))
  (hm : MtR X id r) (ho : PE X o to) (ha : PA X (e :: es) t) (hbase : attributeBase o name X.env (eval o X.env) = eval o X.env := by rfl)
  (hfew : ((backTo cpos (starEach (e :: es) X.env)).all (fun x => !x.1) && (backToKw cpos (keywordEach [] X.env)).all (fun x => x.1.isSome) && decide ((e :: es).length + ([] : List Keyword).length + (if ([] : List Keyword).isEmpty then 0 else 1) < 30)) = true := by rfl)
  (hline : (apos.endLine == cpos.line) = true := by rfl) (hs : starEach (e :: es) X.env = (false, eval e X.env) :: starEach es X.env := by rfl) (hplain : (backTo cpos (starEach es X.env)).any (·.1) = false := by rfl) :
  PE X (.Call (.Attribute o name apos) (e :: es) [] cpos) (tBM K T r to t) := by subst h; exact pe_bm pa slot hty hm ho ha hbase hfew hline hs hplain
theorem pg_tup' {es : List Expr} {k : Nat} {t : TGs} {n : Nat} {pos : Pos} (h : X.K = K) (hc : X.calm = true) (hp : PGs X es t) (hn : (assignEach es X.env).length = n := by rfl) (hst : (assignEach es X.env).findIdx? (·.1) = none := by rfl) :
  PG X (.Tuple es k pos) (gTup K n t) := by subst h; exact pg_tup hc hp hn hst
end
end L2
namespace L2
open PySem PySem.Spec PyProof.Rows
section
variable {X : Cx} {K : PySem.W.Frag} {k : Nat}
end
end L2
namespace Tc
open PySem L2
noncomputable abbrev one1 (c : Nat) : Str := ⟨#[c]⟩
theorem join_cs : ∀ cs : List Nat, Txt.join "" (cs.map one1) = ⟨cs.toArray⟩ := by
 intro cs
 rw [eq_of_beq (PyProof.Rows.join_plain_closes _ _)]
 have e : (Str.ofString "") = ⟨#[]⟩ := by decide +kernel
 show Str.join (Str.ofString "") _ = _
 rw [e]
 induction cs with
 | nil => rfl
 | cons c cs ih =>
  rw [List.map_cons, PyProof.Rows.join_nil_cons, ih]
  show (⟨#[c] ++ cs.toArray⟩ : Str) = _
  simp
theorem sum_ones (cs : List Nat) : ((cs.map one1).map (·.length)).sum = cs.length := by
 induction cs with
 | nil => rfl
 | cons c cs ih =>
  rw [List.map_cons, List.map_cons, List.sum_cons, ih, List.length_cons]
  show 1 + _ = _
  omega
theorem join_fits (cs : List Nat) (h : cs.length <= 1000000) : ((cs.map one1).map (·.length)).sum + (cs.map one1).length * (Str.ofString "").length <= 16777216 := by
 have e : (Str.ofString "").length = 0 := by decide +kernel
 rw [sum_ones, e]; omega
noncomputable abbrev LT : Str := "abcdefghijklmnopqrstuvwxyz"
theorem lt_len : LT.cps.toList.length = 26 := by decide +kernel
theorem str_at {zs : List Str} {k : Int} (h0 : 0 <= k) (h1 : k < zs.length) : ∃ z, z ∈ zs /\ atI (zs.map V.str) k = some (V.str z) := by
 obtain ⟨j, rfl⟩ := Int.eq_ofNat_of_zero_le h0
 have hj : j < zs.length := by omega
 refine ⟨zs[j], List.getElem_mem hj, atI_nat ?_⟩
 rw [List.getElem?_map, List.getElem?_eq_getElem hj]; rfl
theorem ddv {i d : Int} (h1 : 0 < d) (h2 : d <= 1000000) : CDivB i d := divB_of (by omega) (Nat.lt_of_le_of_lt (m := 1000000) (by omega) (by decide))
end Tc
namespace L2
open PySem PySem.Spec PyProof.Rows
noncomputable def RawD (h : Heap) (d : Addr) (es : Array DictEntry) (ep : Nat) : Prop := ∃ o, h.get? d = some o /\ o.ExactDict /\ o.data = .dict es ep
theorem RawD.at {h h' : Heap} {d : Addr} {es : Array DictEntry} {ep : Nat} (x : RawD h d es ep) (e : ∀ o, h.get? d = some o -> h'.get? d = some o) : RawD h' d es ep := let ⟨o, q, r⟩ := x; ⟨o, e o q, r⟩
theorem RawD.ty {s : Shared} {d : Addr} {es : Array DictEntry} {ep : Nat} (x : RawD s.heap d es ep) : s.TypeIs (.ref d) "dict" := let ⟨o, q, c, _⟩ := x; ⟨o, q, c.1⟩
section
variable {prog : Program} {w : World} {A : Around} {E : Value -> Shared -> Prop} {s : Shared} {it d vw : Addr} {i ep : Nat} {es : Array DictEntry} {ok ov : Value}
theorem raw_items (hd : (d == sysModules) = false) : MeetsIn prog w (Builtin.«dict.items» ⟨[.ref d], []⟩) (fun _ R s => (∃ es ep, RawD s.heap d es ep) /\ R (.ok (.ret (.ref s.heap.objs.size))) { s with heap := s.heap.push { cls := .type "dict_items", data := .fields #[.ref d] } }) :=
 .of_wp fun A R s ⟨⟨es, ep, hm⟩, h⟩ => by
  unfold Builtin.«dict.items» Builtin.Dict.noArgs
  refine wpAny_bind (wpAny_bind (wpAny_notOrdered_dict hm.ty ?_)); show wpAny _ _ (pure d) _ _ s
  refine wpAny_pure ?_; show wpAny _ _ (Builtin.Dict.showsAll d >>= _) _ _ s
  unfold Builtin.Dict.showsAll
  rw [if_neg (show ¬ ((d == sysModules) = true) by rw [hd]; simp)]
  exact wpAny_bind (wpAny_pure (wpAny_bind (wpAny_newObj_type (wpAny_pure ⟨_, rfl, h⟩))))
theorem raw_iter {Q : Value -> Shared -> Prop} (hv : s.heap.IsItemsView vw d) (hm : RawD s.heap d es ep)
  (q : Q (.ref s.heap.objs.size) { s with heap := s.heap.push { cls := .type "dict_itemiterator", data := .fields #[.none, .bool false, .ref d, .int 0 0, .int es.size 0, .int ep 0, .none, .none] } }) : wpAny (model prog w) A (pyIter (.ref vw)) Q E s := by
 obtain ⟨o1, g1, c1, f1⟩ := id hv
 obtain ⟨o2, g2, c2, f2⟩ := id hm
 refine wpAny_pyIter_slot hv.typeIs F.slot_dict_items_iter (wpAny_call_entry F.slot_dict_items_iter hv.typeIs F.entry_dict_items_iter (?_) (F.args_dict_items_iter_1 (_)))
 unfold Builtin.«dict_items.__iter__» Builtin.Dict_items.dictOf Builtin.Dict_items.newIterator
 refine wpAny_bind (wpAny_pure (wpAny_bind (wpAny_bind (wpAny_field g1 f1 (x := .ref d) rfl (wpAny_pure (wpAny_bind (wpAny_bind (wpAny_dictEntries g2 f2 (wpAny_bind (wpAny_dictEpoch g2 f2 ?_))))))))))
 have hown : (Builtin.Dict_items.ownsTuple "dict_itemiterator") = true := by decide
 simp only [hown, if_true]
 refine wpAny_newObj_type (wpAny_pure ⟨_, rfl, "dict_itemiterator", _, ⟨_, Heap.get?_push_size (_) rfl, rfl⟩, F.slot_dict_itemiterator_next.lookup, (?_)⟩) (by
  simp only [sizeOk, Builtin.Dict_items.ownedTupleFields, List.size_toArray, List.length_append, List.length_cons, List.length_nil, sizeLine_eq]
  omega)
 simpa [rawInt, Builtin.Dict_items.ownedTupleFields] using q
theorem raw_next {Q : Option Value -> Shared -> Prop} (hit : IsItemIter s.heap it d i es.size ep ok ov) (hm : RawD s.heap d es ep) (hi : i < es.size)
  (q : ∀ h', IsItemIterOut h' it d (i + 1) es.size ep es[i].key es[i].val s.heap.objs.size -> h'.get? s.heap.objs.size = some { cls := .type "tuple", data := .seq #[es[i].key, es[i].val] } ->
   (∀ b o, b ≠ it -> s.heap.get? b = some o -> h'.get? b = some o) -> Q (some (.ref s.heap.objs.size)) { s with heap := h' }) : wpAny (model prog w) A (pyNext (.ref it)) Q E s := by
 obtain ⟨h0, g, dr, tk, os⟩ := s
 obtain ⟨o2, g2, c2, f2⟩ := id hm
 have ty : Shared.TypeIs ⟨h0, g, dr, tk, os⟩ (.ref it) "dict_itemiterator" := ⟨_, hit, rfl⟩
 have hown : (Builtin.Dict_items.ownsTuple "dict_itemiterator") = true := by decide
 unfold pyNext
 refine wpAny_bind (wpAny_attempt (wpAny_callSpecial?_slot (name := Str.ofString "__next__") ty F.slot_dict_itemiterator_next (wpAny_call_entry F.slot_dict_itemiterator_next ty F.entry_dict_itemiterator_next ?_ (F.args_dict_itemiterator_next_1 _))))
 refine wpAny_bind (wpAny_pure (wpAny_bind (wpAny_bind ?_)))
 first | refine wpAny_bind (wpAny_typeNameOfWhole_itemiter ty (wpAny_pure (wpAny_bind (wpAny_fieldsOf hit rfl ?_)))) | refine wpAny_bind (wpAny_typeNameOf_itemiter ty (wpAny_pure (wpAny_bind (wpAny_fieldsOf hit rfl ?_))))
 simp only [hown, if_true]
 show wpAny _ _ (if (Value.ref d == .none) = true then _ else _) _ _ _
 rw [if_neg (show ¬ ((Value.ref d == .none) = true) from Bool.false_ne_true)]
 refine wpAny_bind (wpAny_pure (wpAny_bind (wpAny_dictEntries g2 f2 ?_)))
 rw [if_neg (show ¬ _ by simp)]
 refine wpAny_bind (wpAny_pure (wpAny_bind (wpAny_dictEpoch g2 f2 ?_)))
 rw [if_neg (show ¬ _ by simp)]
 refine wpAny_pure ?_
 simp only [show ¬ ((i : Int) < 0) by omega, if_false, Int.toNat_natCast, Array.getElem?_eq_getElem hi]
 refine wpAny_bind ?_
 first | refine wpAny_bind (wpAny_typeNameOfWhole_itemiter ty (wpAny_pure (wpAny_bind (wpAny_isOneOf_itemiter ty ?_)))) | refine wpAny_bind (wpAny_typeNameOf_itemiter ty (wpAny_pure (wpAny_bind (wpAny_isOneOf_itemiter ty ?_))))
 show wpAny _ _ (setField (.ref it) 3 (rawInt ((i : Int) + 1)) >>= _) _ _ (⟨h0, g, dr, tk, os⟩ : Shared)
 refine wpAny_bind (wpAny_setField_rec hit (by simp) fun ha ia sa => ?_)
 have sa : Heap.SameBut it h0 ha := sa
 have ia : IsItemIter ha it d (i + 1) es.size ep ok ov := by
  have e : ((i + 1 : Nat) : Int) = (i : Int) + 1 := rfl
  unfold IsItemIter; rw [e]; simpa [rawInt] using ia
 have tya : Shared.TypeIs ⟨ha, g, dr, tk, os⟩ (.ref it) "dict_itemiterator" := ⟨_, ia, rfl⟩
 refine wpAny_bind (wpAny_holding (wpAny_bind (wpAny_isOneOf_itemiter tya (wpAny_bind (wpAny_isOneOf_itemiter tya ?_)))))
 show wpAny _ _ (Builtin.Dict_items.pairFromOwner (.ref it) 6 es[i].key es[i].val) _ _ (⟨ha, g, dr, tk, os⟩ : Shared)
 unfold Builtin.Dict_items.pairFromOwner
 refine wpAny_bind (wpAny_newTuple ?_)
 have za : ha.objs.size = h0.objs.size := sa.1
 have lt : it < h0.objs.size := Heap.lt_size hit
 have ne : h0.objs.size ≠ it := Nat.ne_of_gt lt
 obtain ⟨hb, ehb⟩ : ∃ hb, hb = ha.push { cls := .type "tuple", data := .seq #[es[i].key, es[i].val] } := ⟨_, rfl⟩
 have ib : IsItemIter hb it d (i + 1) es.size ep ok ov := by rw [ehb]; exact Heap.get?_push_of_some _ ia
 have tb : hb.get? h0.objs.size = some { cls := .type "tuple", data := .seq #[es[i].key, es[i].val] } := by rw [ehb, <- za]; exact Heap.get?_push_size _ rfl
 have kb : ∀ b o, b ≠ it -> h0.get? b = some o -> hb.get? b = some o := fun b o n e => by rw [ehb]; exact Heap.get?_push_of_some _ (sa.extBut b o n e)
 rw [<- ehb]
 show wpAny _ _ (Builtin.Dict_items.ownedTupleIsFree (.ref it) >>= _) _ _ (⟨hb, g, dr, tk, os⟩ : Shared)
 rw [za]
 unfold Builtin.Dict_items.ownedTupleIsFree
 refine wpAny_bind (wpAny_bind (wpAny_field ib rfl (x := .none) rfl (wpAny_pure ?_)))
 simp only [if_true]
 refine wpAny_bind (wpAny_field ib rfl (x := ok) rfl (wpAny_bind (wpAny_field ib rfl (x := ov) rfl (wpAny_bind (wpAny_setField_rec ib (by simp) fun hc ic sc => ?_)))))
 have sc : Heap.SameBut it hb hc := sc
 have ic : IsItemIter hc it d (i + 1) es.size ep es[i].key ov := ic
 refine wpAny_bind (wpAny_setField_rec ic (by simp) fun hd' id' sd => ?_)
 have sd : Heap.SameBut it hc hd' := sd
 have id' : IsItemIter hd' it d (i + 1) es.size ep es[i].key es[i].val := id'
 refine wpAny_bind (wpAny_setField_rec id' (by simp) fun he ie se => ?_)
 have se : Heap.SameBut it hd' he := se
 have ie : IsItemIterOut he it d (i + 1) es.size ep es[i].key es[i].val h0.objs.size := ie
 refine wpAny_bind (wpAny_setField_rec ie (by simp) fun hf jf sf => ?_)
 have sf : Heap.SameBut it he hf := sf
 have jf : IsItemIterOut hf it d (i + 1) es.size ep es[i].key es[i].val h0.objs.size := jf
 have up : ∀ b o, b ≠ it -> hb.get? b = some o -> hf.get? b = some o := fun b o n e => sf.extBut b o n (se.extBut b o n (sd.extBut b o n (sc.extBut b o n e)))
 exact wpAny_bind (wpAny_letGo (wpAny_pure (wpAny_pure ⟨_, rfl, wpAny_pure (q hf jf (up _ _ ne tb) fun b o n e => up b o n (kb b o n e))⟩)))
theorem raw_end {Q : Option Value -> Shared -> Prop} (hh : A.handled = none) (hit : IsItemIter s.heap it d i es.size ep ok ov) (hm : RawD s.heap d es ep) (hi : es.size <= i)
  (q : ∀ h', Heap.ExtBut it s.heap h' -> Q none { s with heap := h' }) : wpAny (model prog w) A (pyNext (.ref it)) Q E s := by
 obtain ⟨o2, g2, c2, f2⟩ := id hm
 have ty : s.TypeIs (.ref it) "dict_itemiterator" := ⟨_, hit, rfl⟩
 have hown : (Builtin.Dict_items.ownsTuple "dict_itemiterator") = true := by decide
 unfold pyNext
 refine wpAny_bind (wpAny_attempt (wpAny_callSpecial?_slot (name := Str.ofString "__next__") ty F.slot_dict_itemiterator_next (wpAny_call_entry F.slot_dict_itemiterator_next ty F.entry_dict_itemiterator_next ?_ (F.args_dict_itemiterator_next_1 _))))
 refine wpAny_bind (wpAny_pure (wpAny_bind (wpAny_bind ?_)))
 first | refine wpAny_bind (wpAny_typeNameOfWhole_itemiter ty (wpAny_pure (wpAny_bind (wpAny_fieldsOf hit rfl ?_)))) | refine wpAny_bind (wpAny_typeNameOf_itemiter ty (wpAny_pure (wpAny_bind (wpAny_fieldsOf hit rfl ?_))))
 simp only [hown, if_true]
 show wpAny _ _ (if (Value.ref d == .none) = true then _ else _) _ _ _
 rw [if_neg (show ¬ ((Value.ref d == .none) = true) from Bool.false_ne_true)]
 refine wpAny_bind (wpAny_pure (wpAny_bind (wpAny_dictEntries g2 f2 ?_)))
 rw [if_neg (show ¬ _ by simp)]
 refine wpAny_bind (wpAny_pure (wpAny_bind (wpAny_dictEpoch g2 f2 ?_)))
 rw [if_neg (show ¬ _ by simp)]
 refine wpAny_pure ?_
 simp only [show ¬ ((i : Int) < 0) by omega, if_false, Int.toNat_natCast, Array.getElem?_eq_none hi]
 refine wpAny_bind ?_
 first | refine wpAny_bind (wpAny_typeNameOfWhole_itemiter ty (wpAny_pure ?_)) | refine wpAny_bind (wpAny_typeNameOf_itemiter ty (wpAny_pure ?_))
 show wpAny _ _ (setField (.ref it) 2 .none >>= _) _ _ (s)
 refine wpAny_bind (wpAny_setField hit rfl (by simp) (show wpAny _ _ (newExc (.type "StopIteration") [] >>= _) _ _ _ from wpAny_bind ?_))
 simp only [newExc, newTuple]
 refine wpAny_bind (wpAny_newObj_type (wpAny_bind (m := firstArgMember _ _) (wpAny_of_eq (a := Value.none) (by first | rfl | (simp only [firstArgMember]; rfl)) (wpAny_newObj_type ?_ (by size_fits)))) (by size_fits))
 simp only [raiseNew]
 refine wpAny_bind (wpAny_handled ?_)
 rw [show (Around.in1 A).handled = none from hh]
 refine wpAny_bind (wpAny_pure (wpAny_throw (?_)))
 refine wpAny_bind (wpAny_isInstance (b := true) (T := "StopIteration") ⟨_, Heap.get?_push_size _ rfl, rfl⟩ isSubtype_stop (?_))
 exact wpAny_pure (q _ (((Heap.SameBut.update ..).extBut.push _).push _))
end
end L2
namespace L2
open PySem PySem.Spec PyProof.Rows
noncomputable def isDk : HO -> Bool
 | .dK _ => true
 | .dT _ => true
 | _ => false
section
variable {X : Cx} {pins : List (Addr × Obj)} {σ : St} {H : Hp} {s : Shared} {d : Addr} {u : HO} {o : Obj}
theorem ne_dk (hd : H d = some u) (hu : isDk u = true) : ∀ c v, H c = some v -> isDk v = false -> c ≠ d := fun c v e f z => by
 subst z; rw [hd] at e; cases e; rw [hu] at f; cases f
theorem Inv.freeze (I : Inv X pins σ H s) (hd : H d = some u) (hu : isDk u = true) (ho : s.heap.get? d = some o) : Inv X pins σ (upd H d (.frz o u)) s := by
 have mu : Mut (H d) := by rw [hd]; cases u <;> first | trivial | (simp [isDk] at hu)
 refine I.write (x := d) (e := d) (o := .frz o u) (h' := s.heap) (t' := s.toks) mu (.inl rfl) (fun _ _ _ q => q) ⟨o, ho⟩ ⟨ho, ?_⟩
 exact (I.hok d u hd).stay (fun _ _ _ q => q) (fun c q => by rw [upd_ne (ne_dk hd hu c _ q rfl)]; exact q) fun c xs q => by rw [upd_ne (ne_dk hd hu c _ q rfl)]; exact q
theorem Inv.unfrozen (I : Inv X pins σ H s) (hd : H d = some u) (hu : isDk u = true) (ob : Obj) (v : HO) : X.H₀ d ≠ some (.frz ob v) := fun e => by
 have z := I.base.frzs d ob v e
 rw [hd] at z; cases z; cases hu
theorem Inv.thaw (I : Inv X pins σ H s) (hd : H d = some (.frz o u)) (h0 : ∀ ob v, X.H₀ d ≠ some (.frz ob v)) : Inv X pins σ (upd H d u) s := by
 have ne : ∀ c v, H c = some v -> (∀ ob w, v ≠ .frz ob w) -> c ≠ d := fun c v e f z => by
  subst z; rw [hd] at e; cases e; exact f _ _ rfl
 have nn : ∀ c, H c = none -> c ≠ d := fun c e z => by subst z; rw [hd] at e; cases e
 refine ⟨I.ok, I.os, I.bare, ⟨I.base.keep, I.base.slot, fun b ob e n hx => ?_, I.base.there, fun b xs e => ?_, fun b ob w e => ?_, fun b ps e => ?_⟩, I.loc, I.cell, ?_, fun x c e => ?_, fun p hp => ?_, fun b w e => ?_, I.len⟩
 ·have q := I.base.free b ob e n hx
  rw [upd_ne (nn b q)]; exact q
 ·have q := I.base.tups b xs e
  rw [upd_ne (ne b _ q fun _ _ z => by cases z)]; exact q
 ·have q := I.base.frzs b ob w e
  rw [upd_ne (fun z => h0 ob w (by rw [<- z]; exact e))]; exact q
 ·obtain ⟨m, q⟩ := I.base.tbls b ps e
  exact ⟨m, by rw [upd_ne (ne b _ q fun _ _ z => by cases z)]; exact q⟩
 ·rw [upd_ne (nn _ I.free)]; exact I.free
 ·rw [upd_ne (nn _ (I.freeC x c e))]; exact I.freeC x c e
 ·obtain ⟨e1, e2, e3⟩ := I.pin p hp
  exact ⟨e1, by rw [upd_ne (nn _ e2)]; exact e2, e3⟩
 ·have go : ∀ {a : Addr} {v : HO}, ObjOk X.prog X.w H s.heap a v -> ObjOk X.prog X.w (upd H d u) s.heap a v := fun q =>
   q.stay (fun _ _ _ q => q) (fun c q => by rw [upd_ne (ne c _ q fun _ _ z => by cases z)]; exact q) fun c xs q => by rw [upd_ne (ne c _ q fun _ _ z => by cases z)]; exact q
  by_cases z : b = d
  ·subst z; rw [upd_same] at e; cases e
   exact go (I.hok b _ hd).2
  ·rw [upd_ne z] at e
   exact go (I.hok b w e)
noncomputable def thawE (d : Addr) (D : Ends) : Ends where
 nx := fun σ H => ∃ o u, H d = some (.frz o u) /\ D.nx σ (upd H d u)
 rt := fun v H => ∃ o u, H d = some (.frz o u) /\ D.rt v (upd H d u)
 bk := fun σ H => ∃ o u, H d = some (.frz o u) /\ D.bk σ (upd H d u)
 ct := fun σ H => ∃ o u, H d = some (.frz o u) /\ D.ct σ (upd H d u)
noncomputable def tThaw (t : TS) : TS := fun D σ H => ∃ d u, H d = some u /\ isDk u = true /\ t (thawE d D) σ H
theorem ps_thaw {st : Stmt} {t : TS} (h : PS X st t) : PS X st (tThaw t) := by
 intro pins s σ H D I hq
 obtain ⟨d, u, hd, hu, ht⟩ := hq
 have h0 := I.unfrozen hd hu
 refine thn (h pins s σ H _ I ht) fun f s1 q => ?_
 cases f with
 | next => obtain ⟨σ', H', I', o, v, e, q⟩ := q; exact ⟨σ', _, I'.thaw e h0, q⟩
 | brk => obtain ⟨σ', H', I', o, v, e, q⟩ := q; exact ⟨σ', _, I'.thaw e h0, q⟩
 | cont => obtain ⟨σ', H', I', o, v, e, q⟩ := q; exact ⟨σ', _, I'.thaw e h0, q⟩
 | ret w => obtain ⟨x, σ', H', I', r, o, v, e, q⟩ := q; exact ⟨x, σ', _, I'.thaw e h0, r, q⟩
noncomputable def tThawE (t : TE) : TE := fun σ H Q => ∃ d u, H d = some u /\ isDk u = true /\ t σ H fun v H1 => ∃ o w, H1 d = some (.frz o w) /\ Q v (upd H1 d w)
theorem pe_thaw {e : Expr} {t : TE} (h : PE X e t) : PE X e (tThawE t) := by
 intro pins s σ H Q I hq
 obtain ⟨d, u, hd, hu, ht⟩ := hq
 have h0 := I.unfrozen hd hu
 refine thn (h pins s σ H _ I ht) fun v s1 q => ?_
 obtain ⟨x, H', I', r, o, w, e, q⟩ := q
 exact ⟨x, _, I'.thaw e h0, r, q⟩
noncomputable abbrev PsRel (ps : List (V × V)) (es : List DictEntry) : Prop := Paired (fun p e => RelV p.1 e.key /\ RelV p.2 e.val) ps es
noncomputable def Pss (H : Hp) : HO -> List (V × V) -> Prop
 | .dK kvs, ps => ps = kvs.map fun kv => (kV kv.1, kv.2)
 | .dT kvs, ps => Paired (fun kv p => ∃ b, p = (V.ref b, kv.2) /\ H b = some (.tup (kv.1.map kV))) kvs ps
 | _, _ => False
theorem ps_of_pairs {P : Program} {w : World} : ∀ {kvs : List (Key × V)} {vs : List (Key × Value)} {es : List DictEntry}, KV kvs vs -> Pairs (mixKind P w) es vs -> PsRel (kvs.map fun kv => (kV kv.1, kv.2)) es
 | [], [], _, _, p => by cases p; exact .nil
 | [], _ :: _, _, r, _ => nomatch r
 | _ :: _, [], _, r, _ => nomatch r
 | kv :: kvs, v :: vs, es, .cons h r, p => by
  cases p with
  | cons a b c =>
   refine .cons ⟨?_, ?_⟩ (ps_of_pairs r c)
   ·have a := a
    rw [<- h.1] at a
    rcases keyIs_shape a with ⟨i, t, e1, e2⟩ | ⟨x, t, e1, e2⟩
    ·show RelV (kV kv.1) _; rw [e1, e2]; exact ⟨t, rfl⟩
    ·show RelV (kV kv.1) _; rw [e1, e2]; exact ⟨t, rfl⟩
   ·rw [b]; exact h.2
theorem ps_of_keys {P : Program} {w : World} {H : Hp} : ∀ {kvs : List (List Key × V)} {xs : List (List Key × Addr × Value)}, KT H kvs xs -> ∃ ps, Paired (fun kv p => ∃ b, p = (V.ref b, kv.2) /\ H b = some (.tup (kv.1.map kV))) kvs ps /\ PsRel ps (xs.map (entryOfKey (tupleKind (mixKind P w))))
 | _, _, .nil => ⟨[], .nil, .nil⟩
 | kv :: _, x :: _, .cons h r => by
  obtain ⟨ps, h1, h2⟩ := ps_of_keys (P := P) (w := w) r
  exact ⟨(.ref x.2.1, kv.2) :: ps, .cons ⟨x.2.1, rfl, h.2.1⟩ h1, .cons ⟨rfl, h.2.2⟩ h2⟩
theorem Inv.raw (I : Inv X pins σ H s) (hd : H d = some u) (hu : isDk u = true) : ∃ o es ep ps, s.heap.get? d = some o /\ o.ExactDict /\ o.data = .dict es ep /\ (d == sysModules) = false /\ Pss H u ps /\ PsRel ps es.toList := by
 have ok := I.hok d u hd
 cases u with
 | dK kvs =>
  obtain ⟨_, hs, vs, kv, o, es, ep, g, ex, dat, _, pr, _⟩ := ok
  exact ⟨o, es, ep, _, g, ex, dat, hs, rfl, ps_of_pairs kv pr⟩
 | dT kvs =>
  obtain ⟨_, hs, xs, kt, o, es, ep, g, ex, dat, he, _⟩ := ok
  obtain ⟨ps, h1, h2⟩ := ps_of_keys (P := X.prog) (w := X.w) kt
  exact ⟨o, es, ep, ps, g, ex, dat, hs, h1, by rw [he]; exact h2⟩
 | _ => cases hu
noncomputable def ItD (d : Addr) (o : Obj) (u : HO) (ps : List (V × V)) : It :=
 ⟨fun i H => i < ps.length /\ H d = some (.frz o u), fun i H x H' => ∃ k v T, ps[i]? = some (k, v) /\ x = .ref T /\ H T = none /\ H' = upd H T (.tup [k, v]), fun i H => i = ps.length /\ H d = some (.frz o u)⟩
theorem pair_at {α β : Type} {F : α -> β -> Prop} : ∀ {xs : List α} {ys : List β} {i : Nat} {x : α}, Paired F xs ys -> xs[i]? = some x -> ∃ y, ys[i]? = some y /\ F x y
 | _, _, _, _, .nil, e => by simp at e
 | _, _, 0, _, .cons r _, e => by simp at e; subst e; exact ⟨_, rfl, r⟩
 | _, _, i + 1, x, .cons _ t, e => by
  obtain ⟨u, h1, h2⟩ := pair_at (i := i) (x := x) t (by simpa using e)
  exact ⟨u, by simpa using h1, h2⟩
theorem turn_items {P : Program} {w : World} {K : PySem.W.Frag} {elts : List Expr} {kk : Nat} {pos : Pos} {d it : Addr} {o : Obj} {u : HO} {ps : List (V × V)} {es : Array DictEntry} {ep : Nat} (hx : o.ExactDict) (dat : o.data = .dict es ep) (rel : PsRel ps es.toList) :
  Turn P w K (.Tuple elts kk pos) (ItD d o u ps) [it] it (fun i h => ∃ ok ov, IsItemIter h it d i es.size ep ok ov) where
 mem := by simp
 obj := fun i h st b hb => by
  have e : b = it := by simpa using hb
  subst e
  obtain ⟨ok, ov, st⟩ := st
  exact ⟨_, st, fun v z => by cases z⟩
 keep := fun i h h' st k => let ⟨ok, ov, st⟩ := st; ⟨ok, ov, k it (by simp) _ st⟩
 item := by
  intro X hP hw hK hc i pins s σ H E I hf st hg
  subst hP hw hK
  obtain ⟨f0, f1, _, f3, f4, f5⟩ := hf it (by simp)
  obtain ⟨ok, ov, st⟩ := st
  obtain ⟨hi, hd⟩ := hg
  have hlen : ps.length = es.size := by rw [rel.length]; simp
  have hi' : i < es.size := by omega
  refine raw_next st ⟨o, (I.hok d _ hd).1, hx, dat⟩ hi' fun h' jo ht kk => ?_
  refine ⟨_, rfl, wpAny_letOwnedTupleGo_items jo fun h2 he2 sb => ?_⟩
  obtain ⟨p, hp⟩ : ∃ p, ps[i]? = some p := ⟨ps[i], by simp [hi]⟩
  obtain ⟨e', he', rk, rv⟩ := pair_at rel hp
  have ee : e' = es[i] := by
   have : es.toList[i]? = some es[i] := by simp [hi']
   rw [this] at he'; exact (Option.some.inj he').symm
  subst ee
  have nT : s.heap.objs.size ≠ it := Nat.ne_of_gt (Heap.lt_size st)
  have I1 : Inv X pins σ H { s with heap := h2, toks := s.toks } := I.turned (fun b ob hb e => sb.extBut b ob hb (kk b ob hb e)) f0 f1 f3 f4 f5
  have hT2 : h2.get? s.heap.objs.size = some { cls := .type "tuple", data := .seq #[es[i].key, es[i].val] } := sb.extBut _ _ nT ht
  obtain ⟨g0, g1, _, _, g4, g5⟩ := I.fpOk (Nat.le_refl _) I.fresh
  have I2 := I1.track (a := s.heap.objs.size) (o := .tup [p.1, p.2]) g0 (by
   cases q : X.s₀.heap.get? s.heap.objs.size with
   | none => rfl
   | some ob => exact absurd (Nat.lt_of_lt_of_le (Heap.lt_size q) I.sz) (Nat.lt_irrefl _)) g1 g4 g5 ⟨small1000 (by simp) |> Nat.le_of_lt, [es[i].key, es[i].val], .cons rk (.cons rv .nil), ⟨_, hT2, rfl, _, rfl⟩⟩
  refine ⟨.ref _, _, I2, rfl, ⟨p.1, p.2, _, hp, rfl, g0, rfl⟩, ⟨_, _, he2⟩, fun b hb => ?_⟩
  have e : b = it := by simpa using hb
  subst e
  rw [upd_ne (Ne.symm nT)]; exact f0
 done := by
  intro X hP hw hK hc i pins s σ H E I hf st hg
  subst hP hw hK
  obtain ⟨f0, f1, _, f3, f4, f5⟩ := hf it (by simp)
  obtain ⟨ok, ov, st⟩ := st
  obtain ⟨hi, hd⟩ := hg
  have hlen : ps.length = es.size := by rw [rel.length]; simp
  exact raw_end (I.ok.hd hc) st ⟨o, (I.hok d _ hd).1, hx, dat⟩ (by rw [hi, hlen]; exact Nat.le_refl _) fun h' eb => ⟨rfl, I.turned (t' := s.toks) (fun b ob hb e => eb b ob hb e) f0 f1 f3 f4 f5⟩
 self := fun A i s Q E st h => let ⟨_, _, st⟩ := st; PySem.W.kcp_self st h
noncomputable def viewO (v d : Addr) : HO := .ext fun h => h.IsItemsView v d
noncomputable def rItems : V -> List V -> Hp -> VK -> Prop := fun x vs H Q => ∃ d u, x = .ref d /\ vs = [] /\ H d = some u /\ isDk u = true /\ ∀ p, H p = none -> Q (.ref p) (upd H p (viewO p d))
theorem mt_items : MtR X "dict.items" rItems := by
 intro pins s σ H x xs v us Q I rx rv h
 obtain ⟨d, u, rfl, rfl, hd, hu, q⟩ := h
 cases rx
 cases rv
 obtain ⟨o, es, ep, ps, g, ex, dat, hs, _, _⟩ := I.raw hd hu
 have rw0 : RawD s.heap d es ep := ⟨o, g, ex, dat⟩
 refine call_meetsIn PySem.F.slot_dict_items rw0.ty PySem.F.entry_dict_items (PySem.F.args_dict_items_1 (_)) (raw_items hs) ⟨⟨es, ep, rw0⟩, ?_⟩
 refine ⟨.ref _, _, I.laid (t' := s.toks) (o := viewO s.heap.objs.size d) (fun b ob e => Heap.get?_push_of_some _ e) (Nat.le_refl _) ?_, rfl, q _ I.fresh⟩
 exact ⟨⟨_, Heap.get?_push_size _ rfl, rfl, rfl⟩, ⟨_, Heap.get?_push_size _ rfl⟩, fun h1 h2 ⟨ob, e, c⟩ k => ⟨ob, k ob e, c⟩⟩
noncomputable def iItems (tl : TE) : TI := fun σ H R => tl σ H fun x H1 => ∃ v d u, x = .ref v /\ H1 v = some (viewO v d) /\ H1 d = some u /\ isDk u = true /\ ∀ o ps, Pss H1 u ps -> R (ItD d o u ps) (upd H1 d (.frz o u))
theorem pi_items {elts : List Expr} {kk : Nat} {pos : Pos} {l : Expr} {tl : TE} (hl : PE X l tl) : PI X (.Tuple elts kk pos) l (iItems tl) := by
 intro pins s σ H R I h
 refine thn (hl pins s σ H _ I h) fun v s1 ⟨x, H1, I1, r1, q1⟩ => ?_
 obtain ⟨vw, d, u, rfl, hv, hd, hu, q⟩ := q1
 cases r1
 obtain ⟨o, es, ep, ps, g, ex, dat, hs, hps, rel⟩ := I1.raw hd hu
 have hv' : s1.heap.IsItemsView vw d := (I1.hok vw _ hv).1
 refine raw_iter hv' ⟨o, g, ex, dat⟩ ?_
 have I2 : Inv X pins σ H1 _ := I1.kept (t' := s1.toks) (h' := s1.heap.push { cls := .type "dict_itemiterator", data := .fields #[.none, .bool false, .ref d, .int 0 0, .int es.size 0, .int ep 0, .none, .none] }) fun b ob e => Heap.get?_push_of_some _ e
 refine ⟨s1.heap.objs.size, [s1.heap.objs.size], _, _, _, rfl, I2.freeze hd hu (Heap.get?_push_of_some _ g), turn_items ex dat rel, ⟨_, _, Heap.get?_push_size _ rfl⟩, fun b hb => ?_, q o ps hps⟩
 have e : b = s1.heap.objs.size := by simpa using hb
 subst e
 exact I1.fpOk (Nat.le_refl _) (by rw [upd_ne (ne_of_none hd I1.fresh).symm]; exact I1.fresh)
end
end L2
namespace L2
open PySem PySem.Spec PyProof.Rows
section
variable {prog : Program} {w : World} {A : Around} {E : Value -> Shared -> Prop} {s : Shared} {it d vw : Addr} {i ep : Nat} {es : Array DictEntry}
theorem raw_values (hd : (d == sysModules) = false) : MeetsIn prog w (Builtin.«dict.values» ⟨[.ref d], []⟩) (fun _ R s => (∃ es ep, RawD s.heap d es ep) /\ R (.ok (.ret (.ref s.heap.objs.size))) { s with heap := s.heap.push { cls := .type "dict_values", data := .fields #[.ref d] } }) :=
 .of_wp fun A R s ⟨⟨es, ep, hm⟩, h⟩ => by
  refine wpAny_bind (?_); unfold Builtin.Dict.noArgs
  refine wpAny_bind (wpAny_notOrdered_dict hm.ty ?_); show wpAny _ _ (pure d) _ _ s
  refine wpAny_pure ?_; show wpAny _ _ (Builtin.Dict.showsAll d >>= _) _ _ s
  unfold Builtin.Dict.showsAll
  rw [if_neg (show ¬ ((d == sysModules) = true) by rw [hd]; simp)]
  exact wpAny_bind (wpAny_pure (wpAny_bind (wpAny_newObj_type (wpAny_pure ⟨_, rfl, h⟩))))
theorem raw_viter {Q : Value -> Shared -> Prop} (hv : s.heap.IsValuesView vw d) (hm : RawD s.heap d es ep)
  (q : Q (.ref s.heap.objs.size) { s with heap := s.heap.push { cls := .type "dict_valueiterator", data := .fields #[.ref d, .int 0 0, .int es.size 0, .int ep 0] } }) : wpAny (model prog w) A (pyIter (.ref vw)) Q E s := by
 obtain ⟨o1, g1, c1, f1⟩ := id hv
 obtain ⟨o2, g2, c2, f2⟩ := id hm
 refine wpAny_pyIter_slot hv.typeIs F.slot_dict_values_iter (wpAny_call_entry F.slot_dict_values_iter hv.typeIs F.entry_dict_values_iter (?_) (F.args_dict_values_iter_1 (_)))
 unfold Builtin.«dict_values.__iter__» Builtin.Dict_items.dictOf Builtin.Dict_items.newIterator
 refine wpAny_bind (wpAny_pure (wpAny_bind (wpAny_bind (wpAny_field g1 f1 (x := .ref d) rfl (wpAny_pure (wpAny_bind (wpAny_bind (wpAny_dictEntries g2 f2 (wpAny_bind (wpAny_dictEpoch g2 f2 ?_))))))))))
 have hown : (Builtin.Dict_items.ownsTuple "dict_valueiterator") = false := by decide
 simp only [hown, Bool.false_eq_true, if_false]
 refine wpAny_newObj_type (wpAny_pure ⟨_, rfl, "dict_valueiterator", _, ⟨_, Heap.get?_push_size (_) rfl, rfl⟩, F.slot_dict_valueiterator_next.lookup, (?_)⟩)
 simpa [rawInt] using q
theorem raw_vnext {Q : Option Value -> Shared -> Prop} (hit : s.heap.IsValIter it d i es.size ep) (hm : RawD s.heap d es ep) (hi : i < es.size)
  (q : ∀ h', h'.IsValIter it d (i + 1) es.size ep -> Heap.SameBut it s.heap h' -> Q (some es[i].val) { s with heap := h' }) : wpAny (model prog w) A (pyNext (.ref it)) Q E s := by
 obtain ⟨o, ho, hc, hd⟩ := id hit
 obtain ⟨o2, g2, c2, f2⟩ := id hm
 have hown : (Builtin.Dict_items.ownsTuple "dict_valueiterator") = false := by decide
 unfold pyNext
 refine wpAny_bind (wpAny_attempt (wpAny_callSpecial?_slot (name := Str.ofString "__next__") hit.typeIs F.slot_dict_valueiterator_next (wpAny_call_entry F.slot_dict_valueiterator_next hit.typeIs F.entry_dict_valueiterator_next ?_ (F.args_dict_valueiterator_next_1 _))))
 refine wpAny_bind (wpAny_pure (wpAny_bind (wpAny_bind ?_)))
 first | refine wpAny_bind (wpAny_typeNameOfWhole_valiter hit.typeIs (wpAny_pure (wpAny_bind (wpAny_fieldsOf ho hd ?_)))) | refine wpAny_bind (wpAny_typeNameOf_valiter hit.typeIs (wpAny_pure (wpAny_bind (wpAny_fieldsOf ho hd ?_))))
 simp only [hown, Bool.false_eq_true, if_false]
 show wpAny _ _ (if (Value.ref d == .none) = true then _ else _) _ _ _
 rw [if_neg (show ¬ ((Value.ref d == .none) = true) from Bool.false_ne_true)]
 refine wpAny_bind (wpAny_pure (wpAny_bind (wpAny_dictEntries g2 f2 ?_)))
 rw [if_neg (show ¬ _ by simp)]
 refine wpAny_bind (wpAny_pure (wpAny_bind (wpAny_dictEpoch g2 f2 ?_)))
 rw [if_neg (show ¬ _ by simp)]
 refine wpAny_pure ?_
 simp only [show ¬ ((i : Int) < 0) by omega, if_false, Int.toNat_natCast, Array.getElem?_eq_getElem hi]
 refine wpAny_bind ?_
 first | refine wpAny_bind (wpAny_typeNameOfWhole_valiter hit.typeIs (wpAny_pure (wpAny_bind (wpAny_isOneOf_valiter hit.typeIs ?_)))) | refine wpAny_bind (wpAny_typeNameOf_valiter hit.typeIs (wpAny_pure (wpAny_bind (wpAny_isOneOf_valiter hit.typeIs ?_))))
 show wpAny _ _ (setField (.ref it) 1 (rawInt ((i : Int) + 1)) >>= _) _ _ (s)
 have st : (s.heap.update it (Obj.mapFields (·.setIfInBounds 1 (rawInt ((i : Int) + 1))))).IsValIter it d (i + 1) es.size ep := ⟨_, Heap.get?_update_self _ ho (Obj.isFreed_of_fields (Obj.data_mapFields hd _)), (Obj.cls_mapFields ..).trans hc, by rw [Obj.data_mapFields hd]; simp [rawInt]⟩
 refine wpAny_bind (wpAny_setField ho hd (by simp) (wpAny_bind (wpAny_holding (wpAny_bind (wpAny_isOneOf_valiter (s := { s with heap := s.heap.update it (Obj.mapFields (·.setIfInBounds 1 (rawInt ((i : Int) + 1)))) }) st.typeIs (wpAny_bind (wpAny_isOneOf_valiter (s := { s with heap := s.heap.update it (Obj.mapFields (·.setIfInBounds 1 (rawInt ((i : Int) + 1)))) }) st.typeIs ?_)))))))
 show wpAny _ _ (pure es[i].val) _ _ (_)
 exact wpAny_pure (wpAny_pure ⟨_, rfl, wpAny_pure (q _ st (Heap.SameBut.update ..))⟩)
theorem raw_vend {Q : Option Value -> Shared -> Prop} (hh : A.handled = none) (hit : s.heap.IsValIter it d i es.size ep) (hm : RawD s.heap d es ep) (hi : es.size <= i)
  (q : ∀ h', Heap.ExtBut it s.heap h' -> Q none { s with heap := h' }) : wpAny (model prog w) A (pyNext (.ref it)) Q E s := by
 obtain ⟨o, ho, hc, hd⟩ := id hit
 obtain ⟨o2, g2, c2, f2⟩ := id hm
 have hown : (Builtin.Dict_items.ownsTuple "dict_valueiterator") = false := by decide
 unfold pyNext
 refine wpAny_bind (wpAny_attempt (wpAny_callSpecial?_slot (name := Str.ofString "__next__") hit.typeIs F.slot_dict_valueiterator_next (wpAny_call_entry F.slot_dict_valueiterator_next hit.typeIs F.entry_dict_valueiterator_next ?_ (F.args_dict_valueiterator_next_1 _))))
 refine wpAny_bind (wpAny_pure (wpAny_bind (wpAny_bind ?_)))
 first | refine wpAny_bind (wpAny_typeNameOfWhole_valiter hit.typeIs (wpAny_pure (wpAny_bind (wpAny_fieldsOf ho hd ?_)))) | refine wpAny_bind (wpAny_typeNameOf_valiter hit.typeIs (wpAny_pure (wpAny_bind (wpAny_fieldsOf ho hd ?_))))
 simp only [hown, Bool.false_eq_true, if_false]
 show wpAny _ _ (if (Value.ref d == .none) = true then _ else _) _ _ _
 rw [if_neg (show ¬ ((Value.ref d == .none) = true) from Bool.false_ne_true)]
 refine wpAny_bind (wpAny_pure (wpAny_bind (wpAny_dictEntries g2 f2 ?_)))
 rw [if_neg (show ¬ _ by simp)]
 refine wpAny_bind (wpAny_pure (wpAny_bind (wpAny_dictEpoch g2 f2 ?_)))
 rw [if_neg (show ¬ _ by simp)]
 refine wpAny_pure ?_
 simp only [show ¬ ((i : Int) < 0) by omega, if_false, Int.toNat_natCast, Array.getElem?_eq_none hi]
 refine wpAny_bind ?_
 first | refine wpAny_bind (wpAny_typeNameOfWhole_valiter hit.typeIs (wpAny_pure (?_))) | refine wpAny_bind (wpAny_typeNameOf_valiter hit.typeIs (wpAny_pure (?_)))
 show wpAny _ _ (setField (.ref it) 0 .none >>= _) _ _ (s)
 refine wpAny_bind (wpAny_setField ho hd (by simp) (show wpAny _ _ (newExc (.type "StopIteration") [] >>= _) _ _ _ from wpAny_bind ?_))
 simp only [newExc, newTuple]
 refine wpAny_bind (wpAny_newObj_type (wpAny_bind (m := firstArgMember _ _) (wpAny_of_eq (a := Value.none) (by first | rfl | (simp only [firstArgMember]; rfl)) (wpAny_newObj_type ?_ (by size_fits)))) (by size_fits))
 simp only [raiseNew]
 refine wpAny_bind (wpAny_handled ?_)
 rw [show (Around.in1 A).handled = none from hh]
 refine wpAny_bind (wpAny_pure (wpAny_throw (?_)))
 refine wpAny_bind (wpAny_isInstance (b := true) (T := "StopIteration") ⟨_, Heap.get?_push_size _ rfl, rfl⟩ isSubtype_stop (?_))
 exact wpAny_pure (q _ (((Heap.SameBut.update ..).extBut.push _).push _))
theorem walks_vals (hh : A.handled = none) (I d : Addr) (hne : d ≠ I) (es : Array DictEntry) (ep : Nat) : Walks prog w A I [I, d] [I] es.size (fun i v => ∃ e, es[i]? = some e /\ v = e.val) (fun i h => h.IsValIter I d i es.size ep /\ RawD h d es ep) where
 sub := fun b hb => by simp at hb; simp [hb]
 frame := fun _ _ _ st k => ⟨st.1.at fun o e => k I (by simp) o e, st.2.at fun o e => k d (by simp) o e⟩
 item := fun i s Q E hi st q => raw_vnext st.1 st.2 hi fun h' st' sb => q _ h' s.toks ⟨es[i], by simp [hi], rfl⟩ ⟨st', st.2.at fun o e => sb.extBut d o hne e⟩ fun b o hb e => sb.extBut b o (fun z => hb (by simp [z])) e
 done := fun s Q E st q => raw_vend hh st.1 st.2 (Nat.le_refl _) fun h' eb => q h' s.toks fun b o hb e => eb b o (fun z => hb (by simp [z])) e
 self := fun _ _ _ _ st q => wpAny_pyIter_valiter st.1 q
theorem src_vals : PySem.W.KdlSrc prog w "dict_values" vw d es.size (fun i v => ∃ e, es[i]? = some e /\ v = e.val) (fun h => h.IsValuesView vw d /\ RawD h d es ep) where
 type := fun _ hm => hm.1.typeIs
 there := fun _ hm => ⟨let ⟨_, ho, _⟩ := hm.1; Heap.lt_size ho, let ⟨_, ho, _⟩ := hm.2; Heap.lt_size ho⟩
 keep := fun _ _ hm k => ⟨let ⟨o, ho, x⟩ := hm.1; ⟨o, k vw (.inl rfl) o ho, x⟩, hm.2.at fun o e => k d (.inr rfl) o e⟩
 notList := by decide
 notTuple := by decide
 hint := fun _ _ _ _ hm q => PySem.W.kdl_hint_values hm.1.typeIs q
 iter := fun _ _ hh hm => ⟨_, _, (fun _ _ q => raw_viter hm.1 hm.2 q), walks_vals hh _ d (Nat.ne_of_lt (let ⟨_, ho, _⟩ := hm.2; Heap.lt_size ho)) es ep, ⟨⟨_, Heap.get?_push_size _ rfl, rfl, rfl⟩, hm.2.at fun o e => Heap.get?_push_of_some _ e⟩⟩
end
section
variable {X : Cx} {K : PySem.W.Frag}
noncomputable def valsO (v d : Addr) : HO := .ext fun h => h.IsValuesView v d
noncomputable def rVals : V -> List V -> Hp -> VK -> Prop := fun x vs H Q => ∃ d u, x = .ref d /\ vs = [] /\ H d = some u /\ isDk u = true /\ ∀ p, H p = none -> Q (.ref p) (upd H p (valsO p d))
theorem mt_vals : MtR X "dict.values" rVals := by
 intro pins s σ H x xs v us Q I rx rv h
 obtain ⟨d, u, rfl, rfl, hd, hu, q⟩ := h
 cases rx
 cases rv
 obtain ⟨o, es, ep, ps, g, ex, dat, hs, _, _⟩ := I.raw hd hu
 have rw0 : RawD s.heap d es ep := ⟨o, g, ex, dat⟩
 refine call_meetsIn PySem.F.slot_dict_values rw0.ty PySem.F.entry_dict_values (PySem.F.args_dict_values_1 (_)) (raw_values hs) ⟨⟨es, ep, rw0⟩, ?_⟩
 refine ⟨.ref _, _, I.laid (t' := s.toks) (o := valsO s.heap.objs.size d) (fun b ob e => Heap.get?_push_of_some _ e) (Nat.le_refl _) ?_, rfl, q _ I.fresh⟩
 exact ⟨⟨_, Heap.get?_push_size _ rfl, rfl, rfl⟩, ⟨_, Heap.get?_push_size _ rfl⟩, fun h1 h2 ⟨ob, e, c⟩ k => ⟨ob, k ob e, c⟩⟩
theorem dk_len {H : Hp} {u : HO} {ps : List (V × V)} (h : Pss H u ps) : isDk u = true -> ∀ {X : Cx} {pins : List (Addr × Obj)} {σ : St} {s : Shared} {d : Addr}, Inv X pins σ H s -> H d = some u -> ps.length <= sizeLine := by
 intro hu X pins σ s d I hd
 have ok := I.hok d u hd
 cases u with
 | dK kvs => obtain ⟨z, _⟩ := ok; have h : ps = _ := h; rw [h, List.length_map]; exact z
 | dT kvs => obtain ⟨z, _⟩ := ok; have h : Paired _ kvs ps := h; rw [<- h.length]; exact z
 | _ => cases hu
theorem call_list_vals (hc : X.calm = true) : CallR X (.type "list") (fun xs H Q => ∃ v d u, xs = [V.ref v] /\ H v = some (valsO v d) /\ H d = some u /\ isDk u = true /\ ∀ ps, Pss H u ps -> ∀ l, H l = none -> Q (.ref l) (upd H l (.lst (ps.map (·.2))))) := by
 intro pins s σ H xs us Q I r h
 obtain ⟨v, d, u, rfl, hv, hd, hu, q⟩ := h
 obtain ⟨w0, rfl, rw0⟩ := vals1 r
 cases rw0
 obtain ⟨o, es, ep, ps, g, ex, dat, hs, hps, rel⟩ := I.raw hd hu
 have hl := dk_len hps hu I hd
 have hlen : ps.length = es.size := by rw [rel.length]; simp
 refine PySem.W.kdl_call (src_vals (es := es) (ep := ep)) (I.ok.hd hc) ⟨(I.hok v _ hv).1, ⟨o, g, ex, dat⟩⟩ (by omega) fun h' tk acc c kk hD hacc => ?_
 have vr : Vals (ps.map (·.2)) acc.toList := by
  have e1 : acc.toList = es.toList.map (·.val) := by
   apply List.ext_getElem?
   intro j
   rw [List.getElem?_map]
   by_cases hj : j < es.size
   ·have hj2 : j < acc.size := by rw [hacc.1]; exact hj
    obtain ⟨e, he, hv⟩ := hacc.2 j acc[j] (by simp [hj2])
    have e2 : es.toList[j]? = some e := by simpa using he
    rw [e2]
    simp [hj2, hv]
   ·have hj2 : ¬ j < acc.size := by rw [hacc.1]; exact hj
    rw [List.getElem?_eq_none (by simp; omega), List.getElem?_eq_none (by simp; omega)]; rfl
  rw [e1]
  clear hlen hl hps e1 hacc
  generalize es.toList = el at rel
  induction rel with
  | nil => exact .nil
  | cons h t ih => exact .cons h.2 ih
 refine ⟨.ref _, _, I.laid (a := s.heap.objs.size) (o := .lst (ps.map (·.2))) (t' := tk) kk (Nat.le_refl _) ⟨by rw [List.length_map]; exact hl, acc.toList, c, vr, by simpa using hD⟩, rfl, q ps hps _ I.fresh⟩
end
end L2
namespace L2
open PySem PySem.Spec PyProof.Rows
section
variable {prog : Program} {w : World} {A : Around} {E : Value -> Shared -> Prop} {s : Shared} {it d vw : Addr} {i ep : Nat} {es : Array DictEntry}
theorem raw_kiter {Q : Value -> Shared -> Prop} (hd : (d == sysModules) = false) (hm : RawD s.heap d es ep)
  (q : Q (.ref s.heap.objs.size) { s with heap := s.heap.push { cls := .type "dict_keyiterator", data := .fields #[.ref d, .int 0 0, .int es.size 0, .int ep 0] } }) : wpAny (model prog w) A (pyIter (.ref d)) Q E s := by
 obtain ⟨o2, g2, c2, f2⟩ := id hm
 refine wpAny_pyIter_slot hm.ty F.slot_dict_iter (wpAny_call_entry F.slot_dict_iter hm.ty F.entry_dict_iter (?_) (F.args_dict_iter_1 (_)))
 unfold Builtin.«dict.__iter__» Builtin.Dict.dictSlotNone
 refine wpAny_bind (wpAny_bind (wpAny_notOrdered_dict hm.ty ?_)); show wpAny _ _ (pure (Value.ref d)) _ _ (s)
 refine wpAny_pure ?_; show wpAny _ _ (Builtin.Dict.showsAll d >>= _) _ _ s
 unfold Builtin.Dict.showsAll
 rw [if_neg (show ¬ ((d == sysModules) = true) by rw [hd]; simp)]
 refine wpAny_bind (wpAny_pure (wpAny_bind (wpAny_dictEntries g2 f2 (wpAny_bind (wpAny_dictEpoch g2 f2 (wpAny_bind (wpAny_newObj_type (wpAny_pure ⟨_, rfl, "dict_keyiterator", _, ⟨_, Heap.get?_push_size (_) rfl, rfl⟩, F.slot_dict_keyiterator_next.lookup, (?_)⟩))))))))
 simpa [rawInt] using q
theorem raw_knext {Q : Option Value -> Shared -> Prop} (hit : s.heap.IsKeyIter it d i es.size ep) (hm : RawD s.heap d es ep) (hi : i < es.size)
  (q : ∀ h', h'.IsKeyIter it d (i + 1) es.size ep -> Heap.SameBut it s.heap h' -> Q (some es[i].key) { s with heap := h' }) : wpAny (model prog w) A (pyNext (.ref it)) Q E s := by
 obtain ⟨o, ho, hc, hd⟩ := id hit
 obtain ⟨o2, g2, c2, f2⟩ := id hm
 have hown : (Builtin.Dict_items.ownsTuple "dict_keyiterator") = false := by decide
 unfold pyNext
 refine wpAny_bind (wpAny_attempt (wpAny_callSpecial?_slot (name := Str.ofString "__next__") hit.typeIs F.slot_dict_keyiterator_next (wpAny_call_entry F.slot_dict_keyiterator_next hit.typeIs F.entry_dict_keyiterator_next ?_ (F.args_dict_keyiterator_next_1 _))))
 refine wpAny_bind (wpAny_pure (wpAny_bind (wpAny_bind ?_)))
 first | refine wpAny_bind (wpAny_typeNameOfWhole_keyiter hit.typeIs (wpAny_pure (wpAny_bind (wpAny_fieldsOf ho hd ?_)))) | refine wpAny_bind (wpAny_typeNameOf_keyiter hit.typeIs (wpAny_pure (wpAny_bind (wpAny_fieldsOf ho hd ?_))))
 simp only [hown, Bool.false_eq_true, if_false]
 show wpAny _ _ (if (Value.ref d == .none) = true then _ else _) _ _ _
 rw [if_neg (show ¬ ((Value.ref d == .none) = true) from Bool.false_ne_true)]
 refine wpAny_bind (wpAny_pure (wpAny_bind (wpAny_dictEntries g2 f2 ?_)))
 rw [if_neg (show ¬ _ by simp)]
 refine wpAny_bind (wpAny_pure (wpAny_bind (wpAny_dictEpoch g2 f2 ?_)))
 rw [if_neg (show ¬ _ by simp)]
 refine wpAny_pure ?_
 simp only [show ¬ ((i : Int) < 0) by omega, if_false, Int.toNat_natCast, Array.getElem?_eq_getElem hi]
 refine wpAny_bind ?_
 first | refine wpAny_bind (wpAny_typeNameOfWhole_keyiter hit.typeIs (wpAny_pure (wpAny_bind (wpAny_isOneOf_keyiter hit.typeIs ?_)))) | refine wpAny_bind (wpAny_typeNameOf_keyiter hit.typeIs (wpAny_pure (wpAny_bind (wpAny_isOneOf_keyiter hit.typeIs ?_))))
 show wpAny _ _ (setField (.ref it) 1 (rawInt ((i : Int) + 1)) >>= _) _ _ (s)
 have st : (s.heap.update it (Obj.mapFields (·.setIfInBounds 1 (rawInt ((i : Int) + 1))))).IsKeyIter it d (i + 1) es.size ep := ⟨_, Heap.get?_update_self _ ho (Obj.isFreed_of_fields (Obj.data_mapFields hd _)), (Obj.cls_mapFields ..).trans hc, by rw [Obj.data_mapFields hd]; simp [rawInt]⟩
 refine wpAny_bind (wpAny_setField ho hd (by simp) (wpAny_bind (wpAny_holding (wpAny_bind (wpAny_isOneOf_keyiter (s := { s with heap := s.heap.update it (Obj.mapFields (·.setIfInBounds 1 (rawInt ((i : Int) + 1)))) }) st.typeIs ?_)))))
 exact wpAny_pure (wpAny_pure ⟨_, rfl, wpAny_pure (q _ st (Heap.SameBut.update ..))⟩)
theorem raw_kend {Q : Option Value -> Shared -> Prop} (hh : A.handled = none) (hit : s.heap.IsKeyIter it d i es.size ep) (hm : RawD s.heap d es ep) (hi : es.size <= i)
  (q : ∀ h', Heap.ExtBut it s.heap h' -> Q none { s with heap := h' }) : wpAny (model prog w) A (pyNext (.ref it)) Q E s := by
 obtain ⟨o, ho, hc, hd⟩ := id hit
 obtain ⟨o2, g2, c2, f2⟩ := id hm
 have hown : (Builtin.Dict_items.ownsTuple "dict_keyiterator") = false := by decide
 unfold pyNext
 refine wpAny_bind (wpAny_attempt (wpAny_callSpecial?_slot (name := Str.ofString "__next__") hit.typeIs F.slot_dict_keyiterator_next (wpAny_call_entry F.slot_dict_keyiterator_next hit.typeIs F.entry_dict_keyiterator_next ?_ (F.args_dict_keyiterator_next_1 _))))
 refine wpAny_bind (wpAny_pure (wpAny_bind (wpAny_bind ?_)))
 first | refine wpAny_bind (wpAny_typeNameOfWhole_keyiter hit.typeIs (wpAny_pure (wpAny_bind (wpAny_fieldsOf ho hd ?_)))) | refine wpAny_bind (wpAny_typeNameOf_keyiter hit.typeIs (wpAny_pure (wpAny_bind (wpAny_fieldsOf ho hd ?_))))
 simp only [hown, Bool.false_eq_true, if_false]
 show wpAny _ _ (if (Value.ref d == .none) = true then _ else _) _ _ _
 rw [if_neg (show ¬ ((Value.ref d == .none) = true) from Bool.false_ne_true)]
 refine wpAny_bind (wpAny_pure (wpAny_bind (wpAny_dictEntries g2 f2 ?_)))
 rw [if_neg (show ¬ _ by simp)]
 refine wpAny_bind (wpAny_pure (wpAny_bind (wpAny_dictEpoch g2 f2 ?_)))
 rw [if_neg (show ¬ _ by simp)]
 refine wpAny_pure ?_
 simp only [show ¬ ((i : Int) < 0) by omega, if_false, Int.toNat_natCast, Array.getElem?_eq_none hi]
 refine wpAny_bind ?_
 first | refine wpAny_bind (wpAny_typeNameOfWhole_keyiter hit.typeIs (wpAny_pure (?_))) | refine wpAny_bind (wpAny_typeNameOf_keyiter hit.typeIs (wpAny_pure (?_)))
 show wpAny _ _ (setField (.ref it) 0 .none >>= _) _ _ (s)
 refine wpAny_bind (wpAny_setField ho hd (by simp) (show wpAny _ _ (newExc (.type "StopIteration") [] >>= _) _ _ _ from wpAny_bind ?_))
 simp only [newExc, newTuple]
 refine wpAny_bind (wpAny_newObj_type (wpAny_bind (m := firstArgMember _ _) (wpAny_of_eq (a := Value.none) (by first | rfl | (simp only [firstArgMember]; rfl)) (wpAny_newObj_type ?_ (by size_fits)))) (by size_fits))
 simp only [raiseNew]
 refine wpAny_bind (wpAny_handled ?_)
 rw [show (Around.in1 A).handled = none from hh]
 refine wpAny_bind (wpAny_pure (wpAny_throw (?_)))
 refine wpAny_bind (wpAny_isInstance (b := true) (T := "StopIteration") ⟨_, Heap.get?_push_size _ rfl, rfl⟩ isSubtype_stop (?_))
 exact wpAny_pure (q _ (((Heap.SameBut.update ..).extBut.push _).push _))
end
section
variable {X : Cx}
theorem call_dictK : CallR X (.type "dict") (fun xs H Q => ∃ a kvs, xs = [V.ref a] /\ H a = some (.dK kvs) /\ ∀ p, H p = none -> Q (.ref p) (upd H p (.dK kvs))) := by
 intro pins s σ H xs us Q I r h
 obtain ⟨a, kvs, rfl, ha, q⟩ := h
 obtain ⟨u, rfl, ru⟩ := vals1 r
 cases ru
 obtain ⟨z, y, vs, kv, D⟩ := dk_of I.hok ha
 have hl : vs.length = kvs.length := kv.length.symm
 refine kt_call_dict y D (by omega) fun h' hm sb => ?_
 refine ⟨.ref _, _, I.laid (a := s.heap.objs.size) (o := .dK kvs) (t' := s.toks) (fun b ob e => ?_) (Nat.le_refl _) ⟨z, ?_, vs, kv, hm⟩, rfl, q _ I.fresh⟩
 ·exact sb.extBut b ob (Nat.ne_of_lt (Heap.lt_size e)) (Heap.get?_push_of_some _ e)
 ·exact beq_eq_false_iff_ne.mpr (Nat.ne_of_gt I.big)
noncomputable def ItK (d : Addr) (o : Obj) (u : HO) (ps : List (V × V)) : It :=
 ⟨fun i H => i < ps.length /\ H d = some (.frz o u), fun i H x H' => H' = H /\ ∃ v, ps[i]? = some (x, v), fun i H => i = ps.length /\ H d = some (.frz o u)⟩
theorem turn_keys {P : Program} {w : World} {K : PySem.W.Frag} {tg : Expr} {d it : Addr} {o : Obj} {u : HO} {ps : List (V × V)} {es : Array DictEntry} {ep : Nat} (hx : o.ExactDict) (dat : o.data = .dict es ep) (rel : PsRel ps es.toList) :
  Turn P w K tg (ItK d o u ps) [it] it (fun i h => h.IsKeyIter it d i es.size ep) where
 mem := by simp
 obj := fun i h st b hb => by
  have e : b = it := by simpa using hb
  subst e
  obtain ⟨o, e, _, d⟩ := st
  exact ⟨o, e, fun v z => by rw [d] at z; cases z⟩
 keep := fun i h h' st k => let ⟨o, e, r⟩ := st; ⟨o, k it (by simp) o e, r⟩
 item := by
  intro X hP hw hK hc i pins s σ H E I hf st hg
  subst hP hw hK
  obtain ⟨f0, f1, _, f3, f4, f5⟩ := hf it (by simp)
  obtain ⟨hi, hd⟩ := hg
  have hlen : ps.length = es.size := by rw [rel.length]; simp
  have hi' : i < es.size := by omega
  refine raw_knext st ⟨o, (I.hok d _ hd).1, hx, dat⟩ hi' fun h' st' sb => ?_
  obtain ⟨p, hp⟩ : ∃ p, ps[i]? = some p := ⟨ps[i], by simp [hi]⟩
  obtain ⟨e', he', rk, rv⟩ := pair_at rel hp
  have ee : e' = es[i] := by
   have : es.toList[i]? = some es[i] := by simp [hi']
   rw [this] at he'; exact (Option.some.inj he').symm
  subst ee
  have I1 : Inv X pins σ H { s with heap := h', toks := s.toks } := I.turned (fun b ob hb e => sb.extBut b ob hb e) f0 f1 f3 f4 f5
  obtain ⟨oi, ei, ci, di⟩ := id st'
  exact ⟨_, rfl, go_of (s := { s with heap := h', toks := s.toks }) ei ci di (by decide) ⟨p.1, H, I1, rk, ⟨rfl, p.2, hp⟩, st', fun b hb => (hf b hb).1⟩⟩
 done := by
  intro X hP hw hK hc i pins s σ H E I hf st hg
  subst hP hw hK
  obtain ⟨f0, f1, _, f3, f4, f5⟩ := hf it (by simp)
  obtain ⟨hi, hd⟩ := hg
  have hlen : ps.length = es.size := by rw [rel.length]; simp
  exact raw_kend (I.ok.hd hc) st ⟨o, (I.hok d _ hd).1, hx, dat⟩ (by rw [hi, hlen]; exact Nat.le_refl _) fun h' eb => ⟨rfl, I.turned (t' := s.toks) (fun b ob hb e => eb b ob hb e) f0 f1 f3 f4 f5⟩
 self := fun A i s Q E st h => wpAny_pyIter_keyiter st h
noncomputable def iKeys (tl : TE) : TI := fun σ H R => tl σ H fun x H1 => ∃ d u, x = .ref d /\ H1 d = some u /\ isDk u = true /\ ∀ o ps, Pss H1 u ps -> R (ItK d o u ps) (upd H1 d (.frz o u))
theorem pi_keys {tg l : Expr} {tl : TE} (hl : PE X l tl) : PI X tg l (iKeys tl) := by
 intro pins s σ H R I h
 refine thn (hl pins s σ H _ I h) fun v s1 ⟨x, H1, I1, r1, q1⟩ => ?_
 obtain ⟨d, u, rfl, hd, hu, q⟩ := q1
 cases r1
 obtain ⟨o, es, ep, ps, g, ex, dat, hs, hps, rel⟩ := I1.raw hd hu
 refine raw_kiter hs ⟨o, g, ex, dat⟩ ?_
 have I2 : Inv X pins σ H1 _ := I1.kept (t' := s1.toks) (h' := s1.heap.push { cls := .type "dict_keyiterator", data := .fields #[.ref d, .int 0 0, .int es.size 0, .int ep 0] }) fun b ob e => Heap.get?_push_of_some _ e
 refine ⟨s1.heap.objs.size, [s1.heap.objs.size], _, _, _, rfl, I2.freeze hd hu (Heap.get?_push_of_some _ g), turn_keys ex dat rel, ⟨_, Heap.get?_push_size _ rfl, rfl, rfl⟩, fun b hb => ?_, q o ps hps⟩
 have e : b = s1.heap.objs.size := by simpa using hb
 subst e
 exact I1.fpOk (Nat.le_refl _) (by rw [upd_ne (ne_of_none hd I1.fresh).symm]; exact I1.fresh)
end
theorem pe_bm0' {X : Cx} {K : PySem.W.Frag} {o : Expr} {to : TE} {name : Str} {apos cpos : Pos} {T id : String} {r : V -> List V -> Hp -> VK -> Prop} (h : X.K = K) (pa : PlainAttrs T) (slot : Slot T name id) (hty : typeOf (.builtin id) = pure (.type "method_descriptor")) (hm : MtR X id r) (ho : PE X o to)
  (hbase : attributeBase o name X.env (eval o X.env) = eval o X.env := by rfl) (hline : (apos.endLine == cpos.line) = true := by rfl) : PE X (.Call (.Attribute o name apos) [] [] cpos) (tBM0 K T r to) := by subst h; exact pe_bm0 pa slot hty hm ho hbase hline
theorem for_items {d : Addr} {o : Obj} {u : HO} {ps : List (V × V)} {g : TG} {tb : TS} {D : Ends} {σ : St} {H : Hp} (Pv : Nat -> St -> Hp -> Prop) (h0 : Pv 0 σ H) (hf : ∀ i σ H, Pv i σ H -> H d = some (.frz o u))
  (hs : ∀ i k v T σ H, ps[i]? = some (k, v) -> Pv i σ H -> H T = none -> g (.ref T) σ (upd H T (.tup [k, v])) fun σ2 H2 => tb { D with nx := Pv (i + 1), ct := Pv (i + 1), bk := D.nx } σ2 H2) (hd : ∀ σ H, Pv ps.length σ H -> D.nx σ H) :
  ∃ W : Nat -> Nat -> St -> Hp -> Prop, (∃ m, W 0 m σ H) /\ ∀ i m σ H, W i m σ H -> ((ItD d o u ps).stop i H /\ D.nx σ H) \/ ((ItD d o u ps).go i H /\ ∃ N : St -> Hp -> Prop, (∀ σ' H', N σ' H' -> ∃ m', m' < m /\ W (i + 1) m' σ' H') /\
   ∀ x H', (ItD d o u ps).yld i H x H' -> g x σ H' fun σ2 H2 => tb { D with nx := N, ct := N, bk := D.nx } σ2 H2) := by
 refine ⟨fun i m σ H => m = ps.length - i /\ i <= ps.length /\ Pv i σ H, ⟨_, rfl, Nat.zero_le _, h0⟩, ?_⟩
 rintro i m σ H ⟨rfl, hi, p⟩
 by_cases hlt : i < ps.length
 ·refine .inr ⟨⟨hlt, hf i σ H p⟩, Pv (i + 1), fun σ' H' p' => ⟨ps.length - (i + 1), by omega, rfl, hlt, p'⟩, fun x H' y => ?_⟩
  obtain ⟨k, v, T, hk, e1, hT, e2⟩ := y
  subst e1 e2
  exact hs i k v T σ H hk p hT
 ·have e : i = ps.length := by omega
  subst e
  exact .inl ⟨⟨rfl, hf _ σ H p⟩, hd σ H p⟩
end L2
namespace Tc
section
variable {α : Type} [DecidableEq α]
noncomputable def dlt (n : α) : α -> Rat := fun z => if z = n then 1 else 0
noncomputable def fw (x y : α) (t : Rat) (v : α -> Rat) : α -> Rat := fun z => if z = y then v y + v x * t else if z = x then v x - v x * t else v z
noncomputable def bw (x y : α) (t : Rat) (R : α -> α -> Rat) : α -> α -> Rat := fun n => if n = x then fun z => R x z * (1 - t) + R y z * t else R n
theorem fw_lin (x y : α) (t : Rat) (a b : α -> Rat) (p q : Rat) : fw x y t (fun z => a z * p + b z * q) = fun z => fw x y t a z * p + fw x y t b z * q := by
 funext z
 unfold fw
 split
 ·grind
 ·split
  ·grind
  ·rfl
theorem bw_fw (x' y' : α) (t' : Rat) (x y : α) (t : Rat) (R : α -> α -> Rat) : bw x' y' t' (fun n => fw x y t (R n)) = fun n => fw x y t (bw x' y' t' R n) := by
 funext n
 unfold bw
 split
 ·exact (fw_lin x y t (R x') (R y') (1 - t') t').symm
 ·rfl
theorem bw_dlt {x y : α} (t : Rat) (h : x ≠ y) : bw x y t dlt = fun n => fw x y t (dlt n) := by
 funext n z
 unfold bw fw dlt
 by_cases e : n = x
 ·rw [if_pos e]
  subst e
  by_cases e1 : z = y
  ·subst e1
   have : z ≠ n := fun q => h q.symm
   grind
  ·by_cases e2 : z = n
   ·subst e2; grind
   ·grind
 ·rw [if_neg e]
  grind
noncomputable def IsM (P k : Nat) (r : Rat) : Prop := 0 <= r /\ ∃ m : Nat, m <= k * P /\ r * (P : Rat) = (m : Rat)
theorem natne {P : Nat} (h : 0 < P) : (P : Rat) ≠ 0 := by
 intro e
 have : (P : Rat) = ((0 : Nat) : Rat) := e
 have := Rat.natCast_inj.mp this
 omega
theorem IsM.eq {P k : Nat} {r : Rat} (hP : 0 < P) (h : IsM P k r) : ∃ m : Nat, m <= k * P /\ r = Rat.divInt m P := by
 obtain ⟨_, m, hm, e⟩ := h
 refine ⟨m, hm, ?_⟩
 rw [Rat.divInt_eq_div, Rat.intCast_natCast, Rat.intCast_natCast]
 have := natne hP
 grind
theorem IsM.zero (P k : Nat) : IsM P k 0 := ⟨by decide, 0, Nat.zero_le _, by rw [Rat.zero_mul]; rfl⟩
theorem IsM.one (P : Nat) : IsM P 1 1 := ⟨by decide, P, by omega, by rw [Rat.one_mul]⟩
theorem IsM.add {P k j : Nat} {r q : Rat} (h : IsM P k r) (g : IsM P j q) : IsM P (k + j) (r + q) := by
 obtain ⟨h0, m, hm, e⟩ := h
 obtain ⟨g0, n, hn, f⟩ := g
 refine ⟨Rat.add_nonneg h0 g0, m + n, by rw [Nat.add_mul]; omega, ?_⟩
 rw [Rat.add_mul, e, f, Rat.natCast_add]
theorem mul_den (t : Rat) : t * (t.den : Rat) = (t.num : Rat) := by
 have h := Rat.num_divInt_den t
 rw [Rat.divInt_eq_div, Rat.intCast_natCast] at h
 have := natne t.den_pos
 grind
theorem parts {t : Rat} (h0 : 0 <= t) (h1 : t <= 1) : ∃ u w : Nat, t.den = u + w /\ t * (t.den : Rat) = (u : Rat) /\ (1 - t) * (t.den : Rat) = (w : Rat) := by
 have n0 := Rat.num_nonneg.mpr h0
 have n1 := (Rat.le_iff t 1).mp h1
 have n1 : t.num <= t.den := by simpa using n1
 obtain ⟨u, hu⟩ := Int.eq_ofNat_of_zero_le n0
 have hw : t.den = u + (t.den - u) := by omega
 have e := mul_den t
 rw [hu, Rat.intCast_natCast] at e
 refine ⟨u, t.den - u, hw, e, ?_⟩
 have e2 : (t.den : Rat) = (u : Rat) + ((t.den - u : Nat) : Rat) := by rw [<- Rat.natCast_add, <- hw]
 grind
theorem IsM.mulL {P k : Nat} {a t : Rat} (h : IsM P k a) (h0 : 0 <= t) (h1 : t <= 1) : IsM (P * t.den) k (a * t) := by
 obtain ⟨a0, m, hm, e⟩ := h
 obtain ⟨u, w, hd, eu, ew⟩ := parts h0 h1
 refine ⟨Rat.mul_nonneg a0 h0, m * u, ?_, ?_⟩
 ·rw [hd, <- Nat.mul_assoc]
  exact Nat.mul_le_mul hm (by omega)
 ·rw [Rat.natCast_mul, Rat.natCast_mul, <- e, <- eu]; grind
theorem sub_nonneg {t : Rat} (h1 : t <= 1) : 0 <= 1 - t := by grind
theorem IsM.mix {P k : Nat} {a b t : Rat} (h : IsM P k a) (g : IsM P k b) (h0 : 0 <= t) (h1 : t <= 1) : IsM (P * t.den) k (a * (1 - t) + b * t) := by
 obtain ⟨a0, m, hm, e⟩ := h
 obtain ⟨b0, n, hn, f⟩ := g
 obtain ⟨u, w, hd, eu, ew⟩ := parts h0 h1
 refine ⟨Rat.add_nonneg (Rat.mul_nonneg a0 (sub_nonneg h1)) (Rat.mul_nonneg b0 h0), m * w + n * u, ?_, ?_⟩
 ·rw [hd, <- Nat.mul_assoc, Nat.mul_add]
  have := Nat.mul_le_mul_right w hm
  have := Nat.mul_le_mul_right u hn
  omega
 ·rw [Rat.natCast_add, Rat.natCast_mul, Rat.natCast_mul, Rat.natCast_mul, <- e, <- f, <- eu, <- ew]; grind
theorem IsM.mulR {P k : Nat} {a t : Rat} (h : IsM P k a) (h0 : 0 <= t) (h1 : t <= 1) : IsM (P * t.den) k (a * (1 - t)) := by
 have := h.mix (IsM.zero P k) h0 h1
 rw [Rat.zero_mul, Rat.add_zero] at this
 exact this
theorem IsM.up {P k : Nat} {a : Rat} (h : IsM P k a) (d : Nat) : IsM (P * d) k a := by
 obtain ⟨a0, m, hm, e⟩ := h
 refine ⟨a0, m * d, by rw [<- Nat.mul_assoc]; exact Nat.mul_le_mul_right d hm, ?_⟩
 rw [Rat.natCast_mul, Rat.natCast_mul, <- e]; grind
noncomputable def sumL (L : List α) (f : α -> Rat) : Rat := (L.map f).foldl (· + ·) 0
theorem foldl_addQ (rs : List Rat) (a : Rat) : rs.foldl (· + ·) a = a + rs.foldl (· + ·) 0 := by
 induction rs generalizing a with
 | nil => simp [Rat.add_zero]
 | cons r rs ih =>
  rw [List.foldl_cons, List.foldl_cons, ih (a + r), ih (0 + r), Rat.zero_add, Rat.add_assoc]
theorem sumL_nil (f : α -> Rat) : sumL [] f = 0 := rfl
theorem sumL_cons (z : α) (L : List α) (f : α -> Rat) : sumL (z :: L) f = f z + sumL L f := by
 unfold sumL
 rw [List.map_cons, List.foldl_cons, foldl_addQ, Rat.zero_add]
theorem sumL_mix (L : List α) (a b : α -> Rat) (t : Rat) : sumL L (fun z => a z * (1 - t) + b z * t) = sumL L a * (1 - t) + sumL L b * t := by
 induction L with
 | nil => simp only [sumL_nil]; grind
 | cons z L ih => rw [sumL_cons, sumL_cons, sumL_cons, ih]; grind
theorem sumL_zero (L : List α) (f : α -> Rat) (h : ∀ z ∈ L, f z = 0) : sumL L f = 0 := by
 induction L with
 | nil => rfl
 | cons z L ih => rw [sumL_cons, h z List.mem_cons_self, ih fun y hy => h y (List.mem_cons_of_mem _ hy), Rat.add_zero]
theorem sumL_dlt {L : List α} (hn : L.Nodup) {n : α} (h : n ∈ L) : sumL L (dlt n) = 1 := by
 induction L with
 | nil => simp at h
 | cons z L ih =>
  rw [sumL_cons]
  rw [List.nodup_cons] at hn
  by_cases e : z = n
  ·subst e
   rw [sumL_zero L _ fun y hy => ?_]
   ·simp [dlt, Rat.add_zero]
   ·unfold dlt; rw [if_neg]; rintro rfl; exact hn.1 hy
  ·have : n ∈ L := by
    rcases List.mem_cons.mp h with q | q
    ·exact absurd q.symm e
    ·exact q
   rw [ih hn.2 this]
   unfold dlt; rw [if_neg e, Rat.zero_add]
theorem sumL_erase {L : List α} {z : α} (h : z ∈ L) (f : α -> Rat) : sumL L f = f z + sumL (L.erase z) f := by
 induction L with
 | nil => simp at h
 | cons y L ih =>
  rw [List.erase_cons]
  by_cases e : y = z
  ·subst e; simp [sumL_cons]
  ·have hz : z ∈ L := by
    rcases List.mem_cons.mp h with q | q
    ·exact absurd q.symm e
    ·exact q
   have : ¬ (y == z) = true := by simpa using e
   rw [if_neg this, sumL_cons, sumL_cons, ih hz]; grind
theorem sumL_sub : ∀ {L ks : List α} (f : α -> Rat), L.Nodup -> ks.Nodup -> (∀ z ∈ ks, z ∈ L) -> (∀ z ∈ L, f z ≠ 0 -> z ∈ ks) -> sumL ks f = sumL L f
 | [], ks, f, _, _, h, _ => by
  cases ks with
  | nil => rfl
  | cons z _ => exact absurd (h z List.mem_cons_self) (by simp)
 | z :: L, ks, f, hL, hk, h, g => by
  rw [List.nodup_cons] at hL
  rw [sumL_cons]
  by_cases hz : z ∈ ks
  ·rw [sumL_erase hz]
   congr 1
   refine sumL_sub f hL.2 (hk.erase z) (fun y hy => ?_) fun y hy hf => ?_
   ·obtain ⟨a, b⟩ := (hk.mem_erase_iff).mp hy
    rcases List.mem_cons.mp (h y b) with q | q
    ·exact absurd q a
    ·exact q
   ·refine (hk.mem_erase_iff).mpr ⟨fun e => hL.1 (e ▸ hy), g y (List.mem_cons_of_mem _ hy) hf⟩
  ·have e : f z = 0 := by
    by_cases q : f z = 0
    ·exact q
    ·exact absurd (g z List.mem_cons_self q) hz
   rw [e, Rat.zero_add]
   refine sumL_sub f hL.2 hk (fun y hy => ?_) fun y hy hf => g y (List.mem_cons_of_mem _ hy) hf
   rcases List.mem_cons.mp (h y hy) with q | q
   ·exact absurd hy (q ▸ hz)
   ·exact q
theorem nodup_len : ∀ {L ks : List α}, ks.Nodup -> (∀ z ∈ ks, z ∈ L) -> ks.length <= L.length
 | L, [], _, _ => by simp
 | L, k :: ks, hk, h => by
  rw [List.nodup_cons] at hk
  have hm := h k List.mem_cons_self
  have := nodup_len (L := L.erase k) (ks := ks) hk.2 fun z hz => by
   refine (List.mem_erase_of_ne ?_).mpr (h z (List.mem_cons_of_mem _ hz))
   rintro rfl; exact hk.1 hz
  rw [List.length_erase_of_mem hm] at this
  have hp := List.length_pos_of_mem hm
  rw [List.length_cons]
  omega
noncomputable def op (f : α -> Rat) : α -> Option Rat := fun z => if f z = 0 then none else some (f z)
theorem op_get (f : α -> Rat) (z : α) : (op f z).getD 0 = f z := by
 unfold op; split
 ·rename_i h; rw [h]; rfl
 ·rfl
theorem op_some {f : α -> Rat} {z : α} : (op f z).isSome = true ↔ f z ≠ 0 := by
 unfold op; split
 ·rename_i h; simp [h]
 ·rename_i h; simp [h]
structure Good (L : List α) (P : Nat) (R : α -> α -> Rat) : Prop where
 part : ∀ n ∈ L, ∀ z, IsM P 1 (R n z)
 sup : ∀ n ∈ L, ∀ z, R n z ≠ 0 -> z ∈ L
 all : ∀ n ∈ L, sumL L (R n) = 1
theorem Good.dlt {L : List α} (h : L.Nodup) : Good L 1 (dlt (α := α)) where
 part := fun n _ z => by
  unfold Tc.dlt; split
  ·exact IsM.one 1
  ·exact IsM.zero 1 1
 sup := fun n hn z hz => by
  unfold Tc.dlt at hz
  split at hz
  ·rename_i e; rw [e]; exact hn
  ·exact absurd rfl hz
 all := fun n hn => sumL_dlt h hn
theorem Good.bw {L : List α} {P : Nat} {R : α -> α -> Rat} {x y : α} {t : Rat} (h : Good L P R) (hx : x ∈ L) (hy : y ∈ L) (h0 : 0 <= t) (h1 : t <= 1) : Good L (P * t.den) (bw x y t R) where
 part := fun n hn z => by
  unfold Tc.bw; split
  ·exact (h.part x hx z).mix (h.part y hy z) h0 h1
  ·exact (h.part n hn z).up _
 sup := fun n hn z hz => by
  unfold Tc.bw at hz
  split at hz
  ·have hz : R x z * (1 - t) + R y z * t ≠ 0 := hz
   by_cases e : R x z = 0
   ·by_cases e2 : R y z = 0
    ·rw [e, e2, Rat.zero_mul, Rat.zero_mul, Rat.add_zero] at hz; exact absurd rfl hz
    ·exact h.sup y hy z e2
   ·exact h.sup x hx z e
  ·exact h.sup n hn z hz
 all := fun n hn => by
  unfold Tc.bw; split
  ·rw [sumL_mix, h.all x hx, h.all y hy]; grind
  ·exact h.all n hn
theorem pos_of {a : Rat} (h : 0 <= a) (n : a ≠ 0) : 0 < a := by grind
theorem op_zero : op (fun _ : α => 0) = fun _ => none := by funext z; simp [op]
end
end Tc
namespace L2
open PySem PySem.Spec PyProof.Rows
theorem bt_reversed : bootBuiltins "reversed" = some (.type "reversed") := by decide +kernel
noncomputable def Itv (K : PySem.W.Frag) (a : Addr) (xs : List V) : It :=
 ⟨fun i H => i < xs.length /\ SqL K H a xs, fun i H x H' => H' = H /\ xs[xs.length - 1 - i]? = some x, fun i _ => i = xs.length⟩
theorem turn_rev {P : Program} {w : World} {K : PySem.W.Frag} {tg : Expr} (a it : Addr) (xs : List V) : Turn P w K tg (Itv K a xs) [it] it (fun i h => h.IsRevIter it a ((xs.length : Int) - 1 - (i : Int))) where
 mem := by simp
 obj := fun i h st b hb => by
  have e : b = it := by simpa using hb
  subst e
  obtain ⟨o, e, c, d⟩ := st
  exact ⟨o, e, fun v z => by rw [d] at z; cases z⟩
 keep := fun i h h' st k => st.at fun o e => k it (by simp) o e
 item := by
  intro X hP hw hK hc i pins s σ H E I hf st hg
  subst hP hw hK
  obtain ⟨hi, hq⟩ := hg
  obtain ⟨its, rv, p, hz⟩ := I.list hq
  have hx : xs[xs.length - 1 - i]? = some (xs[xs.length - 1 - i]'(by omega)) := List.getElem?_eq_getElem (by omega)
  obtain ⟨u, hu, ru⟩ := rv.get hx
  obtain ⟨f0, f1, f2, f3, f4, f5⟩ := hf it (by simp)
  have e : (xs.length : Int) - 1 - (i : Int) = ((xs.length - 1 - i : Nat) : Int) := by omega
  have st : s.heap.IsRevIter it a ((xs.length : Int) - 1 - (i : Int)) := st
  rw [e] at st
  refine wpAny_pyNext_rev_item st p.isList (x := u) (by simpa using hu) fun h' st' sb => ?_
  have I1 : Inv X pins σ H { s with heap := h' } := I.turned (t' := s.toks) (fun b o hb e => (sb.2 b hb).trans e) f0 f1 f3 f4 f5
  have e2 : ((xs.length - 1 - i : Nat) : Int) - 1 = (xs.length : Int) - 1 - ((i + 1 : Nat) : Int) := by omega
  rw [e2] at st'
  obtain ⟨o, e, c, d⟩ := id st'
  exact ⟨u, rfl, go_of (s := { s with heap := h' }) e c d (by decide) ⟨_, H, I1, ru, ⟨rfl, hx⟩, st', fun b hb => (hf b hb).1⟩⟩
 done := by
  intro X hP hw hK hc i pins s σ H E I hf st hg
  subst hP hw hK
  have hg : i = xs.length := hg
  obtain ⟨f0, f1, f2, f3, f4, f5⟩ := hf it (by simp)
  have e : (xs.length : Int) - 1 - (i : Int) = -1 := by omega
  have st : s.heap.IsRevIter it a ((xs.length : Int) - 1 - (i : Int)) := st
  rw [e] at st
  exact wpAny_pyNext_rev_end (I.ok.hd hc) st fun h' eb => ⟨rfl, I.turned (t' := s.toks) (fun b o hb e => eb b o hb e) f0 f1 f3 f4 f5⟩
 self := fun _ _ _ _ _ st h => wpAny_pyIter_revIter st h
section
variable {X : Cx} {K : PySem.W.Frag}
noncomputable def iRev (K : PySem.W.Frag) (ta : TA) : TI := fun σ H R => ta σ H fun vs H1 => ∃ a xs, vs = [V.ref a] /\ SqL K H1 a xs /\ R (Itv K a xs) H1
theorem pi_rev {tg a : Expr} {ta : TA} {p pos : Pos} (hK : X.K = K) (hg : Gl X "reversed") (hm : X.mg "reversed" = none) (ha : PA X [a] ta) (hs : starEach [a] X.env = [(false, eval a X.env)] := by rfl) : PI X tg (.Call (.Name "reversed" p) [a] [] pos) (iRev K ta) := by
 subst hK
 intro pins s σ H R I h
 refine Call_ (ld_blt I hg hm bt_reversed (PyProof.Rows.callWith_type1 (thn (ha pos pins s σ H _ I h) fun us s1 ⟨vs, H1, I1, r1, q1⟩ => ?_) hs rfl))
 obtain ⟨b, xs, rfl, hq, q⟩ := q1
 obtain ⟨u, rfl, ru⟩ := vals1 r1
 cases ru
 obtain ⟨its, rv, p, hz⟩ := I1.list hq
 refine call_reversed_list p.isList ?_
 have e : ((its.toArray.size : Nat) : Int) - 1 = (xs.length : Int) - 1 - ((0 : Nat) : Int) := by
  have := rv.length
  simp; omega
 rw [e]
 refine wpAny_pyIter_revIter (l := b) (i := (xs.length : Int) - 1 - ((0 : Nat) : Int)) ⟨_, Heap.get?_push_size _ rfl, rfl, rfl⟩ ?_
 refine ⟨s1.heap.objs.size, [s1.heap.objs.size], _, _, H1, rfl, I1.kept (t' := s1.toks) fun b o e => Heap.get?_push_of_some _ e, turn_rev b _ xs, ⟨_, Heap.get?_push_size _ rfl, rfl, rfl⟩, fun b hb => ?_, q⟩
 have e : b = s1.heap.objs.size := by simpa using hb
 subst e
 exact I1.fpOk (Nat.le_refl _) (I1.hok.fresh (Nat.le_refl _))
end
theorem for_rev {K : PySem.W.Frag} {a : Addr} {xs : List V} {g : TG} {tb : TS} {D : Ends} {σ : St} {H : Hp} (Pv : Nat -> St -> Hp -> Prop) (h0 : Pv xs.length σ H) (hl : ∀ j σ H, j <= xs.length -> Pv j σ H -> SqL K H a xs)
  (hs : ∀ j x σ H, xs[j]? = some x -> Pv (j + 1) σ H -> g x σ H fun σ2 H2 => tb { D with nx := Pv j, ct := Pv j, bk := D.nx } σ2 H2) (hd : ∀ σ H, Pv 0 σ H -> D.nx σ H) :
  ∃ W : Nat -> Nat -> St -> Hp -> Prop, (∃ m, W 0 m σ H) /\ ∀ i m σ H, W i m σ H ->
   ((Itv K a xs).stop i H /\ D.nx σ H) \/ ((Itv K a xs).go i H /\ ∃ N : St -> Hp -> Prop, (∀ σ' H', N σ' H' -> ∃ m', m' < m /\ W (i + 1) m' σ' H') /\ ∀ x H', (Itv K a xs).yld i H x H' -> g x σ H' fun σ2 H2 => tb { D with nx := N, ct := N, bk := D.nx } σ2 H2) := by
 refine ⟨fun i m σ H => i + m = xs.length /\ Pv m σ H, ⟨xs.length, by omega, h0⟩, ?_⟩
 rintro i m σ H ⟨hi, p⟩
 have q := hl m σ H (by omega) p
 cases m with
 | zero => exact .inl ⟨by show i = _; omega, hd σ H p⟩
 | succ j =>
  refine .inr ⟨⟨by omega, q⟩, Pv j, fun σ' H' p' => ⟨j, by omega, by omega, p'⟩, fun x H' y => ?_⟩
  obtain ⟨e, y⟩ := y
  subst e
  have ej : xs.length - 1 - i = j := by omega
  rw [ej] at y
  exact hs j x σ _ y p
end L2
namespace L2
open PySem PySem.Spec PyProof.Rows
theorem Paired.take {α β : Type} {F : α -> β -> Prop} {xs : List α} {ys : List β} (h : Paired F xs ys) : ∀ i : Nat, Paired F (xs.take i) (ys.take i) := by
 induction h with
 | nil => intro i; rw [List.take_nil, List.take_nil]; exact .nil
 | cons r t ih =>
  intro i
  cases i with
  | zero => exact .nil
  | succ i => rw [List.take_succ_cons, List.take_succ_cons]; exact .cons r (ih i)
theorem Paired.drop {α β : Type} {F : α -> β -> Prop} {xs : List α} {ys : List β} (h : Paired F xs ys) : ∀ i : Nat, Paired F (xs.drop i) (ys.drop i) := by
 induction h with
 | nil => intro i; rw [List.drop_nil, List.drop_nil]; exact .nil
 | cons r t ih =>
  intro i
  cases i with
  | zero => exact .cons r t
  | succ i => rw [List.drop_succ_cons, List.drop_succ_cons]; exact ih i
theorem Paired.app {α β : Type} {F : α -> β -> Prop} {xs xs' : List α} {ys ys' : List β} (h : Paired F xs ys) (g : Paired F xs' ys') : Paired F (xs ++ xs') (ys ++ ys') := by
 induction h with
 | nil => exact g
 | cons r t ih => exact .cons r ih
section
variable {X : Cx} {K : PySem.W.Frag} {pos : Pos}
noncomputable def rInsert : V -> List V -> Hp -> VK -> Prop := fun x vs H Q => ∃ (l : Addr) (xs : List V) (i : Nat) (y : V), x = .ref l /\ vs = [.int (i : Nat), y] /\ H l = some (.lst xs) /\ i <= xs.length /\ xs.length <= 1000 /\ Q .non (upd H l (.lst (xs.take i ++ y :: xs.drop i)))
theorem mt_insert : MtR X "list.insert" rInsert := by
 intro pins s σ H x vs v us Q I rx rv h
 obtain ⟨l, xs, i, y, rfl, rfl, hH, hi, hz, q⟩ := h
 cases rx
 obtain ⟨u1, u2, rfl, r1, r2⟩ : ∃ u1 u2, us = [u1, u2] /\ RelV (.int (i : Nat)) u1 /\ RelV y u2 := by
  cases rv with
  | cons a r =>
   cases r with
   | cons b r => cases r; exact ⟨_, _, rfl, a, b⟩
 obtain ⟨t, rfl⟩ := r1
 obtain ⟨z, its, n, r, hl, e⟩ := I.lstM hH
 have hsz : sizeLine = 16777216 := sizeLine_eq
 have hle : its.toArray.size <= sizeLine := by rw [List.size_toArray]; omega
 obtain ⟨x, hx⟩ : ∃ x : Int, x = ((i : Nat) : Int) := ⟨_, rfl⟩
 rw [<- hx]
 have hfit : ¬ (!Builtin.List.listFitsIndex x) = true := by
  have : Builtin.List.listFitsIndex x = true := by
   unfold Builtin.List.listFitsIndex
   rw [Bool.and_eq_true]
   exact ⟨decide_eq_true (by omega), decide_eq_true (by omega)⟩
  rw [this]; decide
 refine call_meets F.slot_list_insert ⟨_, e, rfl⟩ F.entry_list_insert (F.args_list_insert_3 _ _ _) (AutoSeq1.list_insert_list_int_val_1 l its.toArray n x t u2 hfit hle) ⟨e, ?_⟩
 refine ⟨.non, _, I.lset (its' := its.take i ++ u2 :: its.drop i) hH e ?_ ?_ ?_, rfl, q⟩
 ·have ek : (if x < 0 then (x + (its.toArray.size : Int)).toNat else min x.toNat its.toArray.size) = i := by
   rw [if_neg (by omega), List.size_toArray]
   omega
  show (its.toArray.extract 0 (if x < 0 then (x + (its.toArray.size : Int)).toNat else min x.toNat its.toArray.size)).push u2 ++ its.toArray.extract (if x < 0 then (x + (its.toArray.size : Int)).toNat else min x.toNat its.toArray.size) = _
  rw [ek]
  apply Array.ext'
  simp
  exact List.take_of_length_le (by rw [List.length_drop]; omega)
 ·exact Paired.app (Paired.take r i) (.cons r2 (Paired.drop r i))
 ·rw [List.length_append, List.length_cons, List.length_take, List.length_drop]
  omega
end
end L2
namespace L2
open PySem PySem.Spec PyProof.Rows
end L2
namespace L2
open PySem PySem.Spec PyProof.Rows
theorem bt_enumerate : bootBuiltins "enumerate" = some (.type "enumerate") := by decide +kernel
section
variable {X : Cx} {pins : List (Addr × Obj)} {σ : St} {H : Hp} {s : Shared} {h' : Heap}
theorem Inv.turns {t' : Nat} {ch : List Addr} (I : Inv X pins σ H s) (k : ∀ b o, b ∉ ch -> s.heap.get? b = some o -> h'.get? b = some o) (hf : ∀ b ∈ ch, FpOk X pins H b) : Inv X pins σ H { s with heap := h', toks := t' } := by
 have nit : ∀ b u, H b = some u -> b ∉ ch := fun b u e z => by rw [(hf b z).1] at e; cases e
 refine I.step (g' := s.gens) (d' := s.drawn) (ch := ch) (fun b hb => ?_) (fun b o _ _ hc e _ => k b o hc e) (fun b o _ _ hc e _ => ⟨o.slots, k b o hc e⟩) (fun _ _ _ _ n => n) (fun b o hc e => ⟨o, k b o hc e⟩) (fun _ _ e => e) (fun _ _ _ e => e) (fun b ps e => ⟨#[], by rw [e]; simp⟩) (fun m hm => ?_) (fun b u e => ?_) I.bare
 ·obtain ⟨f0, f1, f2, f3, f4, f5⟩ := hf b hb
  exact ⟨f3, f1, f4, f5⟩
 ·obtain ⟨o, es, ep, ho, r⟩ := hm
  exact ⟨o, es, ep, k _ o (fun z => (hf _ z).2.1 rfl) ho, r⟩
 ·refine (I.hok b u e).stay (fun c v hc q => k c v ?_ q) (fun _ q => q) fun _ _ q => q
  rcases hc with z | z
  ·rw [z]; exact nit b u e
  ·exact nit c _ z
end
noncomputable def ItE (K : PySem.W.Frag) (a : Addr) (xs : List V) : It :=
 ⟨fun i H => i < xs.length /\ SqL K H a xs, fun i H x H' => ∃ v T, xs[i]? = some v /\ x = .ref T /\ H T = none /\ H' = upd H T (.tup [.int (i : Nat), v]), fun i H => i = xs.length /\ SqL K H a xs⟩
theorem turn_enum {P : Program} {w : World} {K : PySem.W.Frag} {elts : List Expr} {kk : Nat} {pos : Pos} (a e li : Addr) (xs : List V) (hne : e ≠ li) :
  Turn P w K (.Tuple elts kk pos) (ItE K a xs) [e, li] e (fun i h => ∃ old, IsEnum h e li ((i : Nat) : Int) old /\ h.IsListIter li a i) where
 mem := by simp
 obj := fun i h st b hb => by
  obtain ⟨old, s1, o, e2, c, d⟩ := st
  simp only [List.mem_cons, List.not_mem_nil, or_false] at hb
  rcases hb with rfl | rfl
  ·exact ⟨_, s1, fun v z => by cases z⟩
  ·exact ⟨o, e2, fun v z => by rw [d] at z; cases z⟩
 keep := fun i h h' st k => let ⟨old, s1, s2⟩ := st; ⟨old, k e (by simp) _ s1, s2.at fun o eo => k li (by simp) o eo⟩
 item := by
  intro X hP hw hK hc i pins s σ H E I hf st hg
  subst hP hw hK
  obtain ⟨old, st1, st2⟩ := st
  obtain ⟨hi, hq⟩ := hg
  obtain ⟨its, rv, p, hz⟩ := I.list hq
  have hx : xs[i]? = some xs[i] := by simp [hi]
  obtain ⟨u, hu, ru⟩ := rv.get hx
  refine wpAny_pyNext_enum_item st1 st2 p.isList (x := u) (by simpa using hu) hne fun h' jo jl ht hz' kp => ?_
  refine ⟨_, rfl, wpAny_letOwnedTupleGo_enum jo fun h2 he2 sb => ?_⟩
  have sb : Heap.SameBut e h' h2 := sb
  have nTe : s.heap.objs.size ≠ e := Nat.ne_of_gt (Heap.lt_size st1)
  have nTl : s.heap.objs.size ≠ li := by
   obtain ⟨o, e2, _⟩ := id st2
   exact Nat.ne_of_gt (Heap.lt_size e2)
  have I1 : Inv X pins σ H { s with heap := h2, toks := s.toks + 1 } := I.turns (ch := [e, li]) (fun b o hb eo => sb.extBut b o (fun z => hb (by simp [z])) (kp b o (fun z => hb (by simp [z])) (fun z => hb (by simp [z])) eo)) hf
  have hT2 : h2.get? s.heap.objs.size = some { cls := .type "tuple", data := .seq #[.int i s.toks, u] } := sb.extBut _ _ nTe ht
  obtain ⟨g0, g1, _, _, g4, g5⟩ := I.fpOk (Nat.le_refl _) I.fresh
  have I2 := I1.track (a := s.heap.objs.size) (o := .tup [.int (i : Nat), xs[i]]) g0 (by
   cases q : X.s₀.heap.get? s.heap.objs.size with
   | none => rfl
   | some ob => exact absurd (Nat.lt_of_lt_of_le (Heap.lt_size q) I.sz) (Nat.lt_irrefl _)) g1 g4 g5 ⟨small1000 (by simp) |> Nat.le_of_lt, [.int i s.toks, u], .cons ⟨_, rfl⟩ (.cons ru .nil), ⟨_, hT2, rfl, _, rfl⟩⟩
  refine ⟨.ref _, _, I2, rfl, ⟨xs[i], _, hx, rfl, g0, rfl⟩, ⟨_, he2, jl.extBut sb.extBut hne.symm⟩, fun b hb => ?_⟩
  have nb : b ≠ s.heap.objs.size := by
   simp only [List.mem_cons, List.not_mem_nil, or_false] at hb
   rcases hb with rfl | rfl
   ·exact nTe.symm
   ·exact nTl.symm
  rw [upd_ne nb]; exact (hf b hb).1
 done := by
  intro X hP hw hK hc i pins s σ H E I hf st hg
  subst hP hw hK
  obtain ⟨old, st1, st2⟩ := st
  obtain ⟨hi, hq⟩ := hg
  obtain ⟨its, rv, p, hz⟩ := I.list hq
  have hl := rv.length
  exact wpAny_pyNext_enum_end (I.ok.hd hc) st1 st2 p.isList (by simp; omega) fun h' eb => ⟨rfl, I.turns (t' := s.toks) (ch := [e, li]) (fun b o hb eo => eb b o (fun z => hb (by simp [z])) eo) hf⟩
 self := fun A i s Q E st h => let ⟨_, st1, _⟩ := st; wpAny_pyIter_enum st1 h
section
variable {X : Cx} {K : PySem.W.Frag}
noncomputable def iEnum (K : PySem.W.Frag) (ta : TA) : TI := fun σ H R => ta σ H fun vs H1 => ∃ a xs, vs = [V.ref a] /\ SqL K H1 a xs /\ R (ItE K a xs) H1
theorem pi_enum {elts : List Expr} {kk : Nat} {tpos : Pos} {a : Expr} {ta : TA} {p pos : Pos} (hK : X.K = K) (hg : Gl X "enumerate") (hm : X.mg "enumerate" = none) (ha : PA X [a] ta) (hs : starEach [a] X.env = [(false, eval a X.env)] := by rfl) : PI X (.Tuple elts kk tpos) (.Call (.Name "enumerate" p) [a] [] pos) (iEnum K ta) := by
 subst hK
 intro pins s σ H R I h
 refine Call_ (ld_blt I hg hm bt_enumerate (PyProof.Rows.callWith_type1 (thn (ha pos pins s σ H _ I h) fun us s1 ⟨vs, H1, I1, r1, q1⟩ => ?_) hs rfl))
 obtain ⟨b, xs, rfl, hq, q⟩ := q1
 obtain ⟨u, rfl, ru⟩ := vals1 r1
 cases ru
 obtain ⟨its, rv, p, hz⟩ := I1.list hq
 refine call_enumerate_list p.isList fun h' he hl hz kk => wpAny_pyIter_enum he ?_
 refine ⟨s1.heap.objs.size + 1, [s1.heap.objs.size + 1, s1.heap.objs.size], _, _, H1, rfl, I1.kept (t' := s1.toks) kk, turn_enum b (s1.heap.objs.size + 1) s1.heap.objs.size xs (Nat.succ_ne_self _), ⟨_, he, hl⟩, fun c hc => ?_, q⟩
 simp only [List.mem_cons, List.not_mem_nil, or_false] at hc
 rcases hc with rfl | rfl
 ·exact I1.fpOk (by omega) (I1.hok.fresh (by omega))
 ·exact I1.fpOk (Nat.le_refl _) (I1.hok.fresh (Nat.le_refl _))
noncomputable def Hits (K : PySem.W.Frag) (H : Hp) (x y : V) : Prop := ∃ a b ka kb, x = .ref a /\ y = .ref b /\ H a = some (.dK ka) /\ H b = some (.dK kb) /\ ka.length = kb.length /\ ∀ kv ∈ ka, ∃ w d, valV kb kv.1 = some w /\ RepD K H d kv.2 /\ RepD K H d w /\ d.depth <= 60
theorem hits_of {pins : List (Addr × Obj)} {σ : St} {H : Hp} {s : Shared} {A : Around} (hu : A.in1.units + 64 < cLine) (I : Inv X pins σ H s) {kb : List (Key × V)} {vb : List (Key × Value)} (rb : KV kb vb) :
  ∀ {ka : List (Key × V)} {va : List (Key × Value)}, KV ka va -> (∀ kv ∈ ka, ∃ w d, valV kb kv.1 = some w /\ RepD X.K H d kv.2 /\ RepD X.K H d w /\ d.depth <= 60) -> PySem.W.KeqHits A.in1 s vb va true := by
 intro ka va ra
 unfold KV at ra
 induction ra with
 | nil => intro _; exact .nil
 | @cons p q ps qs h t ih =>
  intro hh
  obtain ⟨w0, d, e, d1, d2, dd⟩ := hh p List.mem_cons_self
  have rv := rb.val q.1
  rw [<- h.1, e] at rv
  cases ey : valueAt vb p.1 with
  | none => rw [ey] at rv; exact (show False from rv).elim
  | some y =>
   rw [ey] at rv
   have rv : RelV w0 y := rv
   obtain ⟨as, r1⟩ := RepD.reads I d1 h.2
   obtain ⟨bs, r2⟩ := RepD.reads I d2 rv
   have sh : SeqAt.shaped d = true := by
    unfold SeqAt.shaped
    rw [d1.lay, Bool.true_and]
    exact decide_eq_true (by omega)
   have ea := PySem.W.keq_at (A := A) r1 r2 sh sh hu
   rw [SeqAt.eqv_refl d d1.lay] at ea
   obtain ⟨q1, q2⟩ := q
   have h1 : p.1 = q1 := h.1
   subst h1
   exact .hit (e := true) (b := true) ey ea (ih fun kv hkv => hh kv (List.mem_cons_of_mem _ hkv))
theorem op_neR {k : Nat} (hK : X.K = K) (hr : Room k X.A) : OpR X (compareOp .NotEq) (fun x y H Q => Hits K H x y /\ Q (.bl false) H) := by
 subst hK
 intro pins s σ H x y v u Q I rx ry h
 obtain ⟨⟨a, b, ka, kb, rfl, rfl, ha, hb, hl, hh⟩, q⟩ := h
 cases rx; cases ry
 obtain ⟨z1, y1, va, ra, Da⟩ := dk_of I.hok ha
 obtain ⟨z2, y2, vb, rb, Db⟩ := dk_of I.hok hb
 have hu := hr.un
 have e1 : va.length = vb.length := by rw [<- ra.length, <- rb.length, hl]
 refine PySem.W.keq_ne y1 y2 Da Db (by omega) (fun _ => hits_of (by first | exact hu | (simp [Around.in1]; omega)) I rb ra hh) ?_
 rw [e1]
 simp only [beq_self_eq_true, Bool.true_and]
 exact ⟨.bl false, H, I, rfl, q⟩
end
theorem block_enum {K : PySem.W.Frag} {a : Addr} {xs : List V} {g : TG} {tc : TT} {te : TE} {D : Addr} {Z : Hp -> Prop} {σ : St} {H : Hp} (Pv : Nat -> St -> Hp -> Prop) (h0 : Pv 0 σ H) (hl : ∀ i σ H, i <= xs.length -> Pv i σ H -> SqL K H a xs)
  (hs : ∀ i v T σ H, xs[i]? = some v -> Pv i σ H -> H T = none -> g (.ref T) σ (upd H T (.tup [.int (i : Nat), v])) fun σ2 H2 => tc σ2 H2 fun b H3 => if b = true then te σ2 H3 fun y H4 => ∃ ys, H4 D = some (.lst ys) /\ ys.length < sizeLine /\ Pv (i + 1) σ2 (upd H4 D (.lst (ys ++ [y]))) else Pv (i + 1) σ2 H3)
  (hd : ∀ σ H, Pv xs.length σ H -> Z H) : tBlock (ItE K a xs) g tc te D Z σ H := by
 refine ⟨fun i m σ H => m = xs.length - i /\ i <= xs.length /\ Pv i σ H, ⟨xs.length, by simp, Nat.zero_le _, h0⟩, ?_⟩
 rintro i m σ H ⟨rfl, hi, p⟩
 have q := hl i σ H hi p
 by_cases hlt : i < xs.length
 ·refine .inr ⟨⟨hlt, q⟩, Pv (i + 1), fun σ' H' p' => ⟨xs.length - (i + 1), by omega, rfl, hlt, p'⟩, fun x H' y => ?_⟩
  obtain ⟨v, T, hv, e1, hT, e2⟩ := y
  subst e1 e2
  exact hs i v T σ H hv p hT
 ·have e : i = xs.length := by omega
  subst e
  exact .inl ⟨⟨rfl, q⟩, hd σ H p⟩
end L2
namespace L2
open PySem PySem.Spec PyProof.Rows
section
variable {X : Cx}
end
theorem block_keys {d : Addr} {o : Obj} {u : HO} {ps : List (V × V)} {g : TG} {tc : TT} {te : TE} {D : Addr} {Z : Hp -> Prop} {σ : St} {H : Hp} (Pv : Nat -> St -> Hp -> Prop) (h0 : Pv 0 σ H) (hf : ∀ i σ H, Pv i σ H -> H d = some (.frz o u))
  (hs : ∀ i k v σ H, ps[i]? = some (k, v) -> Pv i σ H -> g k σ H fun σ2 H2 => tc σ2 H2 fun b H3 => if b = true then te σ2 H3 fun y H4 => ∃ ys, H4 D = some (.lst ys) /\ ys.length < sizeLine /\ Pv (i + 1) σ2 (upd H4 D (.lst (ys ++ [y]))) else Pv (i + 1) σ2 H3)
  (hd : ∀ σ H, Pv ps.length σ H -> Z H) : tBlock (ItK d o u ps) g tc te D Z σ H := by
 refine ⟨fun i m σ H => m = ps.length - i /\ i <= ps.length /\ Pv i σ H, ⟨ps.length, by simp, Nat.zero_le _, h0⟩, ?_⟩
 rintro i m σ H ⟨rfl, hi, p⟩
 by_cases hlt : i < ps.length
 ·refine .inr ⟨⟨hlt, hf i σ H p⟩, Pv (i + 1), fun σ' H' p' => ⟨ps.length - (i + 1), by omega, rfl, hlt, p'⟩, fun x H' y => ?_⟩
  obtain ⟨e, v, hk⟩ := y
  subst e
  exact hs i x v σ _ hk p
 ·have e : i = ps.length := by omega
  subst e
  exact .inl ⟨⟨rfl, hf _ σ H p⟩, hd σ H p⟩
end L2
namespace L2
open PySem PySem.Spec PyProof.Rows
section
variable {X : Cx} {K : PySem.W.Frag}
end
end L2
namespace L2
open PySem PySem.Spec PyProof.Rows
section
variable {X : Cx} {K : PySem.W.Frag}
end
end L2
namespace L2
open PySem PySem.Spec PyProof.Rows
end L2
namespace L2
open PySem PySem.Spec PyProof.Rows
theorem size_down (a b : Int) : Builtin.Range.rangeSize a b (-1) = (((a - b).toNat : Nat) : Int) := by
 unfold Builtin.Range.rangeSize
 rw [if_neg (by decide)]
 have e : (-(-1) : Int) = 1 := by decide
 rw [e, Int.ediv_one]
 split <;> omega
theorem small_down {a b : Int} (ha : -(2 ^ 60) <= a) (ha' : a < 2 ^ 60) (hb : -(2 ^ 60) <= b) (hb' : b < 2 ^ 60) : Builtin.Range.small a b (-1) = true := by
 have hs := size_down a b
 unfold Builtin.Range.small
 simp only [Builtin.Range.rangeFitsLong, Bool.and_eq_true, Bool.or_eq_true, decide_eq_true_eq, beq_iff_eq, if_neg (show ¬ (-1 : Int) > 0 by decide)]
 omega
section
variable {X : Cx}
noncomputable def iRngD (ta : TA) : TI := fun σ H R => ta σ H fun vs H1 => ∃ i j : Int, vs = [.int i, .int j, .int (-1)] /\ (-(2 ^ 60) <= i /\ i < 2 ^ 60 /\ -(2 ^ 60) <= j /\ j < 2 ^ 60) /\ R (ItrS i (-1) (i - j).toNat) H1
theorem pi_rangeD {tg a b c : Expr} {ta : TA} {p pos : Pos} (hg : Gl X "range") (hm : X.mg "range" = none) (ha : PA X [a, b, c] ta) (hs : starEach [a, b, c] X.env = [(false, eval a X.env), (false, eval b X.env), (false, eval c X.env)] := by rfl)
  (hs2 : starEach [b, c] X.env = [(false, eval b X.env), (false, eval c X.env)] := by rfl) : PI X tg (.Call (.Name "range" p) [a, b, c] [] pos) (iRngD ta) := by
 intro pins s σ H R I h
 refine Call_ (ld_blt I hg hm boot_range (PyProof.Rows.callWith_type1 (thn (ha pos pins s σ H _ I h) fun us s1 ⟨vs, H1, I1, r1, q1⟩ => ?_) (by rw [hs, hs2]) (by rw [hs2]; rfl)))
 obtain ⟨lo, hi, e, ⟨q1, q2, q3, q4⟩, q⟩ := q1
 subst e
 cases r1 with
 | cons r rr =>
  cases rr with
  | cons r' rr =>
   cases rr with
   | cons r'' rr =>
    cases rr
    obtain ⟨t, rfl⟩ := r
    obtain ⟨t', rfl⟩ := r'
    obtain ⟨t'', rfl⟩ := r''
    refine call_range_3 (by decide) ?_ (.inl (PyProof.noPylong_small (by decide)))
    refine wpAny_pyIter_range (IsRange.new ..) (small_down q1 q2 q3 q4) ?_
    have I2 : Inv X pins σ H1 { s1 with heap := s1.heap.push { cls := .type "range", data := .fields #[.int lo t, .int hi t', .int (-1) t''] }, toks := s1.toks } := I1.kept fun b o e => Heap.get?_push_of_some _ e
    refine ⟨(s1.heap.push { cls := .type "range", data := .fields #[.int lo t, .int hi t', .int (-1) t''] }).objs.size, [(s1.heap.push { cls := .type "range", data := .fields #[.int lo t, .int hi t', .int (-1) t''] }).objs.size], _, _, H1, rfl,
     I2.kept (t' := s1.toks) fun b o e => Heap.get?_push_of_some _ e, turn_rangeS _ lo (-1) (lo - hi).toNat, ?_, fun b hb => ?_, q⟩
    ·have e1 : lo + ((0 : Nat) : Int) * (-1) = lo := by simp
     have e2 : (((lo - hi).toNat : Nat) : Int) - ((0 : Nat) : Int) = Builtin.Range.rangeSize lo hi (-1) := by rw [size_down]; simp
     show IsRangeIter _ _ (lo + ((0 : Nat) : Int) * (-1)) ((((lo - hi).toNat : Nat) : Int) - ((0 : Nat) : Int)) (-1)
     rw [e1, e2]
     exact Heap.get?_push_size _ rfl
    ·have e : b = (s1.heap.push { cls := .type "range", data := .fields #[.int lo t, .int hi t', .int (-1) t''] }).objs.size := by simpa using hb
     subst e
     exact I2.fpOk (Nat.le_refl _) (I2.hok.fresh (Nat.le_refl _))
end
end L2
namespace L2
open PySem PySem.Spec PyProof.Rows
noncomputable def EqW (prog : Program) (w : World) (A : Around) (s : Shared) (v y : Value) : Prop := ∀ (E : Value -> Shared -> Prop) (Q : Bool -> Shared -> Prop), Q true s -> wpAny (model prog w) A (eqBool v y) Q E s
section
variable {prog : Program} {w : World} {A : Around} {E : Value -> Shared -> Prop} {s : Shared}
theorem EqW.of {v y : Value} (h : SeqAt.EqAt A s v y true) : EqW prog w A s v y := fun E Q q => h prog w E Q q
theorem EqW.refs {a b : Addr} (h : ∀ (E : Value -> Shared -> Prop) (Q : Value -> Shared -> Prop), Q (.bool true) s -> wpAny (model prog w) A (richCompare .Eq (.ref a) (.ref b)) Q E s) : EqW prog w A s (.ref a) (.ref b) := by
 intro E Q q
 by_cases e : a = b
 ·subst e; exact SeqAt.EqAt.same _ prog w E Q q
 ·unfold eqBool
  refine wpAny_holding (wpAny_ite_split (fun z => absurd (by have := eq_of_beq z; injection this) e) fun _ => ?_)
  exact wpAny_bind (h E _ (wpAny_truthy_bool q))
variable {Kt : Type} [DecidableEq Kt] {knd : KeyKind prog w Kt}
theorem pairsW {nm : String} {a b : Addr} {ka kb : List (Kt × Value)} {Q : Bool -> Shared -> Prop} (ha : (a == sysModules) = false) (hb : (b == sysModules) = false)
  (da : s.heap.DictOf knd a ka) (db : s.heap.DictOf knd b kb) (hl : ka.length = kb.length) (hit : ∀ (i : Nat) (k : Kt) (v : Value), ka[i]? = some (k, v) -> ∃ y, valueAt kb k = some y /\ EqW prog w A s v y) (q : Q true s) :
  wpAny (model prog w) A (Builtin.Dict.samePairs nm a b) Q E s := by
 obtain ⟨oa, ea, na, g1, _, d1, k1, p1, _⟩ := da
 obtain ⟨ob, eb, nb, g2, _, d2, k2, p2, _⟩ := db
 have la : ka.length = ea.size := by rw [<- p1.length]; exact Array.length_toList
 have lb : kb.length = eb.size := by rw [<- p2.length]; exact Array.length_toList
 have sz : ea.size = eb.size := by omega
 unfold Builtin.Dict.samePairs Builtin.Dict.showsAll
 rw [if_neg (show ¬ (a == sysModules) = true by rw [ha]; exact Bool.false_ne_true), if_neg (show ¬ (b == sysModules) = true by rw [hb]; exact Bool.false_ne_true)]
 refine wpAny_bind (wpAny_pure (wpAny_bind (wpAny_pure (wpAny_bind (wpAny_dictEntries g1 d1 ?_)))))
 dsimp only
 refine wpAny_bind (wpAny_dictEntries g2 d2 ?_)
 rw [if_neg (by rw [sz]; simp)]
 refine wpAny_bind (wpAny_dictEpoch g1 d1 (wpAny_bind ?_))
 rw [Std.Legacy.Range.forIn_eq_forIn_range']
 simp only [Std.Legacy.Range.size, Nat.sub_zero, Nat.add_sub_cancel, Nat.div_one]
 refine wpAny_forIn_list _ (fun rest r s' => s' = s /\ r = (none, ()) /\ ∃ i, rest = List.range' i (ea.size - i) /\ i <= ea.size) _ ?_ ?_ _ _ ⟨rfl, rfl, 0, by simp, Nat.zero_le _⟩
 ·rintro x rest r s' ⟨rfl, rfl, i, er, hi⟩
  have lt : i < ea.size := by
   rcases Nat.lt_or_ge i ea.size with z | z
   ·exact z
   ·rw [Nat.sub_eq_zero_of_le z] at er; simp at er
  have e0 : ea.size - i = (ea.size - (i + 1)) + 1 := by omega
  rw [e0, List.range'_succ] at er
  obtain ⟨rfl, er⟩ := List.cons.inj er
  have lt2 : x < ka.length := by omega
  obtain ⟨k, v, ekv⟩ : ∃ k v, ka[x]? = some (k, v) := ⟨_, _, List.getElem?_eq_getElem lt2⟩
  obtain ⟨y, hy, hw⟩ := hit x k v ekv
  obtain ⟨ik, iv⟩ := p1.get? (i := x) (e := ea[x]) (k := k) (v := v) (by rw [Array.getElem?_toList]; exact Array.getElem?_eq_getElem lt) ekv
  obtain ⟨k', ik', hh⟩ := k1 ea[x] (Array.getElem_mem lt)
  have ek : k' = k := knd.inj _ _ _ ik' ik
  subst ek
  refine wpAny_bind (wpAny_dictEntries g1 d1 ?_)
  rw [Array.getElem?_eq_getElem lt]
  show wpAny _ _ (holding [ea[x].key, ea[x].val] _ >>= _) _ _ _
  rw [hh]
  refine wpAny_bind (wpAny_holding (wpAny_bind (wpAny_dictFind_of ik g2 d2 k2 ?_)))
  have fnd : findBy knd.is eb k' = valueAt kb k' := by
   rw [<- p2.find k']
   clear lb p2 k2 d2 g2 sz hit hw hy iv ik ik' hh er e0 lt
   obtain ⟨l⟩ := eb
   simp [findBy]
  cases hj : eb.findIdx? fun e => knd.is k' e.key with
  | none => rw [findBy_of_findIdx?, hj, hy] at fnd; cases fnd
  | some j =>
   obtain ⟨jl, _, _⟩ := Array.findIdx?_eq_some_iff_getElem.mp hj
   have ev : eb[j].val = y := by
    rw [findBy_of_findIdx?, hj, hy] at fnd
    simpa [Array.getElem?_eq_getElem jl] using fnd
   refine wpAny_bind (wpAny_dictEntries g2 d2 ?_)
   rw [Array.getElem?_eq_getElem jl]
   rw [<- ev, <- iv] at hw
   refine wpAny_holding (hw _ _ ?_)
   show wpAny _ _ (if (!true) = true then _ else _) _ _ _
   rw [if_neg (by decide)]
   refine wpAny_bind (wpAny_dictEpoch g1 d1 ?_)
   rw [if_neg (by simp)]
   exact wpAny_pure ⟨rfl, rfl, x + 1, er, lt⟩
 ·rintro r s' ⟨rfl, rfl, _⟩
  exact wpAny_pure q
theorem dictW {a b : Addr} {ka kb : List (Kt × Value)} {Q : Value -> Shared -> Prop} (ha : (a == sysModules) = false) (hb : (b == sysModules) = false) (da : s.heap.DictOf knd a ka) (db : s.heap.DictOf knd b kb) (hu : A.units < cLine) (hl : ka.length = kb.length)
  (hit : ∀ (i : Nat) (k : Kt) (v : Value), ka[i]? = some (k, v) -> ∃ y, valueAt kb k = some y /\ EqW prog w A.in1 s v y) (q : Q (.bool true) s) : wpAny (model prog w) A (richCompare .Eq (.ref a) (.ref b)) Q E s := by
 refine wpAny_richCompare_same_room (op := .Eq) da.typeIs db.typeIs PySem.F.slot_dict_eq (wpAny_call_entry PySem.F.slot_dict_eq da.typeIs PySem.F.entry_dict_eq ?_ (PySem.F.args_dict_eq_2 _ _)) hu
 show wpAny _ _ (Builtin.Dict.dictSlotArgs "__eq__" ⟨[.ref a, .ref b], []⟩ >>= _) _ _ s
 unfold Builtin.Dict.dictSlotArgs
 refine wpAny_bind (wpAny_bind (wpAny_notOrdered_dict da.typeIs ?_))
 show wpAny _ _ (pure (Value.ref a, Value.ref b)) _ _ s
 refine wpAny_pure (wpAny_bind (wpAny_isInstance (T := "dict") db.typeIs PySem.F.sub_dict_dict ?_))
 simp only [Bool.not_true, Bool.false_eq_true, if_false]
 refine wpAny_bind (wpAny_pure (wpAny_bind (wpAny_pure (wpAny_bind (pairsW ha hb da db hl hit ?_)))))
 exact wpAny_pure ⟨_, rfl, (by intro z; cases z), q⟩
open SeqAt in
open SeqAt in
theorem loopN (l b : Addr) (xs ys : Array Value) (n n2 : Nat) (dd dd2 : Option Addr) (sl sl2 : Array (Option Value)) (sz : xs.size = ys.size) (k : Nat) :
  ∀ i : Nat, xs.size - i = k -> MeetsIn prog w (Builtin.«list.__eq__.loop» ⟨[.ref l, .ref b, rawInt i, rawInt 3], []⟩) (fun A R s => s.heap.get? l = some { cls := .type "list", dict := dd, data := .seq xs n, slots := sl } /\ s.heap.get? b = some { cls := .type "list", dict := dd2, data := .seq ys n2, slots := sl2 } /\
    (∀ j (h1 : j < xs.size) (h2 : j < ys.size), EqW prog w A.in1 s xs[j] ys[j]) /\ R (.ok (.ret (.bool false))) s) := by
 induction k with
 | zero =>
  intro i hk A R s h
  obtain ⟨hp, g, d, tk, os⟩ := s
  obtain ⟨hl, hb, he, h⟩ := h
  have i1 : xs[((i : Nat) : Int).toNat]? = none := by simp; omega
  have i2 : ys[((i : Nat) : Int).toNat]? = none := by simp; omega
  wp_walk using AutoSeq1.wpAny_loadPart' hl, AutoSeq1.wpAny_loadPart' hb
  rw [i1, i2]
  wp_walk using AutoSeq1.wpAny_loadPart' hl, AutoSeq1.wpAny_loadPart' hb
  show R (.ok (.ret (.bool (xs.size != ys.size)))) _
  rw [sz]
  simpa using h
 | succ k ih =>
  intro i hk A R s h
  obtain ⟨hp, g, d, tk, os⟩ := s
  obtain ⟨hl, hb, he, h⟩ := h
  have l1 : i < xs.size := by omega
  have l2 : i < ys.size := by omega
  have i1 : xs[((i : Nat) : Int).toNat]? = some xs[i] := by simp [l1]
  have i2 : ys[((i : Nat) : Int).toNat]? = some ys[i] := by simp [l2]
  have hc : ((i : Int) + 1) = ((i + 1 : Nat) : Int) := by push_cast; rfl
  wp_walk using AutoSeq1.wpAny_loadPart' hl, AutoSeq1.wpAny_loadPart' hb
  rw [i1, i2]
  refine wpAny_bind (he i l1 l2 _ _ ?_)
  wp_walk
  rw [hc]
  exact ⟨plainId_quiet MeetsSeq3.plain_eq_loop _, codeAny_builtin MeetsSeq3.entry_eq_loop (by
   rw [Around.under_plainId MeetsSeq3.plain_eq_loop _]
   exact ih (i + 1) (by omega) A R _ ⟨hl, hb, he, h⟩)⟩
theorem listN (l b : Addr) (xs ys : Array Value) (n n2 : Nat) (dd dd2 : Option Addr) (sl sl2 : Array (Option Value)) (sz : xs.size = ys.size) :
  MeetsIn prog w (Builtin.«list.__ne__» ⟨[.ref l, .ref b], []⟩) (fun A R s => s.heap.get? l = some { cls := .type "list", dict := dd, data := .seq xs n, slots := sl } /\ s.heap.get? b = some { cls := .type "list", dict := dd2, data := .seq ys n2, slots := sl2 } /\
    (∀ j (h1 : j < xs.size) (h2 : j < ys.size), EqW prog w A.in1 s xs[j] ys[j]) /\ R (.ok (.ret (.bool false))) s) := by
 intro A R s h
 obtain ⟨hp, g, d, tk, os⟩ := s
 obtain ⟨hl, hb, he, h⟩ := h
 have f3 := AutoSeq1.sub_list_list
 have hne : ¬ (xs.size != ys.size) = true := by simp [sz]
 wp_walk using AutoSeq1.wpAny_loadPart' hl, AutoSeq1.wpAny_loadPart' hb
 exact ⟨plainId_quiet MeetsSeq3.plain_eq_loop _, codeAny_builtin MeetsSeq3.entry_eq_loop (by
  rw [Around.under_plainId MeetsSeq3.plain_eq_loop _]
  exact loopN l b xs ys n n2 dd dd2 sl sl2 sz _ 0 rfl A R _ ⟨hl, hb, he, h⟩)⟩
theorem richN {l b : Addr} {xs ys : Array Value} {Q : Value -> Shared -> Prop} (hl : s.heap.IsList l xs) (hb : s.heap.IsList b ys) (sz : xs.size = ys.size) (hu : A.units < cLine) (he : ∀ j (h1 : j < xs.size) (h2 : j < ys.size), EqW prog w A.in1 s xs[j] ys[j]) (q : Q (.bool false) s) :
  wpAny (model prog w) A (richCompare .NotEq (.ref l) (.ref b)) Q E s := by
 obtain ⟨⟨cls, dd, data, sl⟩, ho, hc, n, hd⟩ := id hl
 obtain ⟨⟨cls2, dd2, data2, sl2⟩, ho2, hc2, n2, hd2⟩ := id hb
 simp only at hc hd hc2 hd2
 subst hc hd hc2 hd2
 exact wpAny_richCompare_same_room (op := .NotEq) ⟨_, ho, rfl⟩ ⟨_, ho2, rfl⟩ F.slot_list_ne (call_meetsIn F.slot_list_ne ⟨_, ho, rfl⟩ F.entry_list_ne (F.args_list_ne_2 _ _) (listN l b xs ys n n2 dd dd2 sl sl2 sz) ⟨ho, ho2, he, show Value.bool false ≠ Value.notImplemented /\ Q (.bool false) s from ⟨(fun x => nomatch x), q⟩⟩) hu
end
end L2
namespace L2
open PySem PySem.Spec PyProof.Rows
noncomputable def AlN (K : PySem.W.Frag) (H : Hp) : Nat -> V -> V -> Prop
 | 0, x, y => (∃ a, x = .ref a /\ y = .ref a) \/ ∃ d, RepD K H d x /\ RepD K H d y /\ d.depth <= 40
 | n + 1, x, y => ((∃ a, x = .ref a /\ y = .ref a) \/ ∃ d, RepD K H d x /\ RepD K H d y /\ d.depth <= 40) \/ ∃ a b ka kb, x = .ref a /\ y = .ref b /\ H a = some (.dK ka) /\ H b = some (.dK kb) /\ ka.length = kb.length /\ ∀ kv ∈ ka, ∃ w, valV kb kv.1 = some w /\ AlN K H n kv.2 w
section
variable {X : Cx} {K : PySem.W.Frag}
theorem eqW0 {pins : List (Addr × Obj)} {σ : St} {H : Hp} {s : Shared} {A : Around} (I : Inv X pins σ H s) {x y : V} {v u : Value} (h : (∃ a, x = .ref a /\ y = .ref a) \/ ∃ d, RepD X.K H d x /\ RepD X.K H d y /\ d.depth <= 40) (rx : RelV x v) (ry : RelV y u) (hu : A.units + 44 < cLine) : EqW X.prog X.w A s v u := by
 rcases h with ⟨a, rfl, rfl⟩ | ⟨d, h1, h2, hd⟩
 ·cases rx; cases ry
  exact EqW.of (SeqAt.EqAt.same _)
 ·obtain ⟨as, r1⟩ := RepD.reads I h1 rx
  obtain ⟨bs, r2⟩ := RepD.reads I h2 ry
  have := SeqAt.eqAt_reads d d A s v u as bs r1 r2 h1.lay h2.lay (by have : min d.depth d.depth = d.depth := Nat.min_self _; omega)
  rw [SeqAt.eqv_refl d h1.lay] at this
  exact EqW.of this
theorem eqWn {pins : List (Addr × Obj)} {σ : St} {H : Hp} {s : Shared} (I : Inv X pins σ H s) : ∀ (n : Nat) {A : Around} {x y : V} {v u : Value}, AlN X.K H n x y -> RelV x v -> RelV y u -> A.units + n + 44 < cLine -> EqW X.prog X.w A s v u
 | 0, A, x, y, v, u, h, rx, ry, hu => eqW0 I h rx ry (by omega)
 | n + 1, A, x, y, v, u, h, rx, ry, hu => by
  rcases h with h | ⟨a, b, ka, kb, rfl, rfl, ha, hb, hl, hh⟩
  ·exact eqW0 I h rx ry (by omega)
  ·cases rx; cases ry
   obtain ⟨z1, y1, va, ra, Da⟩ := dk_of I.hok ha
   obtain ⟨z2, y2, vb, rb, Db⟩ := dk_of I.hok hb
   have e1 : va.length = vb.length := by rw [<- ra.length, <- rb.length, hl]
   refine EqW.refs fun E Q q => dictW y1 y2 Da Db (by omega) e1 (fun i k v' hi => ?_) q
   have hil : i < ka.length := by rw [ra.length]; exact (List.getElem?_eq_some_iff.mp hi).1
   obtain ⟨kv', h1, h2⟩ : ∃ q, va[i]? = some q /\ (ka[i].1 = q.1 /\ RelV ka[i].2 q.2) := by
    have ra' := ra
    unfold KV at ra'
    exact pair_at ra' (List.getElem?_eq_getElem hil)
   rw [hi] at h1
   cases h1
   obtain ⟨w0, e, al⟩ := hh ka[i] (List.getElem_mem hil)
   have rv := rb.val k
   have ek : ka[i].1 = k := h2.1
   rw [ek] at e
   rw [e] at rv
   cases ey : valueAt vb k with
   | none => rw [ey] at rv; exact (show False from rv).elim
   | some y =>
    rw [ey] at rv
    exact ⟨y, rfl, eqWn I n al h2.2 rv (by show A.units + 1 + n + 44 < cLine; omega)⟩
noncomputable def AlL (K : PySem.W.Frag) (H : Hp) (x y : V) : Prop := ∃ a b xs ys, x = .ref a /\ y = .ref b /\ SqL K H a xs /\ SqL K H b ys /\ Paired (AlN K H 3) xs ys
theorem al_of {pins : List (Addr × Obj)} {σ : St} {H : Hp} {s : Shared} {A : Around} (I : Inv X pins σ H s) (hu : A.units + 50 < cLine) {xs ys : List V} {us ws : List Value} (h : Paired (AlN X.K H 3) xs ys) (r : Vals xs us) (r' : Vals ys ws) :
  us.toArray.size = ws.toArray.size /\ ∀ j (h1 : j < us.toArray.size) (h2 : j < ws.toArray.size), EqW X.prog X.w A s us.toArray[j] ws.toArray[j] := by
 have e1 := r.length
 have e2 := r'.length
 have e3 := h.length
 refine ⟨by simp; omega, fun j h1 h2 => ?_⟩
 have j1 : j < us.length := by simpa using h1
 have j2 : j < xs.length := by omega
 obtain ⟨u, hu1, ru⟩ := r.get (List.getElem?_eq_getElem j2)
 obtain ⟨y, hy, al⟩ := pair_at h (List.getElem?_eq_getElem j2)
 obtain ⟨u', hu2, ru'⟩ := r'.get hy
 have e4 : us.toArray[j] = u := by
  have : us[j]? = some us[j] := List.getElem?_eq_getElem j1
  rw [hu1] at this
  simpa using (Option.some.inj this).symm
 have j3 : j < ws.length := by simpa using h2
 have e5 : ws.toArray[j] = u' := by
  have : ws[j]? = some ws[j] := List.getElem?_eq_getElem j3
  rw [hu2] at this
  simpa using (Option.some.inj this).symm
 rw [e4, e5]
 exact eqWn I 3 al ru ru' (by omega)
theorem op_neL {k : Nat} (hK : X.K = K) (hr : Room k X.A) : OpR X (compareOp .NotEq) (fun x y H Q => AlL K H x y /\ Q (.bl false) H) := by
 subst hK
 intro pins s σ H x y v u Q I rx ry h
 obtain ⟨⟨a, b, xs, ys, rfl, rfl, ha, hb, hp⟩, q⟩ := h
 cases rx; cases ry
 obtain ⟨its1, r1, p1, _⟩ := I.list ha
 obtain ⟨its2, r2, p2, _⟩ := I.list hb
 have hu := hr.un
 obtain ⟨sz, he⟩ := al_of (A := X.A.in1) I (by show X.A.units + 1 + 50 < cLine; omega) hp r1 r2
 exact richN p1.isList p2.isList sz (by omega) he ⟨.bl false, H, I, rfl, q⟩
end
end L2
namespace L2
open PySem PySem.Spec PyProof.Rows
section
variable {prog : Program} {w : World} {A : Around} {E : Value -> Shared -> Prop} {s : Shared} {d : Addr} {es : Array DictEntry} {ep : Nat}
end
section
variable {X : Cx} {K : PySem.W.Frag}
end
end L2
namespace L2
open PySem PySem.Spec PyProof.Rows
section
variable {X : Cx}
end
end L2
namespace L2
open PySem PySem.Spec PyProof.Rows
section
variable {X : Cx} {K : PySem.W.Frag}
end
end L2
namespace L2
theorem by_key1 {α : Type} {P C : α -> Prop} {G : Prop} (go : (∀ x, C x -> P x) -> G) (body : ∀ x, C x -> P x) : G := go body
theorem by_key2 {α β : Type} {P C : α -> β -> Prop} {G : Prop} (go : (∀ x y, C x y -> P x y) -> G) (body : ∀ x y, C x y -> P x y) : G := go body
end L2
namespace L2
open PySem PySem.Spec PyProof.Rows
section
variable {X : Cx}
end
end L2
namespace L2
open PySem PySem.Spec PyProof.Rows
section
variable {prog : Program} {w : World} {A : Around} {R : Result -> Shared -> Prop} {I : Addr} {fp wr : List Addr} {G : Array GenState -> Array GenState -> Prop} {P : Nat -> Value -> Prop} {St : Nat -> Shared -> Prop}
end
section
variable {prog : Program} {w : World} {A : Around} {E : Value -> Shared -> Prop} {s : Shared}
end
section
variable {X : Cx}
end
end L2
namespace L2
open PySem PySem.Spec PyProof.Rows
section
variable {P : Program} {w : World} {A : Around} {E : Value -> Shared -> Prop} {s : Shared}
end
section
variable {X : Cx} {K : PySem.W.Frag}
end
end L2
namespace L2
open PySem PySem.Spec PyProof.Rows
section
variable {prog : Program} {w : World} {A : Around} {E : Value -> Shared -> Prop} {h : Heap} {g : Array GenState} {d : Drawn} {t : Nat} {os : OsState} {a : Addr} {fs : Array Value}
end
section
variable {P : Program} {w : World} {A : Around} {E : Value -> Shared -> Prop} {s : Shared}
end
section
variable {P : Program} {w : World} {A : Around} {E : Value -> Shared -> Prop} {s : Shared}
end
section
variable {X : Cx} {e : Expr}
end
end L2
namespace L2
open PySem PySem.Spec PyProof.Rows
section
variable {X : Cx} {K : PySem.W.Frag}
end
end L2
namespace L2
open PySem PySem.Spec PyProof.Rows
open AutoSeq1 (wpAny_loadPart')
section
variable {P : Program} {w : World} {A : Around} {E : Value -> Shared -> Prop} {s : Shared}
end
section
variable {X : Cx} {K : PySem.W.Frag}
end
end L2
namespace L2
open PySem PySem.Spec PyProof.Rows
end L2
namespace L2
open PySem PySem.Spec PyProof.Rows
section
variable {X : Cx}
end
end L2
namespace L2
open PySem PySem.Spec PyProof.Rows
section
variable {X : Cx} {K : PySem.W.Frag}
end
end L2
namespace L2
open PySem PySem.Spec PyProof.Rows
section
variable {X : Cx} {K : PySem.W.Frag}
end
end L2
namespace L2
open PySem PySem.Spec PyProof.Rows
section
variable {X : Cx} {K : PySem.W.Frag}
end
end L2
namespace L2
open PySem PySem.Spec PyProof.Rows
section
variable {X : Cx} {K : PySem.W.Frag}
end
end L2
namespace L2
open PySem PySem.Spec PyProof.Rows
section
variable {X : Cx} {K : PySem.W.Frag}
end
end L2
namespace L2
open PySem PySem.Spec PyProof.Rows
section
variable {X : Cx} {K : PySem.W.Frag}
end
end L2
namespace L2
open PySem PySem.Spec PyProof.Rows
section
variable {prog : Program} {w : World} {A : Around} {R : Result -> Shared -> Prop} {I : Addr} {fp wr : List Addr} {G : Array GenState -> Array GenState -> Prop} {P : Nat -> Value -> Prop} {St : Nat -> Shared -> Prop}
end
section
variable {prog : Program} {w : World} {A : Around} {E : Value -> Shared -> Prop} {s : Shared}
end
section
variable {X : Cx}
end
end L2
namespace L2
open PySem PySem.Spec PyProof.Rows
section
variable {X : Cx} {K : PySem.W.Frag}
end
end L2
namespace L2
open PySem PySem.Spec PyProof.Rows
section
variable {X : Cx} {K : PySem.W.Frag}
end
end L2
namespace Tc
section
variable {α : Type} [DecidableEq α]
end
section
variable {α : Type} [DecidableEq α]
end
section
variable {α : Type} [DecidableEq α]
end
section
variable {α : Type} [DecidableEq α]
end
section
variable {α : Type} [DecidableEq α]
end
end Tc
namespace L2
open PySem PySem.Spec PyProof.Rows
section
variable {prog : Program} {w : World} {A : Around} {E : Value -> Shared -> Prop} {h : Heap} {g : Array GenState} {d : Drawn} {t : Nat} {os : OsState} {a : Addr} {fs : Array Value}
end
section
variable {P : Program} {w : World} {A : Around} {E : Value -> Shared -> Prop} {s : Shared}
end
section
variable {P : Program} {w : World} {A : Around} {E : Value -> Shared -> Prop} {s : Shared}
end
end L2
namespace L2
open PySem PySem.Spec PyProof.Rows
section
variable {P0 : Program} {w0 : World} {A0 : Around} {E0' : Value -> Shared -> Prop} {s0 : Shared} {T0 : String} {r0 d0 : Addr} {n0 : Nat} {F0 : Nat -> Value -> Prop} {G0 : Heap -> Prop}
end
section
variable {X : Cx} {K : PySem.W.Frag}
end
end L2
namespace Tc
section
variable {α : Type} [DecidableEq α]
end
end Tc
namespace Tc
section
variable {α : Type} [DecidableEq α]
end
end Tc
namespace Tc
section
variable {α : Type} [DecidableEq α]
end
end Tc
namespace L2
open PySem PySem.Spec PyProof.Rows
theorem scF {N P : List Str} {sc : Scope} (h1 : sc.kind = .function := by rfl) (h2 : sc.isCoroutine = false := by rfl) (h3 : sc.isGenerator = false := by rfl) (h4 : N.Nodup := by decide +kernel) (h5 : N.take P.length = P := by rfl) (h6 : ∀ x ∈ P, sc.names.lookup x = some .local \/ sc.names.lookup x = some .cell := by decide +kernel) (h7 : ∀ y ∈ sc.names, y.2 ≠ .free := by decide +kernel) : FnScope N P sc := ⟨h1, h2, h3, h4, h5, h6, h7⟩
section
variable {X : Cx} {k j : Nat} {ps : List Str} {sp : Sp} {x : Str} {p pos : Pos} {e : Expr} {es : List Expr} {t : TA}
theorem pfn (F : FnAt X.prog X.w X.K X.mg X.base CX0 j x ps sp) (hr : Room k X.A) (ha : PA X (e :: es) t) (hg : Gl X x := by rfl) (hj : j <= k := by decide)
  (hdb : (x == ("__debug__" : Str)) = false := by decide) (he : starEach (e :: es) X.env = (false, eval e X.env) :: starEach es X.env := by rfl) (hpl : (backTo pos (starEach es X.env)).any (·.1) = false := by rfl) :
  PE X (.Call (.Name x p) (e :: es) [] pos) (tCall sp [] E0 t) := pe_fn F hr hg pass0 ha hj hdb he hpl
end
theorem pixT {X : Cx} {K : PySem.W.Frag} {a b : Expr} {ta tb : TE} {pos : Pos} (ha : PE X a ta) (hb : PE X b tb) (h : X.K = K := by rfl) (hs : PlainIx b := by exact fun _ _ => rfl) : PE X (.Subscript a b pos) (tOp (rIxT K) ta tb) := pe_ix (ix_tup' h) ha hb hs
theorem pixL {X : Cx} {K : PySem.W.Frag} {a b : Expr} {ta tb : TE} {pos : Pos} (ha : PE X a ta) (hb : PE X b tb) (h : X.K = K := by rfl) (hs : PlainIx b := by exact fun _ _ => rfl) : PE X (.Subscript a b pos) (tOp (rIxL K) ta tb) := pe_ix (ix_list' h) ha hb hs
end L2
namespace Tc
open PySem L2
theorem kv_get {l : List (Key × V)} {i : Nat} {k' v : V} (hk : (l.map fun kv => (kV kv.1, kv.2))[i]? = some (k', v)) : ∃ kvi, l[i]? = some kvi /\ (kV kvi.1, kvi.2) = (k', v) := by
 rw [List.getElem?_map] at hk
 cases q : l[i]? with
 | none => rw [q] at hk; cases hk
 | some kvi => rw [q] at hk; exact ⟨kvi, rfl, Option.some.inj hk⟩
end Tc
namespace L2
open PySem PySem.Spec PyProof.Rows
section
variable {prog : Program} {w : World} {A : Around} {E : Value -> Shared -> Prop} {s : Shared}
open SeqAt AutoSeq1 MeetsSeq MeetsSeq2 MeetsSeq3 in
end
section
variable {X : Cx} {K : PySem.W.Frag}
end
end L2
namespace Tc
open PySem PySem.Spec PyProof.Rows L2
section
variable {X : Cx} {K : PySem.W.Frag}
end
end Tc
namespace T62
open PySem L2 Tc
noncomputable def top (i : Nat) : Stmt := PySem.Challenge.pw_tiercask_k62_whole_traced.main.body.getD i (.Pass ⟨0, 0, 0, 0⟩)
set_option genInjectivity false in
structure Ca where
 NoNumber : Addr
structure Txt (K : PySem.W.Frag) (mg : Str -> Option Value) (ca : Ca) : Prop where
 z_abs : mg "abs" = none
 z_dict : mg "dict" = none
 z_enumerate : mg "enumerate" = none
 z_int : mg "int" = none
 z_isinstance : mg "isinstance" = none
 z_len : mg "len" = none
 z_list : mg "list" = none
 z_range : mg "range" = none
 z_reversed : mg "reversed" = none
 z_tuple : mg "tuple" = none
 c_NoNumber : mg "NoNumber" = some (.ref ca.NoNumber)
 e_NoNumber : PySem.W.excIn K ca.NoNumber [.type "ValueError", .type "Exception", .type "BaseException", .type "object"] "ValueError.__new__" = true
 x_NoNumber : ExcK K ca.NoNumber
 i_NoNumber_NoNumber : PySem.W.kitOne K (.ref ca.NoNumber) (.ref ca.NoNumber) = some true
 m_NoNumber_NoNumber : PySem.W.exmOne K (.ref ca.NoNumber) (.ref ca.NoNumber) = some true
structure RowAt (H : Hp) (kvs : List (Key × V)) (f : Str -> Option Rat) : Prop where
 nodup : (kvs.map (·.1)).Nodup
 keys : ∀ kv ∈ kvs, ∃ z, kv.1 = .inr z
 has : ∀ z r, f z = .some r -> ∃ v, valV kvs (.inr z) = .some v /\ FrV H v r
 not : ∀ z, f z = .none -> valV kvs (.inr z) = .none
theorem RowAt.same {H H' : Hp} {kvs : List (Key × V)} {f : Str -> Option Rat} (h : RowAt H kvs f) (s : ∀ v r, FrV H v r -> FrV H' v r) : RowAt H' kvs f :=
 ⟨h.nodup, h.keys, fun z r e => (let ⟨v, a, b⟩ := h.has z r e; ⟨v, a, s v r b⟩), h.not⟩
theorem RowAt.nil (H : Hp) : RowAt H [] fun _ => .none := ⟨List.nodup_nil, (fun _ z => nomatch z), (fun _ _ e => nomatch e), fun _ _ => rfl⟩
theorem keys_put (kvs : List (Key × V)) (k : Key) (v : V) : (putK kvs k v).map (·.1) = if (kvs.any fun kv => decide (kv.1 = k)) = true then kvs.map (·.1) else kvs.map (·.1) ++ [k] := by
 unfold putK
 split
 ·rw [List.map_map]
  apply List.map_congr_left
  intro kv _
  show (if kv.1 = k then (kv.1, v) else kv).1 = kv.1
  split <;> rfl
 ·rw [List.map_append]; rfl
theorem RowAt.put {H : Hp} {kvs : List (Key × V)} {f : Str -> Option Rat} (h : RowAt H kvs f) {z : Str} {v : V} {r : Rat} (hv : FrV H v r) : RowAt H (putK kvs (.inr z) v) fun y => if y = z then .some r else f y := by
 refine ⟨?_, ?_, fun y q e => ?_, fun y e => ?_⟩
 ·rw [keys_put]
  split
  ·exact h.nodup
  ·rename_i hn
   refine List.nodup_append.mpr ⟨h.nodup, by simp, fun a ha b hb e => hn ?_⟩
   have hb := List.mem_singleton.mp hb
   subst hb
   obtain ⟨kv, hk, ek⟩ := List.mem_map.mp ha
   exact List.any_eq_true.mpr ⟨kv, hk, decide_eq_true (ek.trans e)⟩
 ·intro kv hkv
  have : kv.1 ∈ (putK kvs (.inr z) v).map (·.1) := List.mem_map.mpr ⟨kv, hkv, rfl⟩
  rw [keys_put] at this
  split at this
  ·obtain ⟨kw, h1, h2⟩ := List.mem_map.mp this
   rw [<- h2]; exact h.keys kw h1
  ·rcases List.mem_append.mp this with q | q
   ·obtain ⟨kw, h1, h2⟩ := List.mem_map.mp q
    rw [<- h2]; exact h.keys kw h1
   ·exact ⟨z, List.mem_singleton.mp q⟩
 ·rw [valV_put]
  by_cases ey : y = z
  ·subst ey
   rw [if_pos rfl] at e ⊢
   cases e
   exact ⟨v, rfl, hv⟩
  ·rw [if_neg ey] at e
   rw [if_neg fun q => ey (Sum.inr.inj q)]
   exact h.has y q e
 ·rw [valV_put]
  by_cases ey : y = z
  ·subst ey; rw [if_pos rfl] at e; cases e
  ·rw [if_neg ey] at e
   rw [if_neg fun q => ey (Sum.inr.inj q)]
   exact h.not y e
noncomputable def nmz : Key -> Str
 | .inr z => z
 | .inl _ => ""
noncomputable def nms (ks : List (Key × V)) : List Str := ks.map fun kv => nmz kv.1
theorem valV_get : ∀ {ks : List (Key × V)}, (ks.map (·.1)).Nodup -> ∀ {i : Nat} {p : Key × V}, ks[i]? = .some p -> valV ks p.1 = .some p.2
 | [], _, _, _, e => by simp at e
 | q :: qs, hn, 0, p, e => by
  simp at e; subst e
  unfold valV
  rw [List.find?_cons_of_pos (by simp)]; rfl
 | q :: qs, hn, i + 1, p, e => by
  have e' : qs[i]? = .some p := by simpa using e
  rw [List.map_cons, List.nodup_cons] at hn
  have ne : q.1 ≠ p.1 := fun z => hn.1 (by rw [z]; exact List.mem_map.mpr ⟨p, List.mem_of_getElem? e', rfl⟩)
  have ih := valV_get hn.2 e'
  unfold valV at ih ⊢
  rw [List.find?_cons_of_neg (by simp [ne])]; exact ih
theorem nms_mem {ks : List (Key × V)} {z : Str} {v : V} (h : valV ks (.inr z) = .some v) : z ∈ nms ks := by
 unfold valV at h
 cases q : ks.find? fun kv => decide (kv.1 = .inr z) with
 | none => rw [q] at h; cases h
 | some kv =>
  have h1 := List.mem_of_find?_eq_some q
  have h2 := List.find?_some q
  refine List.mem_map.mpr ⟨kv, h1, ?_⟩
  rw [of_decide_eq_true h2]; rfl
theorem nms_not {ks : List (Key × V)} (hn : (ks.map (·.1)).Nodup) {i : Nat} {p : Key × V} (hp : ks[i]? = .some p) {z : Str} (hz : p.1 = .inr z) (hk : ∀ kv ∈ ks, ∃ y, kv.1 = .inr y) : z ∉ nms (ks.take i) := by
 intro h
 obtain ⟨q, hq, e⟩ := List.mem_map.mp h
 obtain ⟨j, hj, ej⟩ := List.getElem_of_mem hq
 have hji : j < i := by rw [List.length_take] at hj; omega
 have hj2 : ks[j]? = .some q := by
  have : (ks.take i)[j]? = .some q := by rw [List.getElem?_eq_getElem hj, ej]
  rwa [List.getElem?_take_of_lt hji] at this
 obtain ⟨y, hy⟩ := hk q (List.mem_of_getElem? hj2)
 have eyz : y = z := by rw [hy] at e; exact e
 have ek : q.1 = p.1 := by rw [hy, eyz, hz]
 have hi : i < ks.length := (List.getElem?_eq_some_iff.mp hp).1
 have hjl : j < ks.length := by omega
 have e1 : (ks.map (·.1))[j]'(by simpa using hjl) = (ks.map (·.1))[i]'(by simpa using hi) := by
  have a1 : ks[j] = q := by rw [List.getElem?_eq_getElem hjl] at hj2; exact Option.some.inj hj2
  have a2 : ks[i] = p := by rw [List.getElem?_eq_getElem hi] at hp; exact Option.some.inj hp
  simp [a1, a2, ek]
 exact List.pairwise_iff_getElem.mp hn j i (by simpa using hjl) (by simpa using hi) hji e1
noncomputable def addF (e s : Str -> Option Rat) (t : Rat) (ks : List Str) : Str -> Option Rat := fun z => if z ∈ ks then .some ((e z).getD 0 + (s z).getD 0 * t) else e z
noncomputable def spAddShares : Sp := fun vs H Q _ => ∃ (a b : Addr) (x : V) (t : Rat) (kv ks : List (Key × V)) (e s : Str -> Option Rat), vs = [.ref a, .ref b, x] /\ a ≠ b /\ H a = some (.dK kv) /\ H b = some (.dK ks) /\ RowAt H kv e /\ RowAt H ks s /\ FrV H x t /\ Bd 3500 t /\
 (∀ z, Bd 3500 ((e z).getD 0) /\ Bd 3500 ((s z).getD 0)) /\ kv.length + ks.length <= 900 /\
 ∀ H' kv', (∀ c o, H c = some o -> c ≠ a -> H' c = some o) -> H' a = some (.dK kv') -> kv'.length <= kv.length + ks.length -> RowAt H' kv' (if t = 0 then e else fun z => if (s z).isSome then .some ((e z).getD 0 + (s z).getD 0 * t) else e z) -> Q .non H'
noncomputable def addR (e s : Str -> Option Rat) (t : Rat) : Str -> Option Rat := if t = 0 then e else fun z => if (s z).isSome then .some ((e z).getD 0 + (s z).getD 0 * t) else e z
noncomputable def spPassed : Sp := fun vs H Q _ => ∃ (rw st ax ay : Addr) (x y : Str) (fr : V) (t : Rat) (rows kx ky : List (Key × V)) (fx fy : Str -> Option Rat), vs = [.ref rw, .ref st] /\ H rw = some (.dK rows) /\ H st = some (.tup [.str "pass", .str x, .str y, fr]) /\ FrV H fr t /\
 valV rows (.inr x) = some (.ref ax) /\ H ax = some (.dK kx) /\ RowAt H kx fx /\ valV rows (.inr y) = some (.ref ay) /\ H ay = some (.dK ky) /\ RowAt H ky fy /\ Bd 3500 t /\ Bd 3500 (1 - t) /\
 (∀ z, Bd 3500 ((fx z).getD 0) /\ Bd 3500 ((fy z).getD 0) /\ Bd 3500 ((addR (fun _ => none) fx (1 - t) z).getD 0)) /\ kx.length + ky.length <= 900 /\
 ∀ p H' kv', H p = none -> Same H H' -> H' p = some (.dK kv') -> kv'.length <= kx.length + ky.length -> RowAt H' kv' (addR (addR (fun _ => none) fx (1 - t)) fy t) -> Q (.ref p) H'
theorem _root_.Tc.FrV.tup {H H' : Hp} {v : V} {r : Rat} (h : FrV H v r) (s : ∀ a xs, H a = some (.tup xs) -> H' a = some (.tup xs)) : FrV H' v r := let ⟨a, e, h⟩ := h; ⟨a, e, s _ _ h⟩
theorem tup_of {H : Hp} {p : Addr} {u o : HO} (hp : H p = some u) (hu : ∀ xs, u ≠ .tup xs) : ∀ a ys, H a = some (.tup ys) -> upd H p o a = some (.tup ys) := fun a ys e => by
 rw [upd_ne (ne_of e hp (fun z => hu ys z.symm))]; exact e
theorem nodup_put {kvs : List (Key × V)} {k : Key} {v : V} (h : (kvs.map (·.1)).Nodup) : ((putK kvs k v).map (·.1)).Nodup := by
 rw [keys_put]
 split
 ·exact h
 ·rename_i hn
  refine List.nodup_append.mpr ⟨h, by simp, fun a ha b hb e => hn ?_⟩
  have hb := List.mem_singleton.mp hb
  subst hb
  obtain ⟨kv, hk, ek⟩ := List.mem_map.mp ha
  exact List.any_eq_true.mpr ⟨kv, hk, decide_eq_true (ek.trans e)⟩
theorem mem_put {kvs : List (Key × V)} {k : Key} {v : V} {kv : Key × V} (h : kv ∈ putK kvs k v) : kv.1 = k \/ ∃ kw ∈ kvs, kw.1 = kv.1 := by
 have : kv.1 ∈ (putK kvs k v).map (·.1) := List.mem_map.mpr ⟨kv, h, rfl⟩
 rw [keys_put] at this
 split at this
 ·obtain ⟨kw, h1, h2⟩ := List.mem_map.mp this
  exact .inr ⟨kw, h1, h2⟩
 ·rcases List.mem_append.mp this with q | q
  ·obtain ⟨kw, h1, h2⟩ := List.mem_map.mp q
   exact .inr ⟨kw, h1, h2⟩
  ·exact .inl (List.mem_singleton.mp q)
theorem nms_nodup {kvs : List (Key × V)} (h : (kvs.map (·.1)).Nodup) (hk : ∀ kv ∈ kvs, ∃ z, kv.1 = .inr z) : (nms kvs).Nodup := by
 unfold nms List.Nodup
 unfold List.Nodup at h
 rw [List.pairwise_map] at h ⊢
 refine List.Pairwise.imp_of_mem (fun {a b} ha hb hab e => hab ?_) h
 obtain ⟨x, hx⟩ := hk a ha
 obtain ⟨y, hy⟩ := hk b hb
 rw [hx, hy] at e ⊢
 have e : x = y := e
 rw [e]
theorem nms_len (kvs : List (Key × V)) : (nms kvs).length = kvs.length := List.length_map ..
theorem RowAt.iff {H : Hp} {kvs : List (Key × V)} {g : Str -> Option Rat} (h : RowAt H kvs g) (z : Str) : z ∈ nms kvs ↔ (g z).isSome = true := by
 constructor
 ·intro q
  obtain ⟨kvi, hm, ez⟩ := List.mem_map.mp q
  obtain ⟨y, hy⟩ := h.keys kvi hm
  obtain ⟨j, hj, ej⟩ := List.getElem_of_mem hm
  have hval := valV_get h.nodup (i := j) (p := kvi) (by rw [List.getElem?_eq_getElem hj, ej])
  have eyz : y = z := by rw [hy] at ez; exact ez
  rw [hy, eyz] at hval
  cases q2 : g z with
  | none => rw [h.not z q2] at hval; cases hval
  | some r => rfl
 ·intro q
  obtain ⟨r, hr⟩ := Option.isSome_iff_exists.mp q
  obtain ⟨v, h1, _⟩ := h.has z r hr
  exact nms_mem h1
theorem RowAt.len {H : Hp} {kvs : List (Key × V)} {f : Str -> Rat} {L : List Str} (h : RowAt H kvs (op f)) (hf : ∀ z, f z ≠ 0 -> z ∈ L) : kvs.length <= L.length := by
 rw [<- nms_len]
 exact nodup_len (nms_nodup h.nodup h.keys) fun z hz => hf z (op_some.mp ((h.iff z).mp hz))
theorem RowAt.len_eq {H H' : Hp} {ka kb : List (Key × V)} {g : Str -> Option Rat} (h : RowAt H ka g) (h' : RowAt H' kb g) : ka.length = kb.length := by
 rw [<- nms_len, <- nms_len]
 exact Nat.le_antisymm (nodup_len (nms_nodup h.nodup h.keys) fun z hz => (h'.iff z).mpr ((h.iff z).mp hz)) (nodup_len (nms_nodup h'.nodup h'.keys) fun z hz => (h.iff z).mpr ((h'.iff z).mp hz))
theorem RowAt.getD {H : Hp} {kvs : List (Key × V)} {g : Str -> Option Rat} (h : RowAt H kvs g) {w : V} (hw : FrV H w 0) (z : Str) : FrV H ((valV kvs (.inr z)).getD w) ((g z).getD 0) := by
 cases q : g z with
 | none => rw [h.not z q]; exact hw
 | some r => obtain ⟨v, h1, h2⟩ := h.has z r q; rw [h1]; exact h2
theorem RowAt.at {H : Hp} {kvs : List (Key × V)} {g : Str -> Option Rat} (h : RowAt H kvs g) {i : Nat} {p : Key × V} (hp : kvs[i]? = some p) : ∃ z r, p.1 = .inr z /\ g z = some r /\ FrV H p.2 r /\ z ∉ nms (kvs.take i) /\ nms (kvs.take (i + 1)) = nms (kvs.take i) ++ [z] := by
 obtain ⟨z, hz⟩ := h.keys p (List.mem_of_getElem? hp)
 have hval := valV_get h.nodup hp
 rw [hz] at hval
 refine ⟨z, ?_⟩
 cases q : g z with
 | none => rw [h.not z q] at hval; cases hval
 | some r =>
  obtain ⟨v', h1, h2⟩ := h.has z r q
  rw [hval] at h1; cases h1
  refine ⟨r, hz, rfl, h2, nms_not h.nodup hp hz h.keys, ?_⟩
  unfold nms
  rw [List.take_add_one, hp, List.map_append]
  show _ ++ [nmz p.1] = _
  rw [hz]; rfl
theorem RowAt.unit {H : Hp} {f : Addr} (n : Str) (h : FrV H (.ref f) 1) : RowAt H (mergeK [] [(.inr n, .ref f)]) (op (dlt n)) := by
 have e : (fun y => if y = n then some (1 : Rat) else (fun _ => none : Str -> Option Rat) y) = op (dlt n) := by
  funext y
  unfold op dlt
  by_cases q : y = n
  ·rw [if_pos q, if_pos q, if_neg (by decide)]
  ·rw [if_neg q, if_neg q, if_pos rfl]
 rw [<- e]
 exact (RowAt.nil H).put (z := n) h
theorem addR_op {g f : Str -> Rat} {t : Rat} (hg : ∀ z, 0 <= g z) (hf : ∀ z, 0 <= f z) (ht : 0 <= t) : addR (op g) (op f) t = op fun z => g z + f z * t := by
 unfold addR
 split
 ·rename_i e
  subst e
  congr 1
  funext z
  rw [Rat.mul_zero, Rat.add_zero]
 ·rename_i e
  funext z
  by_cases q : f z = 0
  ·have n : ¬ (op f z).isSome = true := fun h => op_some.mp h q
   rw [if_neg n]
   have e2 : g z + f z * t = g z := by rw [q, Rat.zero_mul, Rat.add_zero]
   show op g z = op (fun z => g z + f z * t) z
   unfold op
   show _ = if g z + f z * t = 0 then none else some (g z + f z * t)
   rw [e2]
  ·rw [if_pos (op_some.mpr q), op_get, op_get]
   have h1 : 0 < f z * t := Rat.mul_pos (pos_of (hf z) q) (pos_of ht e)
   have n : g z + f z * t ≠ 0 := by have := hg z; grind
   show _ = if g z + f z * t = 0 then none else some (g z + f z * t)
   rw [if_neg n]
inductive Stp where
 | br (z : Str) (yr : Int) (x : Str) (q : Rat)
 | ps (x y : Str) (t : Rat)
noncomputable abbrev Lay (z : Str) : Prop := (PyData.str z).canLay0 = true
noncomputable def bwS : Stp -> (Str -> Str -> Rat) -> (Str -> Str -> Rat)
 | .br _ _ _ _, R => R
 | .ps x y t, R => bw x y t R
noncomputable def fwS : Stp -> (Str -> Rat) -> (Str -> Rat)
 | .br _ _ _ _, v => v
 | .ps x y t, v => fw x y t v
noncomputable def dnS : Stp -> Nat
 | .br _ _ _ _ => 1
 | .ps _ _ t => t.den
noncomputable def OkS (L : List Str) : Stp -> Prop
 | .br z _ x _ => x ∈ L /\ Lay z
 | .ps x y t => x ∈ L /\ y ∈ L /\ x ≠ y /\ 0 <= t /\ t <= 1 /\ t.den < 2 ^ 76
noncomputable def backW (R : Str -> Str -> Rat) : List Stp -> Str -> Str -> Rat
 | [] => R
 | s :: ss => bwS s (backW R ss)
noncomputable def back (ss : List Stp) : Str -> Str -> Rat := backW dlt ss
noncomputable def prodD : List Stp -> Nat
 | [] => 1
 | s :: ss => prodD ss * dnS s
theorem backW_snoc (R : Str -> Str -> Rat) (s : Stp) : ∀ ss : List Stp, backW R (ss ++ [s]) = backW (bwS s R) ss
 | [] => rfl
 | a :: ss => by
  show bwS a (backW R (ss ++ [s])) = bwS a (backW (bwS s R) ss)
  rw [backW_snoc R s ss]
theorem backW_fw (x y : Str) (t : Rat) (R : Str -> Str -> Rat) : ∀ ss : List Stp, backW (fun n => fw x y t (R n)) ss = fun n => fw x y t (backW R ss n)
 | [] => rfl
 | .br _ _ _ _ :: ss => backW_fw x y t R ss
 | .ps x' y' t' :: ss => by
  show bw x' y' t' (backW (fun n => fw x y t (R n)) ss) = fun n => fw x y t (bw x' y' t' (backW R ss) n)
  rw [backW_fw x y t R ss, bw_fw]
theorem back_snoc {L : List Str} (ss : List Stp) {s : Stp} (h : OkS L s) : back (ss ++ [s]) = fun n => fwS s (back ss n) := by
 unfold back
 rw [backW_snoc]
 cases s with
 | br _ _ _ _ => rfl
 | ps x y t =>
  show backW (bw x y t dlt) ss = fun n => fw x y t (backW dlt ss n)
  rw [bw_dlt t h.2.2.1, backW_fw]
theorem back_good {L : List Str} (hn : L.Nodup) : ∀ {ss : List Stp}, (∀ s ∈ ss, OkS L s) -> Good L (prodD ss) (back ss)
 | [], _ => Good.dlt hn
 | .br _ _ _ _ :: ss, h => by
  have g := back_good hn (ss := ss) fun s hs => h s (List.mem_cons_of_mem _ hs)
  show Good L (prodD ss * 1) (back ss)
  rw [Nat.mul_one]; exact g
 | .ps x y t :: ss, h => by
  have g := back_good hn (ss := ss) fun s hs => h s (List.mem_cons_of_mem _ hs)
  obtain ⟨hx, hy, _, h0, h1, _⟩ := h _ List.mem_cons_self
  exact g.bw hx hy h0 h1
theorem dnS_pos : ∀ s : Stp, 0 < dnS s
 | .br _ _ _ _ => Nat.one_pos
 | .ps _ _ t => t.den_pos
theorem dnS_le {L : List Str} : ∀ {s : Stp}, OkS L s -> dnS s <= 2 ^ 76
 | .br _ _ _ _, _ => Nat.one_le_two_pow
 | .ps _ _ _, h => Nat.le_of_lt h.2.2.2.2.2
theorem prodD_pos : ∀ ss : List Stp, 0 < prodD ss
 | [] => Nat.one_pos
 | s :: ss => Nat.mul_pos (prodD_pos ss) (dnS_pos s)
theorem prodD_lt {L : List Str} : ∀ {ss : List Stp}, (∀ s ∈ ss, OkS L s) -> prodD ss < 2 ^ (76 * ss.length + 1)
 | [], _ => by decide
 | s :: ss, h => by
  have g := prodD_lt (ss := ss) fun s hs => h s (List.mem_cons_of_mem _ hs)
  have e : 76 * (s :: ss).length + 1 = (76 * ss.length + 1) + 76 := by rw [List.length_cons]; omega
  rw [e, Nat.pow_add]
  exact Nat.mul_lt_mul_of_lt_of_le g (dnS_le (h s List.mem_cons_self)) (Nat.two_pow_pos _)
theorem _root_.Tc.IsM.bd {P k n : Nat} {r : Rat} (hP : 0 < P) (hk : 1 <= k) (hb : k * P < 2 ^ n) (h : IsM P k r) : Bd n r := by
 obtain ⟨m, hm, rfl⟩ := h.eq hP
 refine Bd.divInt (by omega) ?_ ?_
 ·show m < 2 ^ n
  omega
 ·show P < 2 ^ n
  have := Nat.mul_le_mul_right P hk
  omega
theorem prod_bd {L : List Str} {ss : List Stp} (h : ∀ s ∈ ss, OkS L s) (hl : ss.length <= 32) {k : Nat} (hk : k <= 16) : k * prodD ss < 2 ^ 2600 := by
 have h1 := prodD_lt h
 have h2 : 2 ^ (76 * ss.length + 1) <= 2 ^ 2561 := pow_le (by omega)
 have h3 : k * prodD ss < 2 ^ 4 * 2 ^ 2561 := Nat.lt_of_le_of_lt (Nat.mul_le_mul_right _ hk) (Nat.mul_lt_mul_of_pos_left (Nat.lt_of_lt_of_le h1 h2) (by decide))
 rw [<- Nat.pow_add] at h3
 exact Nat.lt_of_lt_of_le h3 (pow_le (by decide))
theorem _root_.Tc.Bd.share {t : Rat} (h0 : 0 <= t) (h1 : t <= 1) (hd : t.den < 2 ^ 76) : Bd 80 t /\ Bd 80 (1 - t) := by
 have a := (IsM.one 1).mulL h0 h1
 have b := (IsM.one 1).mulR h0 h1
 rw [Rat.one_mul, Nat.one_mul] at a b
 have hb : 1 * t.den < 2 ^ 80 := Nat.lt_of_lt_of_le (by omega) (pow_le (m := 76) (by decide))
 exact ⟨a.bd t.den_pos (Nat.le_refl _) hb, b.bd t.den_pos (Nat.le_refl _) hb⟩
noncomputable def StV (H : Hp) (v : V) : Stp -> Prop
 | .br z yr x q => ∃ a l f, v = .ref a /\ H a = some (.tup [.str "bring", .ref l, .str x, f]) /\ H l = some (.tup [.str z, .int yr]) /\ FrV H f q
 | .ps x y t => ∃ a f, v = .ref a /\ H a = some (.tup [.str "pass", .str x, .str y, f]) /\ FrV H f t
theorem StV.tup {H H' : Hp} (s : ∀ a xs, H a = some (.tup xs) -> H' a = some (.tup xs)) : ∀ {v : V} {st : Stp}, StV H v st -> StV H' v st
 | _, .br _ _ _ _, ⟨a, l, f, e, h1, h2, h3⟩ => ⟨a, l, f, e, s _ _ h1, s _ _ h2, h3.tup s⟩
 | _, .ps _ _ _, ⟨a, f, e, h1, h3⟩ => ⟨a, f, e, s _ _ h1, h3.tup s⟩
theorem StV.same {H H' : Hp} {v : V} {st : Stp} (h : StV H v st) (s : Same H H') : StV H' v st := h.tup fun _ _ e => s _ _ e
theorem steps_same {H H' : Hp} {xs : List V} {ss : List Stp} (h : Paired (StV H) xs ss) (s : Same H H') : Paired (StV H') xs ss := Paired.mapP h fun _ _ f => f.same s
structure TabAt (H0 H : Hp) (rw : Addr) (rows : List (Key × V)) (L : List Str) (R : Str -> Str -> Rat) (ad : Str -> Addr) : Prop where
 nodup : (rows.map (·.1)).Nodup
 keys : ∀ kv ∈ rows, ∃ z, kv.1 = .inr z /\ z ∈ L
 row : ∀ n ∈ L, valV rows (.inr n) = some (.ref (ad n)) /\ H0 (ad n) = none /\ ∃ kvs, H (ad n) = some (.dK kvs) /\ RowAt H kvs (op (R n))
 inj : ∀ n ∈ L, ∀ m ∈ L, ad n = ad m -> n = m
 apart : ∀ n ∈ L, ad n ≠ rw
theorem TabAt.nil (H0 H : Hp) (rw : Addr) (R : Str -> Str -> Rat) (ad : Str -> Addr) : TabAt H0 H rw [] [] R ad := ⟨List.nodup_nil, (fun _ z => nomatch z), (fun _ z => nomatch z), (fun _ z => nomatch z), fun _ z => nomatch z⟩
theorem TabAt.same {H0 H H' : Hp} {rw : Addr} {rows : List (Key × V)} {L : List Str} {R : Str -> Str -> Rat} {ad : Str -> Addr} (T : TabAt H0 H rw rows L R ad) (s : Same H H') : TabAt H0 H' rw rows L R ad :=
 ⟨T.nodup, T.keys, fun n hn => (let ⟨a, b, kvs, c, d⟩ := T.row n hn; ⟨a, b, kvs, s _ _ c, d.same fun _ _ f => f.same s⟩), T.inj, T.apart⟩
theorem TabAt.len {H0 H : Hp} {rw : Addr} {rows : List (Key × V)} {L : List Str} {R : Str -> Str -> Rat} {ad : Str -> Addr} (T : TabAt H0 H rw rows L R ad) (hn : L.Nodup) : rows.length = L.length := by
 rw [<- nms_len]
 refine Nat.le_antisymm (nodup_len (nms_nodup T.nodup fun kv h => (let ⟨z, e, _⟩ := T.keys kv h; ⟨z, e⟩)) fun z hz => ?_) (nodup_len hn fun z hz => nms_mem (T.row z hz).1)
 obtain ⟨kv, h1, h2⟩ := List.mem_map.mp hz
 obtain ⟨y, h3, h4⟩ := T.keys kv h1
 rw [h3] at h2
 have h2 : y = z := h2
 rw [<- h2]; exact h4
theorem TabAt.put {H0 H H' : Hp} {rw : Addr} {rows : List (Key × V)} {L L' : List Str} {R R' : Str -> Str -> Rat} {ad : Str -> Addr} (T : TabAt H0 H rw rows L R ad) {n : Str} {q : Addr} {kvs : List (Key × V)} (hq0 : H0 q = none) (hq : H q = none) (hqr : q ≠ rw)
  (hk : ∀ c o, H c = some o -> c ≠ rw -> H' c = some o) (hH : ∀ v r, FrV H v r -> FrV H' v r) (hr : H' q = some (.dK kvs)) (row : RowAt H' kvs (op (R' n))) (hR : ∀ m ∈ L, m ≠ n -> R' m = R m) (hL : ∀ z, z ∈ L' ↔ z ∈ L \/ z = n) :
  TabAt H0 H' rw (putK rows (.inr n) (.ref q)) L' R' (fun z => if z = n then q else ad z) := by
 have old : ∀ m, m ∈ L' -> m ≠ n -> m ∈ L := fun m hm e => by
  rcases (hL m).mp hm with z | z
  ·exact z
  ·exact absurd z e
 have ne : ∀ m ∈ L, ad m ≠ q := fun m hm e => by
  obtain ⟨_, _, kv, c, _⟩ := T.row m hm
  rw [e, hq] at c; cases c
 refine ⟨nodup_put T.nodup, fun kv h => ?_, fun m hm => ?_, fun m hm l hl e => ?_, fun m hm => ?_⟩
 ·rcases mem_put h with e | ⟨kw, h1, h2⟩
  ·exact ⟨n, e, (hL n).mpr (.inr rfl)⟩
  ·obtain ⟨z, e, hz⟩ := T.keys kw h1
   exact ⟨z, h2 ▸ e, (hL z).mpr (.inl hz)⟩
 ·rw [valV_put]
  by_cases e : m = n
  ·subst e
   rw [if_pos rfl, if_pos rfl]
   exact ⟨rfl, hq0, kvs, hr, row⟩
  ·obtain ⟨a, b, kv, c, d⟩ := T.row m (old m hm e)
   rw [if_neg fun z => e (Sum.inr.inj z), if_neg e]
   refine ⟨a, b, kv, hk _ _ c (T.apart m (old m hm e)), ?_⟩
   rw [hR m (old m hm e) e]
   exact d.same hH
 ·by_cases e1 : m = n
  ·by_cases e2 : l = n
   ·rw [e1, e2]
   ·rw [if_pos e1, if_neg e2] at e
    exact absurd e.symm (ne l (old l hl e2))
  ·by_cases e2 : l = n
   ·rw [if_neg e1, if_pos e2] at e
    exact absurd e (ne m (old m hm e1))
   ·rw [if_neg e1, if_neg e2] at e
    exact T.inj m (old m hm e1) l (old l hl e2) e
 ·by_cases e1 : m = n
  ·rw [if_pos e1]; exact hqr
  ·rw [if_neg e1]; exact T.apart m (old m hm e1)
noncomputable def spUnmoved (K : PySem.W.Frag) : Sp := fun vs H Q _ => ∃ (an : Addr) (L : List Str), vs = [.ref an] /\ SqL K H an (L.map V.str) /\ L.Nodup /\ L.length <= 8 /\ ∀ p H' rows ad, H p = none -> Same H H' -> H' p = some (.dK rows) -> TabAt H H' p rows L dlt ad -> Q (.ref p) H'
theorem _root_.Tc.IsM.mono {P k j : Nat} {r : Rat} (h : IsM P k r) (hk : k <= j) : IsM P j r := by
 obtain ⟨a, m, b, c⟩ := h
 exact ⟨a, m, Nat.le_trans b (Nat.mul_le_mul_right _ hk), c⟩
theorem sumL_isM {P : Nat} {f : Str -> Rat} (h : ∀ z, IsM P 1 (f z)) : ∀ l : List Str, IsM P l.length (sumL l f)
 | [] => IsM.zero P 0
 | z :: l => by
  rw [sumL_cons, Rat.add_comm]
  exact (sumL_isM h l).add (h z)
theorem str_get {L : List Str} {i : Nat} {x : V} (h : (L.map V.str)[i]? = some x) : ∃ n, x = .str n /\ L[i]? = some n := by
 rw [List.getElem?_map] at h
 cases q : L[i]? with
 | none => rw [q] at h; cases h
 | some n => rw [q] at h; exact ⟨n, (Option.some.inj h).symm, rfl⟩
theorem mem_take_succ {L : List Str} {i : Nat} {n : Str} (h : L[i]? = some n) (z : Str) : z ∈ L.take (i + 1) ↔ z ∈ L.take i \/ z = n := by
 rw [List.take_add_one, h]
 simp
theorem paired_mem' {α β : Type} {F : α -> β -> Prop} {xs : List α} {ys : List β} (h : Paired F xs ys) {y : β} (hy : y ∈ ys) : ∃ x, x ∈ xs /\ F x y := by
 induction h with
 | nil => cases hy
 | cons r t ih =>
  rcases List.mem_cons.mp hy with e | e
  ·exact ⟨_, List.mem_cons_self, e ▸ r⟩
  ·obtain ⟨x, h1, h2⟩ := ih e
   exact ⟨x, List.mem_cons_of_mem _ h1, h2⟩
theorem paired_imp {α β : Type} {F G : α -> β -> Prop} {xs : List α} {ys : List β} (h : Paired F xs ys) (k : ∀ x y, y ∈ ys -> F x y -> G x y) : Paired G xs ys := by
 induction h with
 | nil => exact .nil
 | cons r t ih => exact .cons (k _ _ List.mem_cons_self r) (ih fun x y hy f => k x y (List.mem_cons_of_mem _ hy) f)
set_option genInjectivity false in
structure Br where
 z : Str
 yr : Int
 q : Rat
 g : Str -> Rat
noncomputable def brL : List Stp -> List Br
 | [] => []
 | .br z yr x q :: ss => ⟨z, yr, q, back ss x⟩ :: brL ss
 | .ps _ _ _ :: ss => brL ss
noncomputable def adv (s : Stp) (b : Br) : Br := ⟨b.z, b.yr, b.q, fwS s b.g⟩
noncomputable def newB : Stp -> List Br
 | .br z yr x q => [⟨z, yr, q, dlt x⟩]
 | .ps _ _ _ => []
theorem brL_snoc {L : List Str} (s : Stp) (h : OkS L s) : ∀ ss : List Stp, brL (ss ++ [s]) = (brL ss).map (adv s) ++ newB s
 | [] => by cases s <;> rfl
 | .br z yr x q :: ss => by
  show (⟨z, yr, q, back (ss ++ [s]) x⟩ : Br) :: brL (ss ++ [s]) = _
  rw [brL_snoc s h ss, back_snoc ss h]; rfl
 | .ps _ _ _ :: ss => brL_snoc s h ss
theorem brL_len : ∀ ss : List Stp, (brL ss).length <= ss.length
 | [] => Nat.le_refl _
 | .br _ _ _ _ :: ss => Nat.succ_le_succ (brL_len ss)
 | .ps _ _ _ :: ss => Nat.le_succ_of_le (brL_len ss)
theorem brL_mem {L : List Str} : ∀ {ss : List Stp}, (∀ s ∈ ss, OkS L s) -> ∀ b ∈ brL ss, ∃ n x, x ∈ L /\ b.g = back (ss.drop n) x
 | .br z yr x q :: ss, h, b, hb => by
  rcases List.mem_cons.mp hb with e | e
  ·exact ⟨1, x, (h _ List.mem_cons_self).1, by rw [e]; rfl⟩
  ·obtain ⟨n, y, hy, eg⟩ := brL_mem (ss := ss) (fun s hs => h s (List.mem_cons_of_mem _ hs)) b e
   exact ⟨n + 1, y, hy, eg⟩
 | .ps _ _ _ :: ss, h, b, hb => by
  obtain ⟨n, y, hy, eg⟩ := brL_mem (ss := ss) (fun s hs => h s (List.mem_cons_of_mem _ hs)) b hb
  exact ⟨n + 1, y, hy, eg⟩
noncomputable def BrV (H : Hp) (v : V) (bd : Br × Addr) : Prop := ∃ a l f kvs, v = .ref a /\ H a = some (.tup [.ref l, f, .ref bd.2]) /\ H l = some (.tup [.str bd.1.z, .int bd.1.yr]) /\ FrV H f bd.1.q /\ H bd.2 = some (.dK kvs) /\ RowAt H kvs (op bd.1.g)
theorem BrV.keep {H H' : Hp} {v : V} {bd : Br × Addr} (h : BrV H v bd) (s : ∀ a xs, H a = some (.tup xs) -> H' a = some (.tup xs)) (d : ∀ kvs, H bd.2 = some (.dK kvs) -> H' bd.2 = some (.dK kvs)) : BrV H' v bd := by
 obtain ⟨a, l, f, kvs, e, h1, h2, h3, h4, h5⟩ := h
 exact ⟨a, l, f, kvs, e, s _ _ h1, s _ _ h2, h3.tup s, d _ h4, h5.same fun v r g => g.tup s⟩
noncomputable def spBrought (K : PySem.W.Frag) : Sp := fun vs H Q _ => ∃ (an as : Addr) (L : List Str) (xs : List V) (ss : List Stp), vs = [.ref an, .ref as] /\ SqL K H an (L.map V.str) /\ L.Nodup /\ L.length <= 8 /\ SqL K H as xs /\ Paired (StV H) xs ss /\ (∀ s ∈ ss, OkS L s) /\ ss.length <= 32 /\
 ∀ p H' ys tds, H p = none -> Same H H' -> H' p = some (.lst ys) -> Paired (BrV H') ys tds -> tds.map (·.1) = brL ss -> (tds.map (·.2)).Nodup -> (∀ d ∈ tds.map (·.2), H d = none) -> Q (.ref p) H'
noncomputable def spForth (K : PySem.W.Frag) : Sp := fun vs H Q _ => ∃ (an as : Addr) (L : List Str) (xs : List V) (ss : List Stp) (k : Nat) (b : Br), vs = [.ref an, .ref as, .int (k : Nat)] /\ SqL K H an (L.map V.str) /\ L.Nodup /\ L.length <= 8 /\ SqL K H as xs /\ Paired (StV H) xs ss /\ (∀ s ∈ ss, OkS L s) /\ ss.length <= 32 /\ (brL ss)[k]? = some b /\
 ∀ d H' kvs, H d = none -> Same H H' -> H' d = some (.dK kvs) -> RowAt H' kvs (op b.g) -> Q (.ref d) H'
noncomputable def OkQ : Stp -> Prop
 | .br _ _ _ q => 0 < q /\ IsM 159739999685311463424 1000 q
 | .ps _ _ _ => True
theorem _root_.Tc.IsM.prod {P Q k j : Nat} {a b : Rat} (h : IsM P k a) (g : IsM Q j b) : IsM (P * Q) (k * j) (a * b) := by
 obtain ⟨a0, m, hm, e⟩ := h
 obtain ⟨b0, n, hn, f⟩ := g
 refine ⟨Rat.mul_nonneg a0 b0, m * n, ?_, ?_⟩
 ·have := Nat.mul_le_mul hm hn
  have e2 : k * P * (j * Q) = k * j * (P * Q) := by grind
  rw [e2] at this; exact this
 ·rw [Rat.natCast_mul, Rat.natCast_mul, <- e, <- f]; grind
theorem prodD_app : ∀ a b : List Stp, prodD (a ++ b) = prodD b * prodD a
 | [], b => by show prodD b = prodD b * 1; rw [Nat.mul_one]
 | s :: a, b => by
  show prodD (a ++ b) * dnS s = prodD b * (prodD a * dnS s)
  rw [prodD_app a b, Nat.mul_assoc]
theorem prodD_drop (ss : List Stp) (n : Nat) : prodD ss = prodD (ss.drop n) * prodD (ss.take n) := by
 rw [<- prodD_app, List.take_append_drop]
noncomputable def amt (pl : Str) (b : Br) : Rat := b.q * b.g pl
theorem brL_q : ∀ {ss : List Stp}, (∀ s ∈ ss, OkQ s) -> ∀ b ∈ brL ss, 0 < b.q /\ IsM 159739999685311463424 1000 b.q
 | .br z yr x q :: ss, h, b, hb => by
  rcases List.mem_cons.mp hb with e | e
  ·rw [e]; exact h _ List.mem_cons_self
  ·exact brL_q (ss := ss) (fun s hs => h s (List.mem_cons_of_mem _ hs)) b e
 | .ps _ _ _ :: ss, h, b, hb => brL_q (ss := ss) (fun s hs => h s (List.mem_cons_of_mem _ hs)) b hb
theorem amt_ok {L : List Str} (hn : L.Nodup) {ss : List Stp} (hO : ∀ s ∈ ss, OkS L s) (hQ : ∀ s ∈ ss, OkQ s) (pl : Str) : ∀ b ∈ brL ss, IsM (159739999685311463424 * prodD ss) 1000 (amt pl b) := by
 intro b hb
 obtain ⟨n, x, hx, eg⟩ := brL_mem hO b hb
 have G := back_good hn (ss := ss.drop n) fun s hs => hO s (List.mem_of_mem_drop hs)
 have h1 : IsM (prodD ss) 1 (b.g pl) := by
  rw [prodD_drop ss n, eg]; exact (G.part x hx pl).up _
 have h2 := (brL_q hQ b hb).2.prod h1
 exact h2
theorem amt_bd {L : List Str} {ss : List Stp} (hO : ∀ s ∈ ss, OkS L s) (hl : ss.length <= 32) {k : Nat} (hk : k <= 64000) : k * (159739999685311463424 * prodD ss) < 2 ^ 2700 := by
 have h1 := prodD_lt hO
 have h2 : 2 ^ (76 * ss.length + 1) <= 2 ^ 2561 := pow_le (by omega)
 have h3 : k * 159739999685311463424 * prodD ss < 2 ^ 90 * 2 ^ 2561 := by
  have h4 : k * 159739999685311463424 <= 2 ^ 90 := Nat.le_trans (Nat.mul_le_mul_right 159739999685311463424 hk) (by decide)
  exact Nat.lt_of_le_of_lt (Nat.mul_le_mul_right _ h4) (Nat.mul_lt_mul_of_pos_left (Nat.lt_of_lt_of_le h1 h2) (by decide))
 rw [<- Nat.pow_add, Nat.mul_assoc] at h3
 exact Nat.lt_of_lt_of_le h3 (pow_le (by decide))
theorem sum_isM {P N : Nat} : ∀ {rs : List Rat}, (∀ r ∈ rs, IsM P N r) -> IsM P (rs.length * N) (sumQ rs)
 | [], _ => by rw [List.length_nil, Nat.zero_mul]; exact IsM.zero P 0
 | r :: rs, h => by
  rw [sumQ_cons, List.length_cons, Nat.succ_mul, Nat.add_comm, Rat.add_comm, Nat.add_comm]
  exact (sum_isM fun q hq => h q (List.mem_cons_of_mem _ hq)).add (h r List.mem_cons_self)
theorem sum_pos {P N : Nat} {rs : List Rat} (h : ∀ r ∈ rs, IsM P N r) {r : Rat} (hr : r ∈ rs) (hp : r ≠ 0) : 0 < sumQ rs := by
 induction rs with
 | nil => cases hr
 | cons q rs ih =>
  rw [sumQ_cons]
  have h0 := (sum_isM (rs := rs) fun q hq => h q (List.mem_cons_of_mem _ hq)).1
  have h1 := (h q List.mem_cons_self).1
  rcases List.mem_cons.mp hr with e | e
  ·subst e
   have := pos_of h1 hp
   grind
  ·have := ih (fun q hq => h q (List.mem_cons_of_mem _ hq)) e
   grind
noncomputable def nz (rs : List Rat) (j : Nat) : List Nat := (List.range j).filter fun k => decide (rs.getD k 0 ≠ 0)
theorem nz_succ_pos {rs : List Rat} {j : Nat} (h : rs.getD j 0 ≠ 0) : nz rs (j + 1) = nz rs j ++ [j] := by
 unfold nz
 rw [List.range_succ, List.filter_append]
 have e : [j].filter (fun k => decide (rs.getD k 0 ≠ 0)) = [j] := by
  rw [List.filter_cons, if_pos (decide_eq_true h)]; rfl
 rw [e]
theorem nz_succ_zero {rs : List Rat} {j : Nat} (h : rs.getD j 0 = 0) : nz rs (j + 1) = nz rs j := by
 unfold nz
 rw [List.range_succ, List.filter_append]
 have e : [j].filter (fun k => decide (rs.getD k 0 ≠ 0)) = [] := by
  rw [List.filter_cons, if_neg (show ¬ decide (rs.getD j 0 ≠ 0) = true by rw [h]; decide)]; rfl
 rw [e, List.append_nil]
theorem nz_len (rs : List Rat) (j : Nat) : (nz rs j).length <= j := by
 unfold nz
 have := List.length_filter_le (fun k => decide (rs.getD k 0 ≠ 0)) (List.range j)
 rw [List.length_range] at this; exact this
noncomputable def PrV (H : Hp) (v : V) (m : Nat × Rat) : Prop := ∃ a f, v = .ref a /\ H a = some (.tup [.int (m.1 : Nat), f]) /\ FrV H f m.2
theorem PrV.tup {H H' : Hp} {v : V} {m : Nat × Rat} (h : PrV H v m) (s : ∀ a xs, H a = some (.tup xs) -> H' a = some (.tup xs)) : PrV H' v m := by
 obtain ⟨a, f, e, h1, h2⟩ := h
 exact ⟨a, f, e, s _ _ h1, h2.tup s⟩
theorem PrV.same {H H' : Hp} {v : V} {m : Nat × Rat} (h : PrV H v m) (s : Same H H') : PrV H' v m := h.tup fun _ _ e => s _ _ e
noncomputable def rsOf (pl : Str) (ss : List Stp) : List Rat := (brL ss).map (amt pl)
noncomputable def outs (rs : List Rat) : List (Nat × Rat) := (nz rs rs.length).map fun k => (k, rs.getD k 0 / sumQ rs)
noncomputable def spBack (K : PySem.W.Frag) : Sp := fun vs H Q _ => ∃ (an as : Addr) (L : List Str) (xs : List V) (ss : List Stp) (pl : Str), vs = [.ref an, .ref as, .str pl] /\ SqL K H an (L.map V.str) /\ L.Nodup /\ L.length <= 8 /\ SqL K H as xs /\ Paired (StV H) xs ss /\ (∀ s ∈ ss, OkS L s) /\ (∀ s ∈ ss, OkQ s) /\ ss.length <= 32 /\
 ∀ p H' zs, H p = none -> Same H H' -> H' p = some (.lst zs) -> Paired (PrV H') zs (outs (rsOf pl ss)) -> Q (.ref p) H'
theorem getD_at {rs : List Rat} {j : Nat} {r : Rat} (h : rs[j]? = some r) : rs.getD j 0 = r := by rw [List.getD_eq_getElem?_getD, h]; rfl
noncomputable def mx (a b : Rat) : Rat := if a < b then b else a
noncomputable def rse (v : Str -> Rat) (p : Str) (r : Rat) : Str -> Rat := fun z => if z = p then mx (v p) r else v z
noncomputable def gm (x y : Str) (t : Rat) (v : Str -> Rat) : Str -> Rat := fun z => if z = y then mx (v y) (v x * t) else if z = x then v x * (1 - t) else v z
noncomputable def gmS : Stp -> (Str -> Rat) -> (Str -> Rat)
 | .br _ _ _ _, v => v
 | .ps x y t, v => gm x y t v
noncomputable def gmN (ss : List Stp) (v : Str -> Rat) (j : Nat) : Str -> Rat := (ss.take j).foldl (fun v s => gmS s v) v
theorem gmN_succ {ss : List Stp} {v : Str -> Rat} {j : Nat} {s : Stp} (h : ss[j]? = some s) : gmN ss v (j + 1) = gmS s (gmN ss v j) := by
 unfold gmN
 rw [List.take_add_one, h, List.foldl_append]; rfl
theorem mx_isM {P k : Nat} {a b : Rat} (h : IsM P k a) (g : IsM P k b) : IsM P k (mx a b) := by
 unfold mx
 split
 ·exact g
 ·exact h
theorem mx_comm (a b : Rat) : mx a b = mx b a := by
 unfold mx
 split <;> split <;> grind
theorem mx_zero {a : Rat} (h : 0 <= a) : mx 0 a = a := by
 unfold mx
 split <;> grind
theorem gmS_isM {L : List Str} {P : Nat} {v : Str -> Rat} (h : ∀ z, IsM P 1 (v z)) : ∀ {s : Stp}, OkS L s -> ∀ z, IsM (P * dnS s) 1 (gmS s v z)
 | .br _ _ _ _, _, z => by
  show IsM (P * 1) 1 (v z)
  rw [Nat.mul_one]; exact h z
 | .ps x y t, ⟨_, _, _, t0, t1, _⟩, z => by
  show IsM (P * t.den) 1 (gm x y t v z)
  unfold gm
  split
  ·exact mx_isM ((h y).up t.den) ((h x).mulL t0 t1)
  ·split
   ·exact (h x).mulR t0 t1
   ·exact (h z).up t.den
theorem prodD_snoc (s : Stp) : ∀ a : List Stp, prodD (a ++ [s]) = prodD a * dnS s
 | [] => rfl
 | b :: a => by
  show prodD (a ++ [s]) * dnS b = prodD a * dnS b * dnS s
  rw [prodD_snoc s a, Nat.mul_assoc, Nat.mul_comm (dnS s), Nat.mul_assoc]
theorem gmS_sup {L : List Str} {v : Str -> Rat} (h : ∀ z, v z ≠ 0 -> z ∈ L) : ∀ {s : Stp}, OkS L s -> ∀ z, gmS s v z ≠ 0 -> z ∈ L
 | .br _ _ _ _, _, z, n => h z n
 | .ps x y t, ⟨hx, hy, _⟩, z, n => by
  have n : gm x y t v z ≠ 0 := n
  unfold gm at n
  by_cases e1 : z = y
  ·rw [e1]; exact hy
  ·by_cases e2 : z = x
   ·rw [e2]; exact hx
   ·rw [if_neg e1, if_neg e2] at n; exact h z n
theorem dlt_isM (x z : Str) : IsM 1 1 (dlt x z) := by
 unfold dlt
 split
 ·exact IsM.one 1
 ·exact IsM.zero 1 1
theorem gmN_ok {L : List Str} {ss : List Stp} (hO : ∀ s ∈ ss, OkS L s) {x : Str} (hx : x ∈ L) : ∀ j, j <= ss.length -> (∀ z, IsM (prodD (ss.take j)) 1 (gmN ss (dlt x) j z)) /\ ∀ z, gmN ss (dlt x) j z ≠ 0 -> z ∈ L
 | 0, _ => ⟨fun z => dlt_isM x z, fun z n => by
   by_cases e : z = x
   ·rw [e]; exact hx
   ·exact absurd (by show dlt x z = 0; unfold dlt; rw [if_neg e]) n⟩
 | j + 1, hj => by
  obtain ⟨h1, h2⟩ := gmN_ok hO hx j (by omega)
  have hs : ss[j]? = some ss[j] := List.getElem?_eq_getElem (by omega)
  have ok := hO _ (List.mem_of_getElem? hs)
  rw [gmN_succ hs, List.take_add_one, hs]
  refine ⟨fun z => ?_, fun z n => gmS_sup h2 ok z n⟩
  have := gmS_isM h1 ok z
  rw [<- prodD_snoc] at this; exact this
theorem rse_op {v : Str -> Rat} {p : Str} {r : Rat} (h : v p < r) (h0 : 0 <= v p) : (fun y => if y = p then some r else op v y) = op (rse v p r) := by
 funext y
 unfold op rse mx
 by_cases e : y = p
 ·subst e
  have : r ≠ 0 := by grind
  simp [h, this]
 ·simp [e]
theorem rse_not {v : Str -> Rat} {p : Str} {r : Rat} (h : ¬ v p < r) : rse v p r = v := by
 funext z
 unfold rse mx
 by_cases e : z = p
 ·rw [if_pos e, if_neg h, e]
 ·rw [if_neg e]
theorem gm_zero {x y : Str} {t : Rat} {v : Str -> Rat} (h : v x = 0) (h0 : 0 <= v y) : gm x y t v = v := by
 funext z
 unfold gm
 rw [h, Rat.zero_mul, Rat.zero_mul, mx_comm, mx_zero h0]
 by_cases e1 : z = y
 ·rw [if_pos e1, e1]
 ·rw [if_neg e1]
  by_cases e2 : z = x
  ·rw [if_pos e2, e2, h]
  ·rw [if_neg e2]
noncomputable def part (x : Str) (t : Rat) (v : Str -> Rat) (ks : List Str) : Str -> Rat := fun z => if z ∈ ks then (if z = x then v x * (1 - t) else v z) else 0
theorem part_snoc {x p : Str} {t : Rat} {v : Str -> Rat} {ks : List Str} (h : p ∉ ks) (h0 : 0 <= (if p = x then v x * (1 - t) else v p)) : rse (part x t v ks) p (if p = x then v x * (1 - t) else v p) = part x t v (ks ++ [p]) := by
 funext z
 unfold rse
 by_cases e : z = p
 ·have e0 : part x t v ks p = 0 := by unfold part; rw [if_neg h]
  rw [if_pos e, e0, mx_zero h0, e]
  have hm : p ∈ ks ++ [p] := by simp
  unfold part
  rw [if_pos hm]
 ·rw [if_neg e]
  unfold part
  simp [e]
theorem part_all {x y : Str} {t : Rat} {v : Str -> Rat} {ks : List Str} (hxy : x ≠ y) (hx : x ∈ ks) (h : ∀ z, v z ≠ 0 -> z ∈ ks) : rse (part x t v ks) y (v x * t) = gm x y t v := by
 have ep : ∀ z, part x t v ks z = if z = x then v x * (1 - t) else v z := fun z => by
  unfold part
  split
  ·rfl
  ·rename_i n
   have ne : z ≠ x := fun e => n (e ▸ hx)
   rw [if_neg ne]
   by_cases q : v z = 0
   ·exact q.symm
   ·exact absurd (h z q) n
 funext z
 unfold rse gm
 by_cases e : z = y
 ·rw [if_pos e, if_pos e, ep y, if_neg fun e => hxy e.symm]
 ·rw [if_neg e, if_neg e, ep z]
noncomputable def brIx : Nat -> List Stp -> List Nat
 | _, [] => []
 | o, .br _ _ _ _ :: ss => o :: brIx (o + 1) ss
 | o, .ps _ _ _ :: ss => brIx (o + 1) ss
noncomputable def isBr : Stp -> Bool
 | .br _ _ _ _ => true
 | .ps _ _ _ => false
theorem brIx_snoc (s : Stp) : ∀ (o : Nat) (ss : List Stp), brIx o (ss ++ [s]) = brIx o ss ++ (if isBr s then [o + ss.length] else [])
 | o, [] => by cases s <;> rfl
 | o, .br _ _ _ _ :: ss => by
  show o :: brIx (o + 1) (ss ++ [s]) = o :: brIx (o + 1) ss ++ _
  rw [brIx_snoc s (o + 1) ss, List.length_cons]
  have e : o + 1 + ss.length = o + (ss.length + 1) := by omega
  rw [e]; rfl
 | o, .ps _ _ _ :: ss => by
  show brIx (o + 1) (ss ++ [s]) = brIx (o + 1) ss ++ _
  rw [brIx_snoc s (o + 1) ss, List.length_cons]
  have e : o + 1 + ss.length = o + (ss.length + 1) := by omega
  rw [e]
theorem brIx_mem : ∀ {o : Nat} {ss : List Stp} {i : Nat}, i ∈ brIx o ss -> ∃ z yr x q, o <= i /\ ss[i - o]? = some (.br z yr x q)
 | o, .br z yr x q :: ss, i, h => by
  rcases List.mem_cons.mp h with e | e
  ·rw [e]; exact ⟨z, yr, x, q, Nat.le_refl _, by rw [Nat.sub_self]; rfl⟩
  ·obtain ⟨z', yr', x', q', h1, h2⟩ := brIx_mem (o := o + 1) e
   refine ⟨z', yr', x', q', by omega, ?_⟩
   have e : i - o = (i - (o + 1)) + 1 := by omega
   rw [e, List.getElem?_cons_succ]; exact h2
 | o, .ps _ _ _ :: ss, i, h => by
  obtain ⟨z', yr', x', q', h1, h2⟩ := brIx_mem (o := o + 1) (ss := ss) h
  refine ⟨z', yr', x', q', by omega, ?_⟩
  have e : i - o = (i - (o + 1)) + 1 := by omega
  rw [e, List.getElem?_cons_succ]; exact h2
theorem brIx_at {ss : List Stp} {k i : Nat} (h : (brIx 0 ss)[k]? = some i) : ∃ z yr x q, ss[i]? = some (.br z yr x q) := by
 obtain ⟨z, yr, x, q, _, e⟩ := brIx_mem (List.mem_of_getElem? h)
 exact ⟨z, yr, x, q, e⟩
theorem brIx_len : ∀ (o : Nat) (ss : List Stp), (brIx o ss).length = (brL ss).length
 | _, [] => rfl
 | o, .br _ _ _ _ :: ss => congrArg (· + 1) (brIx_len (o + 1) ss)
 | o, .ps _ _ _ :: ss => brIx_len (o + 1) ss
theorem cutd_from (xs : List V) {k : Nat} (h : k <= xs.length) : cutV xs (some (k : Int)) none = xs.drop k := by
 have e1 : HT.sIx xs.length 0 (some (k : Int)) = min k xs.length := HT.sIx_nat _ _ k
 have e2 : HT.sIx xs.length xs.length none = xs.length := rfl
 unfold cutV
 rw [e1, e2, Nat.min_eq_left h]
 exact List.take_of_length_le (by rw [List.length_drop]; exact Nat.le_refl _)
noncomputable def spBringAt (K : PySem.W.Frag) : Sp := fun vs H Q _ => ∃ (as : Addr) (xs : List V) (ss : List Stp) (k i : Nat), vs = [.ref as, .int (k : Nat)] /\ SqL K H as xs /\ Paired (StV H) xs ss /\ ss.length <= 32 /\ (brIx 0 ss)[k]? = some i /\ ∀ H', Same H H' -> Q (.int (i : Nat)) H'
noncomputable def spRaise : Sp := fun vs H Q _ => ∃ (a : Addr) (kv : List (Key × V)) (v : Str -> Rat) (p : Str) (f : V) (r : Rat), vs = [.ref a, .str p, f] /\ H a = some (.dK kv) /\ RowAt H kv (op v) /\ FrV H f r /\ 0 <= v p /\ Bd 8000 (v p) /\ Bd 8000 r /\ kv.length <= 900 /\
 ∀ H' kv', (∀ c o, H c = some o -> c ≠ a -> H' c = some o) -> H' a = some (.dK kv') -> kv'.length <= kv.length + 1 -> RowAt H' kv' (op (rse v p r)) -> Q .non H'
noncomputable def spBehindStep : Sp := fun vs H Q _ => ∃ (a st : Addr) (s : Stp) (L : List Str) (kv : List (Key × V)) (v : Str -> Rat) (P : Nat), vs = [.ref a, .ref st] /\ H a = some (.dK kv) /\ StV H (.ref st) s /\ OkS L s /\ RowAt H kv (op v) /\ 0 < P /\ (∀ z, IsM P 1 (v z)) /\ 16 * (P * dnS s) < 2 ^ 2700 /\ kv.length <= 8 /\
 ∀ p H' kv', H p = none -> Same H H' -> H' p = some (.dK kv') -> RowAt H' kv' (op (gmS s v)) -> Q (.ref p) H'
noncomputable def GrV (H : Hp) (v : V) (gd : (Str -> Rat) × Addr) : Prop := v = .ref gd.2 /\ ∃ kvs, H gd.2 = some (.dK kvs) /\ RowAt H kvs (op gd.1)
theorem GrV.keep {H H' : Hp} {v : V} {gd : (Str -> Rat) × Addr} (h : GrV H v gd) (s : ∀ a xs, H a = some (.tup xs) -> H' a = some (.tup xs)) (d : ∀ kvs, H gd.2 = some (.dK kvs) -> H' gd.2 = some (.dK kvs)) : GrV H' v gd := by
 obtain ⟨e, kvs, h1, h2⟩ := h
 exact ⟨e, kvs, d _ h1, h2.same fun v r g => g.tup s⟩
theorem GrV.same {H H' : Hp} {v : V} {gd : (Str -> Rat) × Addr} (h : GrV H v gd) (s : Same H H') : GrV H' v gd := h.keep (fun _ _ e => s _ _ e) fun _ e => s _ _ e
noncomputable def gmL (ss : List Stp) (x : Str) (n : Nat) : List (Str -> Rat) := (List.range n).map (gmN ss (dlt x))
noncomputable def spGreatest (K : PySem.W.Frag) : Sp := fun vs H Q _ => ∃ (as : Addr) (L : List Str) (xs : List V) (ss : List Stp) (k i : Nat) (z : Str) (yr : Int) (x : Str) (q : Rat), vs = [.ref as, .int (k : Nat)] /\ L.length <= 8 /\ SqL K H as xs /\ Paired (StV H) xs ss /\ (∀ s ∈ ss, OkS L s) /\ ss.length <= 32 /\ (brIx 0 ss)[k]? = some i /\ ss[i]? = some (.br z yr x q) /\
 ∀ p H' ys tds, H p = none -> Same H H' -> H' p = some (.lst ys) -> Paired (GrV H') ys tds -> tds.map (·.1) = gmL (ss.drop (i + 1)) x (ss.length - i) -> (tds.map (·.2)).Nodup -> (∀ d ∈ tds.map (·.2), H d = none) -> Q (.ref p) H'
noncomputable def Leg : Stp -> Str -> Str -> Prop
 | .br _ _ _ _, a, b => b = a
 | .ps x y _, a, b => if a = x then b = a \/ b = y else b = a
noncomputable def pt : Stp -> Str -> Str -> Rat
 | .br _ _ _ _, _, _ => 1
 | .ps x _ t, a, b => if a = x then (if b = a then 1 - t else t) else 1
noncomputable def nth (W : List Str) (j : Nat) : Str := W.getD j ""
noncomputable def ptA (sr : List Stp) (W : List Str) (j : Nat) : Rat := match sr[j]? with
 | some s => pt s (nth W j) (nth W (j + 1))
 | none => 1
noncomputable def shr (sr : List Stp) (W : List Str) : Nat -> Rat
 | 0 => 1
 | j + 1 => shr sr W j * ptA sr W j
theorem shr_succ {sr : List Stp} {W : List Str} {j : Nat} {s : Stp} (h : sr[j]? = some s) : shr sr W (j + 1) = shr sr W j * pt s (nth W j) (nth W (j + 1)) := by
 show shr sr W j * ptA sr W j = _
 unfold ptA
 rw [h]
structure Way (sr : List Stp) (x : Str) (W : List Str) : Prop where
 len : W.length = sr.length + 1
 first : nth W 0 = x
 leg : ∀ (j : Nat) (s : Stp), sr[j]? = some s -> Leg s (nth W j) (nth W (j + 1))
theorem nth_at {W : List Str} {j : Nat} (h : j < W.length) : (W.map V.str)[j]? = some (.str (nth W j)) := by
 rw [List.getElem?_map, List.getElem?_eq_getElem h]
 unfold nth
 rw [List.getD_eq_getElem?_getD, List.getElem?_eq_getElem h]; rfl
theorem nth_new {W : List Str} {b : Str} : nth (W ++ [b]) W.length = b := by
 unfold nth
 rw [List.getD_eq_getElem?_getD, List.getElem?_append_right (Nat.le_refl _), Nat.sub_self]; rfl
theorem pt_isM {L : List Str} {P : Nat} {r : Rat} (h : IsM P 1 r) : ∀ {s : Stp}, OkS L s -> ∀ a b, IsM (P * dnS s) 1 (r * pt s a b)
 | .br _ _ _ _, _, a, b => by
  show IsM (P * 1) 1 (r * 1)
  rw [Nat.mul_one, Rat.mul_one]; exact h
 | .ps x y t, ⟨_, _, _, t0, t1, _⟩, a, b => by
  show IsM (P * t.den) 1 (r * (if a = x then (if b = a then 1 - t else t) else 1))
  split
  ·split
   ·exact h.mulR t0 t1
   ·exact h.mulL t0 t1
  ·rw [Rat.mul_one]; exact h.up t.den
theorem shr_isM {L : List Str} {sr : List Stp} (hO : ∀ s ∈ sr, OkS L s) (W : List Str) : ∀ j, j <= sr.length -> IsM (prodD (sr.take j)) 1 (shr sr W j)
 | 0, _ => IsM.one 1
 | j + 1, hj => by
  have hs : sr[j]? = some sr[j] := List.getElem?_eq_getElem (by omega)
  rw [shr_succ hs, List.take_add_one, hs]
  have := pt_isM (shr_isM hO W j (by omega)) (hO _ (List.mem_of_getElem? hs)) (nth W j) (nth W (j + 1))
  rw [<- prodD_snoc] at this; exact this
noncomputable def ahd : Stp -> (Str -> Rat) -> Str -> Rat -> Str
 | .br _ _ _ _, _, b, _ => b
 | .ps x y t, g, b, c => if y = b /\ g x ≠ 0 /\ g x * t = c then x else b
theorem ahd_ok {L : List Str} {g : Str -> Rat} (h0 : ∀ z, 0 <= g z) : ∀ {s : Stp}, OkS L s -> ∀ {b : Str}, gmS s g b ≠ 0 -> Leg s (ahd s g b (gmS s g b)) b /\ g (ahd s g b (gmS s g b)) ≠ 0 /\ g (ahd s g b (gmS s g b)) * pt s (ahd s g b (gmS s g b)) b = gmS s g b
 | .br _ _ _ _, _, b, n => ⟨rfl, n, by show g b * 1 = g b; rw [Rat.mul_one]⟩
 | .ps x y t, ⟨_, _, hxy, t0, t1, _⟩, b, n => by
  have n : gm x y t g b ≠ 0 := n
  show Leg (.ps x y t) (if y = b /\ g x ≠ 0 /\ g x * t = gm x y t g b then x else b) b /\ g (if y = b /\ g x ≠ 0 /\ g x * t = gm x y t g b then x else b) ≠ 0 /\ g (if y = b /\ g x ≠ 0 /\ g x * t = gm x y t g b then x else b) * pt (.ps x y t) (if y = b /\ g x ≠ 0 /\ g x * t = gm x y t g b then x else b) b = gm x y t g b
  by_cases c : y = b /\ g x ≠ 0 /\ g x * t = gm x y t g b
  ·rw [if_pos c]
   obtain ⟨c1, c2, c3⟩ := c
   refine ⟨?_, c2, ?_⟩
   ·show if x = x then b = x \/ b = y else b = x
    rw [if_pos rfl]; exact .inr c1.symm
   ·show g x * (if x = x then (if b = x then 1 - t else t) else 1) = _
    rw [if_pos rfl, if_neg (fun e => hxy (by rw [c1, e])), c3]
  ·rw [if_neg c]
   by_cases e : b = x
   ·have ne : b ≠ y := fun z => hxy (by rw [<- e, z])
    have eg : gm x y t g b = g x * (1 - t) := by unfold gm; rw [if_neg ne, if_pos e]
    refine ⟨?_, ?_, ?_⟩
    ·show if b = x then b = b \/ b = y else b = b
     rw [if_pos e]; exact .inl rfl
    ·intro z
     rw [eg, <- e, z, Rat.zero_mul] at n; exact n rfl
    ·show g b * (if b = x then (if b = b then 1 - t else t) else 1) = _
     rw [if_pos e, if_pos rfl, eg, e]
   ·have eg : gm x y t g b = g b := by
     unfold gm
     by_cases e1 : b = y
     ·rw [if_pos e1]
      by_cases e2 : g x = 0
      ·rw [e2, Rat.zero_mul, mx_comm, mx_zero (h0 y), e1]
      ·have c3 : g x * t ≠ gm x y t g b := fun z => c ⟨e1.symm, e2, z⟩
       have e4 : gm x y t g b = mx (g y) (g x * t) := by unfold gm; rw [if_pos e1]
       rw [e4] at c3
       unfold mx at c3 ⊢
       by_cases l : g y < g x * t
       ·rw [if_pos l] at c3; exact absurd rfl c3
       ·rw [if_neg l, e1]
     ·rw [if_neg e1, if_neg e]
    refine ⟨?_, ?_, ?_⟩
    ·show if b = x then b = b \/ b = y else b = b
     rw [if_neg e]
    ·rw [<- eg]; exact n
    ·show g b * (if b = x then (if b = b then 1 - t else t) else 1) = _
     rw [if_neg e, Rat.mul_one, eg]
noncomputable def Wy : List Stp -> (Str -> Rat) -> List Str -> Prop
 | [], g, W => ∃ a, W = [a] /\ g a ≠ 0
 | s :: ss, g, W => ∃ a b W', W = a :: b :: W' /\ Leg s a b /\ g a ≠ 0 /\ g a * pt s a b = gmS s g b /\ Wy ss (gmS s g) (b :: W')
theorem nth_succ (a : Str) (W : List Str) (j : Nat) : nth (a :: W) (j + 1) = nth W j := rfl
theorem Wy.at : ∀ {ss : List Stp} {g : Str -> Rat} {W : List Str}, Wy ss g W -> W.length = ss.length + 1 /\ g (nth W 0) ≠ 0 /\ ∀ (j : Nat) (s : Stp), ss[j]? = some s -> Leg s (nth W j) (nth W (j + 1)) /\ gmN ss g j (nth W j) * pt s (nth W j) (nth W (j + 1)) = gmN ss g (j + 1) (nth W (j + 1))
 | [], g, W, ⟨a, e, n⟩ => by
  subst e
  exact ⟨rfl, n, fun j s h => by simp at h⟩
 | s :: ss, g, W, ⟨a, b, W', e, l, n, eq, h⟩ => by
  subst e
  obtain ⟨h1, h2, h3⟩ := h.at
  refine ⟨by rw [List.length_cons, h1]; rfl, n, fun j s' hj => ?_⟩
  cases j with
  | zero =>
   have hj : s = s' := Option.some.inj hj
   subst hj
   exact ⟨l, eq⟩
  | succ j =>
   rw [List.getElem?_cons_succ] at hj
   exact h3 j s' hj
theorem Wy.way {sr : List Stp} {x : Str} {W : List Str} (h : Wy sr (dlt x) W) : Way sr x W /\ ∀ j, j <= sr.length -> shr sr W j = gmN sr (dlt x) j (nth W j) := by
 obtain ⟨h1, h2, h3⟩ := h.at
 have e0 : nth W 0 = x := by
  by_cases e : nth W 0 = x
  ·exact e
  ·exact absurd (by unfold dlt; rw [if_neg e]) h2
 refine ⟨⟨h1, e0, fun j s hs => (h3 j s hs).1⟩, fun j => ?_⟩
 induction j with
 | zero =>
  intro _
  show (1 : Rat) = dlt x (nth W 0)
  rw [e0]
  unfold dlt
  rw [if_pos rfl]
 | succ j ih =>
  intro hj
  have hs : sr[j]? = some sr[j] := List.getElem?_eq_getElem (by omega)
  rw [shr_succ hs, ih (by omega), (h3 j _ hs).2]
noncomputable def spAhead : Sp := fun vs H Q _ => ∃ (st d : Addr) (s : Stp) (L : List Str) (kv : List (Key × V)) (g : Str -> Rat) (b : Str) (f : V) (c : Rat), vs = [.ref st, .ref d, .str b, f] /\ StV H (.ref st) s /\ OkS L s /\ H d = some (.dK kv) /\ RowAt H kv (op g) /\ FrV H f c /\ (∀ z, Bd 2700 (g z)) /\ ∀ H', Same H H' -> Q (.str (ahd s g b c)) H'
noncomputable def GrL (K : PySem.W.Frag) (H : Hp) (as : Addr) (L : List Str) (xs : List V) (ss : List Stp) (i : Nat) (x : Str) : Prop := L.length <= 8 /\ SqL K H as xs /\ Paired (StV H) xs ss /\ (∀ s ∈ ss, OkS L s) /\ ss.length <= 32 /\ ∃ z yr q, ss[i]? = some (.br z yr x q)
noncomputable def FndV (H : Hp) (v : V) (sr : List Stp) (x pl : Str) (pw : Addr) : Prop := ∃ t f W, v = .ref t /\ H t = some (.tup [.ref pw, f]) /\ H pw = some (.lst (W.map V.str)) /\ FrV H f (gmN sr (dlt x) sr.length pl) /\ Way sr x W /\ nth W sr.length = pl /\ shr sr W sr.length = gmN sr (dlt x) sr.length pl
noncomputable def spGWay (K : PySem.W.Frag) : Sp := fun vs H Q _ => ∃ (as : Addr) (L : List Str) (xs : List V) (ss : List Stp) (k i : Nat) (x pl : Str), vs = [.ref as, .int (k : Nat), .str pl] /\ GrL K H as L xs ss i x /\ (brIx 0 ss)[k]? = some i /\
 (gmN (ss.drop (i + 1)) (dlt x) (ss.drop (i + 1)).length pl = 0 -> ∀ H', Same H H' -> Q .non H') /\
 (gmN (ss.drop (i + 1)) (dlt x) (ss.drop (i + 1)).length pl ≠ 0 -> ∀ v H' pw, Same H H' -> FndV H' v (ss.drop (i + 1)) x pl pw -> H pw = none -> Q v H')
theorem repT {K : PySem.W.Frag} {H : Hp} {a : Addr} {vs : List V} {xs : List PyData} (h : SqT K H a vs) (r : RepDs K H xs vs) : RepD K H (.tuple xs) (.ref a) := by simp only [RepD]; exact ⟨a, vs, rfl, h, r⟩
theorem repL {K : PySem.W.Frag} {H : Hp} {a : Addr} {vs : List V} {xs : List PyData} (h : SqL K H a vs) (r : RepDs K H xs vs) : RepD K H (.list xs) (.ref a) := by simp only [RepD]; exact ⟨a, vs, rfl, h, r⟩
theorem reps0 {K : PySem.W.Frag} {H : Hp} : RepDs K H [] [] := by simp [RepDs]
theorem repsC {K : PySem.W.Frag} {H : Hp} {d : PyData} {v : V} {ds : List PyData} {vs : List V} (h : RepD K H d v) (r : RepDs K H ds vs) : RepDs K H (d :: ds) (v :: vs) := by simp only [RepDs]; exact ⟨_, _, rfl, h, r⟩
theorem repI {K : PySem.W.Frag} {H : Hp} {i : Int} : RepD K H (.int i) (.int i) := by rw [RepD]
theorem depth_map {α : Type} {f : α -> PyData} {n : Nat} (h : ∀ a, (f a).depth <= n) : ∀ l : List α, PyData.depthAll (l.map f) <= n
 | [] => by simp [PyData.depthAll]
 | a :: l => by
  rw [List.map_cons]; simp only [PyData.depthAll]
  have := h a
  have := depth_map h l
  omega
noncomputable def spMixed2 : Sp := fun vs H Q _ => ∃ c j : Int, vs = [.int c, .int j] /\ (0 <= j /\ j < 4) /\ ∀ (m : Int) H', 0 <= m -> m < 65551 -> Same H H' -> Q (.int m) H'
noncomputable def spLowest2 : Sp := fun vs H Q _ => ∃ t b : Int, vs = [.int t, .int b] /\ 0 < b /\ b.natAbs < 2 ^ 9000 /\ ∀ v H', Same H H' -> FrV H' v (Rat.divInt t b) -> Q v H'
noncomputable def RwV (H : Hp) (v : V) (r : Rat) : Prop := ∃ a t b, v = .ref a /\ H a = some (.tup [.int t, .int b]) /\ 0 < b /\ r = Rat.divInt t b /\ t.natAbs < 2 ^ 4000 /\ b.natAbs < 2 ^ 4000
theorem _root_.Tc.FrV.rw {H : Hp} {v : V} {r : Rat} (h : FrV H v r) (b : Bd 4000 r) : RwV H v r := by
 obtain ⟨a, e, h⟩ := h
 exact ⟨a, r.num, r.den, e, h, rat_den_pos r, (Rat.num_divInt_den r).symm, b.num, b.den⟩
noncomputable def spTimesW : Sp := fun vs H Q _ => ∃ x y r q, vs = [x, y] /\ RwV H x r /\ RwV H y q /\ ∀ v H', Same H H' -> FrV H' v (r * q) -> Q v H'
inductive Plc where
 | ck (z : Str) (r : Rat)
 | sk (z : Str)
noncomputable def nmP : Plc -> Str
 | .ck z _ => z
 | .sk z => z
noncomputable def isC : Plc -> Bool
 | .ck _ _ => true
 | .sk _ => false
noncomputable def kd (b : Bool) : Str := if b then "cask" else "sink"
noncomputable def PlV (H : Hp) (v : V) : Plc -> Prop
 | .ck z r => ∃ a f, v = .ref a /\ H a = some (.tup [.str "cask", .str z, f]) /\ FrV H f r
 | .sk z => ∃ a, v = .ref a /\ H a = some (.tup [.str "sink", .str z])
theorem PlV.tup {H H' : Hp} (s : ∀ a xs, H a = some (.tup xs) -> H' a = some (.tup xs)) : ∀ {v : V} {p : Plc}, PlV H v p -> PlV H' v p
 | _, .ck _ _, ⟨a, f, e, h1, h2⟩ => ⟨a, f, e, s _ _ h1, h2.tup s⟩
 | _, .sk _, ⟨a, e, h1⟩ => ⟨a, e, s _ _ h1⟩
theorem PlV.same {H H' : Hp} {v : V} {p : Plc} (h : PlV H v p) (s : Same H H') : PlV H' v p := h.tup fun _ _ e => s _ _ e
theorem PlV.at {H : Hp} : ∀ {v : V} {p : Plc}, PlV H v p -> ∃ a ys, v = .ref a /\ H a = some (.tup ys) /\ atI ys 0 = some (.str (kd (isC p))) /\ atI ys 1 = some (.str (nmP p))
 | _, .ck _ _, ⟨a, f, e, h1, h2⟩ => ⟨a, _, e, h1, rfl, rfl⟩
 | _, .sk _, ⟨a, e, h1⟩ => ⟨a, _, e, h1, rfl, rfl⟩
theorem house_same {H H' : Hp} {xs : List V} {ps : List Plc} (h : Paired (PlV H) xs ps) (s : Same H H') : Paired (PlV H') xs ps := Paired.mapP h fun _ _ f => f.same s
noncomputable def allN (ps : List Plc) : List Str := ps.map nmP
noncomputable def ckN (ps : List Plc) : List Str := (ps.filter isC).map nmP
structure HouseOk (ps : List Plc) : Prop where
 nd : (allN ps).Nodup
 lay : ∀ z ∈ allN ps, Lay z
 len : ps.length <= 8
theorem ck_sub {ps : List Plc} {z : Str} (h : z ∈ ckN ps) : z ∈ allN ps := by
 obtain ⟨p, hp, e⟩ := List.mem_map.mp h
 exact List.mem_map.mpr ⟨p, (List.mem_filter.mp hp).1, e⟩
theorem HouseOk.ck {ps : List Plc} (h : HouseOk ps) : (ckN ps).Nodup := h.nd.sublist (List.filter_sublist.map nmP)
theorem ck_len {ps : List Plc} : (ckN ps).length <= ps.length := by
 unfold ckN
 rw [List.length_map]
 exact List.length_filter_le _ _
noncomputable def all (L : List Str) (f : Str -> Rat) : Str -> Option Rat := fun z => if z ∈ L then some (f z) else none
theorem all_snoc (L : List Str) (f : Str -> Rat) (n : Str) : all (L ++ [n]) f = fun y => if y = n then some (f n) else all L f y := by
 funext y
 unfold all
 by_cases e : y = n
 ·subst e; simp
 ·simp [e]
theorem all_nil (f : Str -> Rat) : all [] f = fun _ => none := by funext z; simp [all]
theorem take_one {α : Type} {L : List α} {i : Nat} {n : α} (h : L[i]? = some n) : L.take (i + 1) = L.take i ++ [n] := by rw [List.take_add_one, h]; rfl
noncomputable def rmF : List Plc -> Str -> Option Rat
 | [], _ => none
 | .ck z r :: ps, y => if y = z then some r else rmF ps y
 | .sk _ :: ps, y => rmF ps y
theorem rmF_some {ps : List Plc} {z : Str} : z ∈ ckN ps -> ∃ r, rmF ps z = some r := by
 induction ps with
 | nil => intro h; cases h
 | cons p ps ih =>
  intro h
  cases p with
  | ck z' r' =>
   by_cases e : z = z'
   ·exact ⟨r', if_pos e⟩
   ·have h' : z ∈ ckN ps := by
     rcases List.mem_cons.mp (show z ∈ z' :: ckN ps from h) with q | q
     ·exact absurd q e
     ·exact q
    obtain ⟨r, hr⟩ := ih h'
    exact ⟨r, (if_neg e).trans hr⟩
  | sk z' => exact ih h
theorem rmF_mem {ps : List Plc} {z : Str} {r : Rat} : rmF ps z = some r -> z ∈ ckN ps /\ Plc.ck z r ∈ ps := by
 induction ps with
 | nil => intro h; cases h
 | cons p ps ih =>
  intro h
  cases p with
  | ck z' r' =>
   by_cases e : z = z'
   ·subst e
    have h : some r' = some r := (if_pos rfl).symm.trans h
    cases h
    exact ⟨List.mem_cons_self, List.mem_cons_self⟩
   ·have h : rmF ps z = some r := (if_neg e).symm.trans h
    obtain ⟨h1, h2⟩ := ih h
    exact ⟨List.mem_cons_of_mem _ h1, List.mem_cons_of_mem _ h2⟩
  | sk z' =>
   obtain ⟨h1, h2⟩ := ih h
   exact ⟨h1, List.mem_cons_of_mem _ h2⟩
inductive Dd where
 | br (z x : Str) (r : Rat)
 | pt (x y : Str) (q : Rat)
 | al (x y : Str)
 | fl (x y : Str)
 | mv (x y : Str) (r : Rat)
 | yr
noncomputable def DdV (H : Hp) (v : V) : Dd -> Prop
 | .br z x r => ∃ a f, v = .ref a /\ H a = some (.tup [.str "bring", .str z, .str x, f]) /\ FrV H f r
 | .pt x y r => ∃ a f, v = .ref a /\ H a = some (.tup [.str "part", .str x, .str y, f]) /\ FrV H f r
 | .al x y => ∃ a, v = .ref a /\ H a = some (.tup [.str "all", .str x, .str y])
 | .fl x y => ∃ a, v = .ref a /\ H a = some (.tup [.str "fill", .str x, .str y])
 | .mv x y r => ∃ a f, v = .ref a /\ H a = some (.tup [.str "move", .str x, .str y, f]) /\ FrV H f r
 | .yr => ∃ a, v = .ref a /\ H a = some (.tup [.str "year"])
theorem DdV.tup {H H' : Hp} (s : ∀ a xs, H a = some (.tup xs) -> H' a = some (.tup xs)) : ∀ {v : V} {d : Dd}, DdV H v d -> DdV H' v d
 | _, .br _ _ _, ⟨a, f, e, h1, h3⟩ => ⟨a, f, e, s _ _ h1, h3.tup s⟩
 | _, .pt _ _ _, ⟨a, f, e, h1, h3⟩ => ⟨a, f, e, s _ _ h1, h3.tup s⟩
 | _, .al _ _, ⟨a, e, h1⟩ => ⟨a, e, s _ _ h1⟩
 | _, .fl _ _, ⟨a, e, h1⟩ => ⟨a, e, s _ _ h1⟩
 | _, .mv _ _ _, ⟨a, f, e, h1, h3⟩ => ⟨a, f, e, s _ _ h1, h3.tup s⟩
 | _, .yr, ⟨a, e, h1⟩ => ⟨a, e, s _ _ h1⟩
theorem share_back {g u : Rat} (h0 : 0 <= g) (h1 : g <= u) : u * (g / u) = g := by
 by_cases e : u = 0
 ·subst e
  have : g = 0 := by grind
  subst this
  exact Rat.zero_mul _
 ·grind
theorem all_put {L : List Str} {t : Str -> Rat} {x : Str} {r : Rat} (hx : x ∈ L) : (fun y => if y = x then some r else all L t y) = all L (fun z => if z = x then r else t z) := by
 funext y
 unfold all
 by_cases e : y = x
 ·subst e; simp [hx]
 ·simp [e]
theorem all_at {L : List Str} {t : Str -> Rat} {x : Str} (hx : x ∈ L) : all L t x = some (t x) := if_pos hx
theorem RowAt.get {H : Hp} {kv : List (Key × V)} {L : List Str} {t : Str -> Rat} (h : RowAt H kv (all L t)) {x : Str} (hx : x ∈ L) : ∃ v, valV kv (.inr x) = some v /\ FrV H v (t x) := h.has x (t x) (all_at hx)
theorem RowAt.lenO {H : Hp} {kvs : List (Key × V)} {f : Str -> Option Rat} {L : List Str} (h : RowAt H kvs f) (hf : ∀ z, (f z).isSome = true -> z ∈ L) : kvs.length <= L.length := by
 rw [<- nms_len]
 exact nodup_len (nms_nodup h.nodup h.keys) fun z hz => hf z ((h.iff z).mp hz)
theorem all_sub {L : List Str} {t : Str -> Rat} {z : Str} (h : (all L t z).isSome = true) : z ∈ L := by
 unfold all at h
 split at h
 ·assumption
 ·cases h
noncomputable def isP : Dd -> Bool
 | .br _ _ _ => false
 | .yr => false
 | _ => true
noncomputable def shD (ps : List Plc) (t : Str -> Rat) : Dd -> Rat
 | .pt _ _ q => q
 | .al _ _ => 1
 | .fl x y => ((rmF ps y).getD 0 - t y) / t x
 | .mv x _ r => r / t x
 | _ => 0
noncomputable def kdD : Dd -> Str
 | .br _ _ _ => "bring"
 | .pt _ _ _ => "part"
 | .al _ _ => "all"
 | .fl _ _ => "fill"
 | .mv _ _ _ => "move"
 | .yr => "year"
theorem DdV.kd {H : Hp} : ∀ {v : V} {d : Dd}, DdV H v d -> ∃ a ys, v = .ref a /\ H a = some (.tup ys) /\ atI ys 0 = some (.str (kdD d))
 | _, .br _ _ _, ⟨a, f, e, h1, _⟩ => ⟨a, _, e, h1, rfl⟩
 | _, .pt _ _ _, ⟨a, f, e, h1, _⟩ => ⟨a, _, e, h1, rfl⟩
 | _, .al _ _, ⟨a, e, h1⟩ => ⟨a, _, e, h1, rfl⟩
 | _, .fl _ _, ⟨a, e, h1⟩ => ⟨a, _, e, h1, rfl⟩
 | _, .mv _ _ _, ⟨a, f, e, h1, _⟩ => ⟨a, _, e, h1, rfl⟩
 | _, .yr, ⟨a, e, h1⟩ => ⟨a, _, e, h1, rfl⟩
theorem kd_br {d : Dd} : (V.str (kdD d) = V.str "bring") ↔ (isP d = false /\ d ≠ .yr) := by
 cases d <;> simp [kdD, isP] <;> decide +kernel
theorem kd_yr {d : Dd} : (V.str (kdD d) = V.str "year") ↔ d = .yr := by
 cases d <;> simp [kdD] <;> decide +kernel
noncomputable def Pw (i : Nat) : Nat := 6 * 12 ^ i
theorem Pw_pos (i : Nat) : 0 < Pw i := Nat.mul_pos (by decide) (Nat.pow_pos (by decide))
theorem Pw_succ (i : Nat) : Pw (i + 1) = Pw i * 12 := by unfold Pw; rw [Nat.pow_succ, Nat.mul_assoc]
theorem Pw_le {i : Nat} (h : i <= 19) : Pw i <= 2 ^ 72 := by
 have : (12 : Nat) ^ i <= 12 ^ 19 := Nat.pow_le_pow_right (by decide) h
 unfold Pw
 exact Nat.le_trans (Nat.mul_le_mul_left 6 this) (by decide)
theorem isM_ups {i j k : Nat} {r : Rat} (h : IsM (Pw i) k r) (hij : i <= j) : IsM (Pw j) k r := by
 obtain ⟨d, rfl⟩ := Nat.exists_eq_add_of_le hij
 have := h.up (12 ^ d)
 have e : Pw i * 12 ^ d = Pw (i + d) := by unfold Pw; rw [Nat.mul_assoc, <- Nat.pow_add]
 rw [e] at this; exact this
theorem isM_cut {P k j : Nat} {r : Rat} (h : IsM P k r) (hr : r <= (j : Rat)) : IsM P j r := by
 obtain ⟨h0, m, _, e⟩ := h
 refine ⟨h0, m, ?_, e⟩
 have h1 : r * (P : Rat) <= (j : Rat) * (P : Rat) := Rat.mul_le_mul_of_nonneg_right hr Rat.natCast_nonneg
 rw [e, <- Rat.natCast_mul] at h1
 exact Rat.natCast_le_natCast.mp h1
theorem isM_le {P k : Nat} {r : Rat} (hP : 0 < P) (h : IsM P k r) : r <= (k : Rat) := by
 obtain ⟨h0, m, hm, e⟩ := h
 have h1 : ((m : Nat) : Rat) <= ((k * P : Nat) : Rat) := Rat.natCast_le_natCast.mpr hm
 rw [<- e, Rat.natCast_mul] at h1
 exact Rat.le_of_mul_le_mul_right h1 (by have := natne hP; have h2 : (0 : Rat) <= (P : Rat) := Rat.natCast_nonneg; exact pos_of h2 this)
theorem isM_sub {P k j : Nat} {r q : Rat} (h : IsM P k r) (g : IsM P j q) (hq : q <= r) : IsM P k (r - q) := by
 obtain ⟨h0, m, hm, e⟩ := h
 obtain ⟨g0, n, hn, f⟩ := g
 have hle : q * (P : Rat) <= r * (P : Rat) := Rat.mul_le_mul_of_nonneg_right hq Rat.natCast_nonneg
 rw [e, f] at hle
 have hnm : n <= m := Rat.natCast_le_natCast.mp hle
 obtain ⟨d, rfl⟩ := Nat.exists_eq_add_of_le hnm
 refine ⟨by grind, d, by omega, ?_⟩
 rw [Rat.natCast_add] at e
 grind
theorem isM_part {i k : Nat} {r q : Rat} (h : IsM (Pw i) k r) (h0 : 0 <= q) (h1 : q <= 1) (hd : q.den ∣ 12) : IsM (Pw (i + 1)) k (r * q) := by
 obtain ⟨c, hc⟩ := hd
 have g := (h.mulL h0 h1).up c
 have e2 : Pw i * q.den * c = Pw (i + 1) := by rw [Nat.mul_assoc, <- hc, Pw_succ]
 rw [e2] at g
 exact g
theorem isM_bd {i k : Nat} {r : Rat} (h : IsM (Pw i) k r) (hi : i <= 19) (hk : k <= 4000) : Bd 100 r := by
 refine (h.mono (j := 4000) hk).bd (Pw_pos i) (by decide) ?_
 have h1 := Nat.mul_le_mul_left 4000 (Pw_le hi)
 exact Nat.lt_of_le_of_lt h1 (by decide)
theorem share_den {P k j : Nat} {r q : Rat} (hP : 0 < P) (h : IsM P k r) (g : IsM P j q) (hq : q ≠ 0) : (r / q).den <= j * P := by
 obtain ⟨m, hm, e⟩ := IsM.eq hP h
 obtain ⟨n, hn, f⟩ := IsM.eq hP g
 have hn0 : n ≠ 0 := by
  rintro rfl
  apply hq
  rw [f, Rat.divInt_eq_div]
  have : (((0 : Nat) : Int) : Rat) = 0 := rfl
  rw [this]
  grind
 have e2 : r / q = Rat.divInt m n := by
  rw [e, f, Rat.divInt_eq_div, Rat.divInt_eq_div, Rat.divInt_eq_div, Rat.intCast_natCast, Rat.intCast_natCast, Rat.intCast_natCast]
  have := natne hP
  have := natne (show 0 < n by omega)
  grind
 rw [e2]
 have := fq_den_le m n (by omega)
 omega
theorem div_le_one {g u : Rat} (h0 : 0 <= g) (h1 : g <= u) : 0 <= g / u /\ g / u <= 1 := by
 by_cases e : u = 0
 ·subst e
  rw [Rat.div_def]
  have : (0 : Rat)⁻¹ = 0 := Rat.inv_zero
  rw [this, Rat.mul_zero]
  exact ⟨by decide, by decide⟩
 ·have hu : 0 < u := pos_of (by grind) e
  have hi := Rat.le_of_lt (Rat.inv_pos.mpr hu)
  have e1 : u * u⁻¹ = 1 := Rat.mul_inv_cancel _ e
  have h2 := Rat.mul_le_mul_of_nonneg_right h1 hi
  rw [e1] at h2
  rw [Rat.div_def]
  exact ⟨Rat.mul_nonneg h0 hi, h2⟩
noncomputable def tot (ss : List Stp) (z : Str) : Rat := sumQ (rsOf z ss)
noncomputable def stT : Stp -> (Str -> Rat) -> (Str -> Rat)
 | .br _ _ x q, t => fun z => if z = x then t x + q else t z
 | .ps x y u, t => fw x y u t
theorem tot_fw (x y : Str) (u : Rat) (z : Str) : ∀ bs : List Br, sumQ (bs.map fun b => b.q * fw x y u b.g z) = fw x y u (fun w => sumQ (bs.map (amt w))) z
 | [] => by
  show (0 : Rat) = fw x y u (fun _ => 0) z
  unfold fw
  split
  ·grind
  ·split <;> grind
 | b :: bs => by
  have ih := tot_fw x y u z bs
  rw [List.map_cons, sumQ_cons, ih]
  have e : ∀ w, sumQ ((b :: bs).map (amt w)) = b.q * b.g w + sumQ (bs.map (amt w)) := fun w => by rw [List.map_cons, sumQ_cons]; rfl
  unfold fw
  show (b.q * if z = y then b.g y + b.g x * u else if z = x then b.g x - b.g x * u else b.g z) + (if z = y then sumQ (bs.map (amt y)) + sumQ (bs.map (amt x)) * u else if z = x then sumQ (bs.map (amt x)) - sumQ (bs.map (amt x)) * u else sumQ (bs.map (amt z))) = if z = y then sumQ ((b :: bs).map (amt y)) + sumQ ((b :: bs).map (amt x)) * u else if z = x then sumQ ((b :: bs).map (amt x)) - sumQ ((b :: bs).map (amt x)) * u else sumQ ((b :: bs).map (amt z))
  rw [e, e, e]
  split
  ·grind
  ·split <;> grind
theorem tot_snoc {L : List Str} {s : Stp} (h : OkS L s) (ss : List Stp) : tot (ss ++ [s]) = stT s (tot ss) := by
 funext z
 unfold tot rsOf
 rw [brL_snoc s h, List.map_append, sumQ_append, List.map_map]
 cases s with
 | br z' yr x q =>
  have e1 : ((brL ss).map (amt z ∘ adv (.br z' yr x q))) = (brL ss).map (amt z) := rfl
  rw [e1]
  show sumQ ((brL ss).map (amt z)) + sumQ [q * dlt x z] = if z = x then sumQ (rsOf x ss) + q else sumQ (rsOf z ss)
  have e2 : sumQ [q * dlt x z] = q * dlt x z := by rw [sumQ_cons]; exact Rat.add_zero _
  rw [e2]
  unfold dlt
  by_cases e : z = x
  ·rw [if_pos e, if_pos e, e, Rat.mul_one]; rfl
  ·rw [if_neg e, if_neg e, Rat.mul_zero, Rat.add_zero]; rfl
 | ps x y u =>
  have e1 : ((brL ss).map (amt z ∘ adv (.ps x y u))) = (brL ss).map fun b => b.q * fw x y u b.g z := rfl
  rw [e1, tot_fw]
  show _ + (0 : Rat) = _
  rw [Rat.add_zero]; rfl
noncomputable def RoomsOk (ps : List Plc) : Prop := ∀ z r, Plc.ck z r ∈ ps -> IsM 6 119 r
structure InT (ps : List Plc) (t : Str -> Rat) (i : Nat) : Prop where
 sz : ∀ z ∈ allN ps, IsM (Pw i) (120 * (i + 1)) (t z)
 rm : ∀ z m, rmF ps z = some m -> t z <= m
theorem InT.zero {ps : List Plc} (h : RoomsOk ps) : InT ps (fun _ => 0) 0 := ⟨fun _ _ => IsM.zero _ _, fun z m e => (h z m (rmF_mem e).2).1⟩
theorem InT.nx {ps : List Plc} {t : Str -> Rat} {i : Nat} (h : InT ps t i) : InT ps t (i + 1) := ⟨fun z hz => (isM_ups (h.sz z hz) (Nat.le_succ i)).mono (by omega), h.rm⟩
theorem InT.room {ps : List Plc} {t : Str -> Rat} {i : Nat} (h : InT ps t i) (hr : RoomsOk ps) {y : Str} {m : Rat} (hm : rmF ps y = some m) : IsM (Pw i) 119 m /\ IsM (Pw i) 119 (t y) /\ IsM (Pw i) 119 (m - t y) := by
 have h6 := hr y m (rmF_mem hm).2
 have h1 : IsM (Pw i) 119 m := isM_ups (i := 0) (by show IsM (6 * 12 ^ 0) 119 m; exact h6) (Nat.zero_le i)
 have hy := h.sz y (ck_sub (rmF_mem hm).1)
 have h2 : IsM (Pw i) 119 (t y) := isM_cut hy (Rat.le_trans (h.rm y m hm) (isM_le (by decide) h6))
 exact ⟨h1, h2, isM_sub h1 h2 (h.rm y m hm)⟩
theorem InT.ck {ps : List Plc} {t : Str -> Rat} {i : Nat} (h : InT ps t i) (hr : RoomsOk ps) {y : Str} (hy : y ∈ ckN ps) : IsM (Pw i) 119 (t y) := by
 obtain ⟨m, hm⟩ := rmF_some hy
 exact (h.room hr hm).2.1
noncomputable def OkD (ps : List Plc) (t : Str -> Rat) (i : Nat) : Dd -> Prop
 | .br z x r => x ∈ ckN ps /\ Lay z /\ 0 < r /\ IsM (Pw i) 119 r /\ ∀ m, rmF ps x = some m -> t x + r <= m
 | .pt x y q => x ∈ ckN ps /\ y ∈ allN ps /\ x ≠ y /\ 0 <= q /\ q <= 1 /\ q.den ∣ 12 /\ ∀ m, rmF ps y = some m -> t y + t x * q <= m
 | .al x y => x ∈ ckN ps /\ y ∈ allN ps /\ x ≠ y /\ ∀ m, rmF ps y = some m -> t y + t x <= m
 | .fl x y => x ∈ ckN ps /\ y ∈ ckN ps /\ x ≠ y /\ (rmF ps y).getD 0 - t y <= t x
 | .mv x y r => x ∈ ckN ps /\ y ∈ allN ps /\ x ≠ y /\ 0 < r /\ r <= t x /\ IsM (Pw (i + 1)) 119 r /\ ∀ m, rmF ps y = some m -> t y + r <= m
 | .yr => True
noncomputable def stD (ps : List Plc) (t : Str -> Rat) (n : Int) : Dd -> Stp
 | .br z x r => .br z n x r
 | .pt x y q => .ps x y q
 | .al x y => .ps x y 1
 | .fl x y => .ps x y (((rmF ps y).getD 0 - t y) / t x)
 | .mv x y r => .ps x y (r / t x)
 | .yr => .br "" n "" 0
noncomputable def DOk (ps : List Plc) (i : Nat) (s : Stp) (t' : Str -> Rat) : Prop := OkS (allN ps) s /\ OkQ s /\ InT ps t' (i + 1)
theorem ps_ok {ps : List Plc} {t : Str -> Rat} {i : Nat} (h : InT ps t i) {x y : Str} {u g : Rat} (hx : x ∈ ckN ps) (hy : y ∈ allN ps) (hxy : x ≠ y) (h0 : 0 <= u) (h1 : u <= 1) (hd : u.den < 2 ^ 76) (eg : t x * u = g) (hg : IsM (Pw (i + 1)) 119 g) (hr : ∀ m, rmF ps y = some m -> t y + g <= m) : DOk ps i (.ps x y u) (fw x y u t) := by
 have hxa := ck_sub hx
 have hle : g <= t x := by
  have := (h.sz x hxa).1
  rw [<- eg]
  have h2 : t x * u <= t x * 1 := Rat.mul_le_mul_of_nonneg_left h1 this
  rwa [Rat.mul_one] at h2
 refine ⟨⟨hxa, hy, hxy, h0, h1, hd⟩, trivial, fun z hz => ?_, fun z m e => ?_⟩
 ·unfold fw
  rw [eg]
  split
  ·exact ((isM_ups (h.sz y hy) (Nat.le_succ i)).add hg).mono (by omega)
  ·split
   ·exact (isM_sub (isM_ups (h.sz x hxa) (Nat.le_succ i)) hg hle).mono (by omega)
   ·exact (isM_ups (h.sz z hz) (Nat.le_succ i)).mono (by omega)
 ·unfold fw
  rw [eg]
  split
  ·rename_i e2; exact hr m (e2 ▸ e)
  ·split
   ·rename_i e1
    have := h.rm x m (e1 ▸ e)
    have := hg.1
    grind
   ·exact h.rm z m e
theorem den76 {u : Rat} (h : u.den ∣ 12) : u.den < 2 ^ 76 := Nat.lt_of_le_of_lt (Nat.le_of_dvd (by decide) h) (by decide)
theorem over76 {i : Nat} {r q : Rat} (h : IsM (Pw (i + 1)) 119 r) (g : IsM (Pw i) 119 q) (hi : i <= 17) : (r / q).den < 2 ^ 76 := by
 by_cases e : q = 0
 ·rw [e, Rat.div_def]
  have : (0 : Rat)⁻¹ = 0 := Rat.inv_zero
  rw [this, Rat.mul_zero]; decide
 ·have h1 := share_den (Pw_pos (i + 1)) h (isM_ups g (Nat.le_succ i)) e
  have h2 : Pw (i + 1) <= Pw 18 := Nat.mul_le_mul_left 6 (Nat.pow_le_pow_right (by decide) (by omega))
  have h3 : 119 * Pw 18 < 2 ^ 76 := by decide
  have h4 := Nat.mul_le_mul_left 119 h2
  omega
theorem d_ok {ps : List Plc} {t : Str -> Rat} {i : Nat} (h : InT ps t i) (hr : RoomsOk ps) (hi : i <= 17) (n : Int) : ∀ {d : Dd}, d ≠ .yr -> OkD ps t i d -> DOk ps i (stD ps t n d) (stT (stD ps t n d) t)
 | .br z x r, _, ⟨hx, hz, h0, hM, hm⟩ => by
  refine ⟨⟨ck_sub hx, hz⟩, ⟨h0, ?_⟩, fun y hy => ?_, fun y m e => ?_⟩
  ·have h1 := (isM_ups hM (show i <= 18 by omega)).mono (j := 1000) (by decide)
   have e : Pw 18 = 159739999685311463424 := by decide
   rw [e] at h1; exact h1
  ·show IsM _ _ (if y = x then t x + r else t y)
   split
   ·exact (isM_ups ((h.sz x (ck_sub hx)).add hM) (Nat.le_succ i)).mono (by omega)
   ·exact (isM_ups (h.sz y hy) (Nat.le_succ i)).mono (by omega)
  ·show (if y = x then t x + r else t y) <= m
   split
   ·rename_i e1; exact hm m (e1 ▸ e)
   ·exact h.rm y m e
 | .pt x y q, _, ⟨hx, hy, hxy, h0, h1, hd, hm⟩ => ps_ok h hx hy hxy h0 h1 (den76 hd) rfl (isM_part (h.ck hr hx) h0 h1 hd) hm
 | .al x y, _, ⟨hx, hy, hxy, hm⟩ => ps_ok h hx hy hxy (by decide) Rat.le_refl (by decide) (Rat.mul_one _) (isM_ups (h.ck hr hx) (Nat.le_succ i)) hm
 | .fl x y, _, ⟨hx, hy, hxy, hm⟩ => by
  obtain ⟨m, em⟩ := rmF_some hy
  have hR := h.room hr em
  show DOk ps i (.ps x y (((rmF ps y).getD 0 - t y) / t x)) (fw x y (((rmF ps y).getD 0 - t y) / t x) t)
  rw [em] at hm ⊢
  have hm : m - t y <= t x := hm
  have hg := hR.2.2
  have h01 := div_le_one hg.1 hm
  have hg1 := isM_ups hg (Nat.le_succ i)
  refine ps_ok h hx (ck_sub hy) hxy h01.1 h01.2 (over76 hg1 (h.ck hr hx) hi) (share_back hg.1 hm) hg1 fun m' e => ?_
  rw [em] at e
  cases e
  show t y + (m - t y) <= m
  grind
 | .mv x y r, _, ⟨hx, hy, hxy, h0, hle, hM, hm⟩ => by
  have h01 := div_le_one (Rat.le_of_lt h0) hle
  exact ps_ok h hx hy hxy h01.1 h01.2 (over76 hM (h.ck hr hx) hi) (share_back (Rat.le_of_lt h0) hle) hM hm
noncomputable def NmV (H : Hp) (an : Addr) (L : List Str) : Prop := H an = some (.lst (L.map V.str)) /\ L.length = 9 /\ L.Nodup /\ ∀ z ∈ L, Lay z
noncomputable def spNm9 : Sp := fun vs H Q _ => ∃ c : Int, vs = [.int c] /\ ∀ a H' (L : List Str), Same H H' -> NmV H' a L -> Q (.ref a) H'
noncomputable def HsV (H : Hp) (ah : Addr) (ps : List Plc) : Prop := ∃ xs, H ah = some (.lst xs) /\ Paired (PlV H) xs ps /\ HouseOk ps /\ RoomsOk ps /\ 2 <= (ckN ps).length
theorem HsV.keep {H H' : Hp} {ah : Addr} {ps : List Plc} (h : HsV H ah ps) (s : ∀ a xs, H a = some (.tup xs) -> H' a = some (.tup xs)) (l : ∀ xs, H ah = some (.lst xs) -> H' ah = some (.lst xs)) : HsV H' ah ps := by
 obtain ⟨xs, h1, h2, h3⟩ := h
 exact ⟨xs, l _ h1, Paired.mapP h2 fun _ _ f => f.tup s, h3⟩
theorem HsV.same {H H' : Hp} {ah : Addr} {ps : List Plc} (h : HsV H ah ps) (s : Same H H') : HsV H' ah ps := h.keep (fun _ _ e => s _ _ e) fun _ e => s _ _ e
noncomputable def SkN (ps : List Plc) (L : List Str) : Prop := ∀ z, L[4]? = some z -> z ∈ allN ps /\ z ∉ ckN ps
noncomputable def spHouse9 : Sp := fun vs H Q _ => ∃ (c : Int) (an : Addr) (L : List Str), vs = [.int c, .ref an] /\ NmV H an L /\ ∀ p H' xs ps, H p = none -> Same H H' -> H' p = some (.lst xs) -> Paired (PlV H') xs ps -> HouseOk ps -> RoomsOk ps -> 2 <= (ckN ps).length -> SkN ps L -> Q (.ref p) H'
noncomputable def ToV (H : Hp) (pt : Addr) (ps : List Plc) (t : Str -> Rat) : Prop := ∃ kvt, H pt = some (.dK kvt) /\ RowAt H kvt (all (allN ps) t)
theorem ToV.same {H H' : Hp} {pt : Addr} {ps : List Plc} {t : Str -> Rat} (h : ToV H pt ps t) (s : Same H H') : ToV H' pt ps t := by
 obtain ⟨kv, h1, h2⟩ := h
 exact ⟨kv, s _ _ h1, h2.same fun _ _ f => f.same s⟩
theorem ToV.get {H : Hp} {pt : Addr} {ps : List Plc} {t : Str -> Rat} (h : ToV H pt ps t) {z : Str} (hz : z ∈ allN ps) : ∃ v, DGet H pt (.str z) (some v) /\ FrV H v (t z) := by
 obtain ⟨kv, h1, h2⟩ := h
 obtain ⟨v, e, f⟩ := h2.get hz
 refine ⟨v, ?_, f⟩
 have g := DGet.k (k := .inr z) h1
 rw [e] at g; exact g
structure At (H : Hp) (ah pt : Addr) (ps : List Plc) (t : Str -> Rat) (i : Nat) : Prop where
 hs : HsV H ah ps
 to : ToV H pt ps t
 int : InT ps t i
 i17 : i <= 17
theorem At.same {H H' : Hp} {ah pt : Addr} {ps : List Plc} {t : Str -> Rat} {i : Nat} (h : At H ah pt ps t i) (s : Same H H') : At H' ah pt ps t i := ⟨h.hs.same s, h.to.same s, h.int, h.i17⟩
theorem At.ro {H : Hp} {ah pt : Addr} {ps : List Plc} {t : Str -> Rat} {i : Nat} (h : At H ah pt ps t i) : RoomsOk ps := let ⟨_, _, _, _, r, _⟩ := h.hs; r
noncomputable def LfV (H : Hp) (v : V) : Option Rat -> Prop
 | some l => FrV H v l
 | none => v = .non
theorem LfV.same {H H' : Hp} {v : V} {l : Option Rat} (h : LfV H v l) (s : Same H H') : LfV H' v l := by
 cases l with
 | none => exact h
 | some l => exact FrV.same h s
noncomputable def lft (ps : List Plc) (t : Str -> Rat) (y : Str) : Option Rat := (rmF ps y).map fun m => m - t y
noncomputable def spLeft : Sp := fun vs H Q _ => ∃ (ah pt : Addr) (ps : List Plc) (t : Str -> Rat) (i : Nat) (y : Str), vs = [.ref ah, .ref pt, .str y] /\ At H ah pt ps t i /\ y ∈ allN ps /\ ∀ v H', Same H H' -> LfV H' v (lft ps t y) -> Q v H'
noncomputable def spAmt : Sp := fun vs H Q _ => ∃ (ah pt : Addr) (ps : List Plc) (t : Str -> Rat) (i : Nat) (x y : Str) (l : V) (n : Int), vs = [.ref pt, .str x, l, .int n] /\ At H ah pt ps t i /\ x ∈ ckN ps /\ LfV H l (lft ps t y) /\ ∀ v H' r, Same H H' -> FrV H' v r -> IsM (Pw (i + 1)) 119 r -> r <= t x -> (∀ m, rmF ps y = some m -> t y + r <= m) -> Q v H'
noncomputable def spPassed2 : Sp := fun vs H Q _ => ∃ (ah pt : Addr) (ps : List Plc) (t : Str -> Rat) (i : Nat) (x y : Str) (kd n : Int), vs = [.ref ah, .ref pt, .str x, .str y, .int kd, .int n] /\ At H ah pt ps t i /\ x ∈ ckN ps /\ y ∈ allN ps /\ x ≠ y /\ ∀ w H' d, Same H H' -> DdV H' w d -> OkD ps t i d -> Q w H'
noncomputable def spDeed2 : Sp := fun vs H Q _ => ∃ (ah pt an : Addr) (ps : List Plc) (t : Str -> Rat) (i : Nat) (L : List Str) (c1 c2 : Int), vs = [.ref ah, .ref pt, .ref an, .int c1, .int c2] /\ At H ah pt ps t i /\ NmV H an L /\ SkN ps L /\ ∀ w H' d, Same H H' -> DdV H' w d -> OkD ps t i d -> Q w H'
noncomputable def spShare2 : Sp := fun vs H Q _ => ∃ (ah pt : Addr) (ps : List Plc) (t : Str -> Rat) (i : Nat) (w : V) (d : Dd), vs = [.ref ah, .ref pt, w] /\ At H ah pt ps t i /\ DdV H w d /\ OkD ps t i d /\ isP d = true /\ ∀ v H', Same H H' -> FrV H' v (shD ps t d) -> Q v H'
noncomputable def spStep2 : Sp := fun vs H Q _ => ∃ (ah pt : Addr) (ps : List Plc) (t : Str -> Rat) (i : Nat) (n : Int) (w : V) (d : Dd), vs = [.ref ah, .ref pt, .int n, w] /\ At H ah pt ps t i /\ DdV H w d /\ OkD ps t i d /\ d ≠ .yr /\ ∀ v H', (∀ c o, H c = some o -> c ≠ pt -> H' c = some o) -> ToV H' pt ps (stT (stD ps t n d) t) -> StV H' v (stD ps t n d) -> Q v H'
noncomputable def spScript2 : Sp := fun vs H Q _ => ∃ (ah pt an ac : Addr) (ps : List Plc) (L : List Str) (n : Int) (ms : List Int), vs = [.ref ah, .ref pt, .ref an, .int n, .ref ac] /\ At H ah pt ps (fun _ => 0) 0 /\ NmV H an L /\ SkN ps L /\ H ac = some (.lst (ms.map V.int)) /\ ms.length <= 36 /\
 ∀ r pd pS y H' xs ss, (∀ c o, H c = some o -> c ≠ pt -> H' c = some o) -> H' r = some (.tup [.ref pd, .ref pS, .int y]) -> H' pS = some (.lst xs) -> Paired (StV H') xs ss -> (∀ s ∈ ss, OkS (allN ps) s) -> (∀ s ∈ ss, OkQ s) -> ss.length <= 18 -> ToV H' pt ps (tot ss) -> (∀ z ∈ allN ps, Bd 100 (tot ss z)) -> Q (.ref r) H'
noncomputable def spAllF (K : PySem.W.Frag) : Sp := fun vs H Q _ => ∃ (a : Addr) (xs : List V) (rs : List Rat), vs = [.ref a] /\ SqL K H a xs /\ Paired (FrV H) xs rs /\ (∀ r ∈ rs, Bd 4000 r) /\ (∀ k, k <= rs.length -> Bd 4000 (sumQ (rs.take k))) /\ ∀ v H', Same H H' -> FrV H' v (sumQ rs) -> Q v H'
structure Hd (K : PySem.W.Frag) (H : Hp) (an as ab : Addr) (L : List Str) (xs : List V) (ss : List Stp) : Prop where
 nm : H an = some (.lst (L.map V.str))
 nd : L.Nodup
 l8 : L.length <= 8
 st : H as = some (.lst xs)
 pd : Paired (StV H) xs ss
 ok : ∀ s ∈ ss, OkS L s
 oq : ∀ s ∈ ss, OkQ s
 len : ss.length <= 18
 br : H ab = some (.lst ((brIx 0 ss).map fun n => V.int (n : Nat)))
theorem Hd.same {K : PySem.W.Frag} {H H' : Hp} {an as ab : Addr} {L : List Str} {xs : List V} {ss : List Stp} (h : Hd K H an as ab L xs ss) (s : Same H H') : Hd K H' an as ab L xs ss := ⟨s _ _ h.nm, h.nd, h.l8, s _ _ h.st, steps_same h.pd s, h.ok, h.oq, h.len, s _ _ h.br⟩
noncomputable def EnD (H : Hp) (d : Addr) (b : Br) : Prop := ∃ kvs, H d = some (.dK kvs) /\ RowAt H kvs (op b.g)
theorem EnD.same {H H' : Hp} {d : Addr} {b : Br} (h : EnD H d b) (s : Same H H') : EnD H' d b := by
 obtain ⟨kv, h1, h2⟩ := h
 exact ⟨kv, s _ _ h1, h2.same fun _ _ f => f.same s⟩
noncomputable def EndsV (H : Hp) (p : Addr) (ss : List Stp) : Prop := ∃ ds : List Addr, H p = some (.lst (ds.map V.ref)) /\ Paired (EnD H) ds (brL ss)
theorem EndsV.same {H H' : Hp} {p : Addr} {ss : List Stp} (h : EndsV H p ss) (s : Same H H') : EndsV H' p ss := by
 obtain ⟨ds, h1, h2⟩ := h
 exact ⟨ds, s _ _ h1, Paired.mapP h2 fun _ _ f => f.same s⟩
noncomputable def spForthR (K : PySem.W.Frag) : Sp := fun vs H Q _ => ∃ (an as ab : Addr) (L : List Str) (xs : List V) (ss : List Stp), vs = [.ref an, .ref as, .ref ab] /\ Hd K H an as ab L xs ss /\ ∀ p H', Same H H' -> EndsV H' p ss -> Q (.ref p) H'
noncomputable def spBackR (K : PySem.W.Frag) : Sp := fun vs H Q _ => ∃ (an as ab ae pt : Addr) (ps : List Plc) (xs : List V) (ss : List Stp), vs = [.ref an, .ref as, .ref ab, .ref ae, .ref pt] /\ Hd K H an as ab (allN ps) xs ss /\ EndsV H ae ss /\ ToV H pt ps (tot ss) /\ (∀ z ∈ allN ps, Bd 100 (tot ss z)) /\ ∀ H', Same H H' -> Q (.bl true) H'
noncomputable def spAlong (K : PySem.W.Frag) : Sp := fun vs H Q _ => ∃ (pw al : Addr) (L : List Str) (ys : List V) (sr : List Stp) (x : Str) (W : List Str), vs = [.ref pw, .ref al] /\ H pw = some (.lst (W.map V.str)) /\ H al = some (.lst ys) /\ Paired (StV H) ys sr /\ (∀ s ∈ sr, OkS L s) /\ sr.length <= 18 /\ Way sr x W /\ ∀ v H', Same H H' -> FrV H' v (shr sr W sr.length) -> Q v H'
noncomputable def spWaysR (K : PySem.W.Frag) : Sp := fun vs H Q _ => ∃ (an as ab : Addr) (L : List Str) (xs : List V) (ss : List Stp) (k n : Nat), vs = [.ref an, .ref as, .ref ab, .int (k : Nat)] /\ Hd K H an as ab L xs ss /\ (brIx 0 ss)[k]? = some n /\ ∀ H', Same H H' -> Q (.bl true) H'
noncomputable def lt (i : Int) : Nat := LT.cps.toList.getD i.toNat 0
theorem lt_at {i : Int} (h0 : 0 <= i) (h1 : i < 26) : atI LT.cps.toList i = some (lt i) := by
 obtain ⟨j, rfl⟩ := Int.eq_ofNat_of_zero_le h0
 have hj : j < LT.cps.toList.length := by rw [lt_len]; omega
 refine (atI_nat (List.getElem?_eq_getElem hj)).trans ?_
 unfold lt
 rw [Int.toNat_natCast, List.getD_eq_getElem?_getD, List.getElem?_eq_getElem hj]; rfl
theorem lt_ok : ∀ j ∈ List.range 26, lt (j : Nat) < 1114112 /\ ∀ k ∈ List.range 26, lt (j : Nat) = lt (k : Nat) -> j = k := by decide +kernel
theorem lt_inj {i j : Int} (h0 : 0 <= i) (h1 : i < 26) (g0 : 0 <= j) (g1 : j < 26) (e : lt i = lt j) : i = j := by
 obtain ⟨a, rfl⟩ := Int.eq_ofNat_of_zero_le h0
 obtain ⟨b, rfl⟩ := Int.eq_ofNat_of_zero_le g0
 rw [(lt_ok a (List.mem_range.mpr (by omega))).2 b (List.mem_range.mpr (by omega)) e]
theorem lt_lay {i : Int} (h0 : 0 <= i) (h1 : i < 26) : lt i < 1114112 := by
 obtain ⟨a, rfl⟩ := Int.eq_ofNat_of_zero_le h0
 exact (lt_ok a (List.mem_range.mpr (by omega))).1
noncomputable def sg (ds : List Int) (at' : Int) (j k : Nat) : Int := (ds.getD k 0 + (0 + (j : Int)) * (if decide (V.int (0 + (k : Int)) = V.int at') = true then 1 else 0)).fmod 26
noncomputable def cj (ds : List Int) (at' : Int) (j : Nat) : List Nat := (List.range ds.length).map fun k => lt (sg ds at' j k)
noncomputable def nmJ (ds : List Int) (at' : Int) (j : Nat) : Str := Txt.join "" ((cj ds at' j).map one1)
theorem sg_b (ds : List Int) (at' : Int) (j k : Nat) : 0 <= sg ds at' j k /\ sg ds at' j k < 26 := fmod_lt (by decide)
theorem nmJ_inj {ds : List Int} {a : Nat} {i j : Nat} (ha : a < ds.length) (hi : i < 9) (hj : j < 9) (e : nmJ ds (a : Nat) i = nmJ ds (a : Nat) j) : i = j := by
 unfold nmJ at e
 rw [join_cs, join_cs] at e
 have e : (cj ds (a : Nat) i).toArray = (cj ds (a : Nat) j).toArray := congrArg Str.cps e
 have e : cj ds (a : Nat) i = cj ds (a : Nat) j := by
  have := congrArg Array.toList e
  simpa using this
 have e1 : (cj ds (a : Nat) i)[a]? = (cj ds (a : Nat) j)[a]? := by rw [e]
 unfold cj at e1
 rw [List.getElem?_map, List.getElem?_map, List.getElem?_range ha] at e1
 have e1 := Option.some.inj e1
 have b1 := sg_b ds (a : Nat) i a
 have b2 := sg_b ds (a : Nat) j a
 have e2 := lt_inj b1.1 b1.2 b2.1 b2.2 e1
 unfold sg at e2
 have ed : decide (V.int (0 + (a : Int)) = V.int (a : Int)) = true := decide_eq_true (by rw [Int.zero_add])
 rw [ed, if_pos rfl, Int.mul_one, Int.mul_one, Int.fmod_eq_emod_of_nonneg _ (by decide), Int.fmod_eq_emod_of_nonneg _ (by decide)] at e2
 omega
theorem nmJ_lay (ds : List Int) (at' : Int) (j : Nat) : Lay (nmJ ds at' j) := by
 unfold Lay nmJ
 rw [join_cs]
 show PyData.strOk ⟨(cj ds at' j).toArray⟩ = true
 unfold PyData.strOk
 rw [List.all_toArray, List.all_eq_true]
 intro c hc
 obtain ⟨k, _, rfl⟩ := List.mem_map.mp hc
 have b := sg_b ds at' j k
 exact decide_eq_true (lt_lay b.1 b.2)
theorem isM6 {a b : Int} {N : Nat} (ha : 0 <= a) (hN : a <= (N : Int)) (hb : 0 < b) (hd : b ∣ 6) : IsM 6 N (Rat.divInt a b) := by
 obtain ⟨c, hc⟩ := hd
 obtain ⟨m, rfl⟩ := Int.eq_ofNat_of_zero_le ha
 obtain ⟨n, rfl⟩ := Int.eq_ofNat_of_zero_le (Int.le_of_lt hb)
 have hc0 : 0 < c := by
  rcases Int.lt_trichotomy c 0 with h | h | h
  ·have := Int.mul_neg_of_pos_of_neg hb h; omega
  ·subst h; simp at hc
  ·exact h
 obtain ⟨j, rfl⟩ := Int.eq_ofNat_of_zero_le (Int.le_of_lt hc0)
 have hj : n * j = 6 := by
  have : ((n * j : Nat) : Int) = 6 := by rw [Int.natCast_mul]; exact hc.symm
  omega
 have hn : 0 < n := by omega
 have e1 : Rat.divInt m n * ((6 : Nat) : Rat) = ((m * j : Nat) : Rat) := by
  rw [Rat.divInt_eq_div, Rat.intCast_natCast, Rat.intCast_natCast, <- hj, Rat.natCast_mul, Rat.natCast_mul]
  have := natne hn
  grind
 refine ⟨Rat.divInt_nonneg (by omega) (by omega), m * j, ?_, e1⟩
 have h1 : j <= 6 := by
  have := Nat.le_mul_of_pos_left j hn
  omega
 exact Nat.mul_le_mul (by omega) h1
theorem house9 {L : List Str} (L9 : L.length = 9) (nd : L.Nodup) (lay : ∀ z ∈ L, Lay z) {cs : List Plc} {m : Nat} (m2 : 2 <= m) (m4 : m <= 4) (ec : allN cs = L.take m) (ic : ∀ p ∈ cs, isC p = true) (ro : RoomsOk cs) (j : Nat) {z4 z5 : Str} (h4 : L[4]? = some z4) (h5 : L[5]? = some z5) :
  HouseOk ((cs.take j ++ Plc.sk z4 :: cs.drop j) ++ [Plc.sk z5]) /\ RoomsOk ((cs.take j ++ Plc.sk z4 :: cs.drop j) ++ [Plc.sk z5]) /\ 2 <= (ckN ((cs.take j ++ Plc.sk z4 :: cs.drop j) ++ [Plc.sk z5])).length /\ SkN ((cs.take j ++ Plc.sk z4 :: cs.drop j) ++ [Plc.sk z5]) L := by
 have lc : cs.length = m := by
  have := congrArg List.length ec
  unfold allN at this
  rw [List.length_map, List.length_take] at this
  omega
 have pm : ((cs.take j ++ Plc.sk z4 :: cs.drop j) ++ [Plc.sk z5]).Perm (cs ++ [Plc.sk z4, Plc.sk z5]) := by
  have h1 : (cs.take j ++ Plc.sk z4 :: cs.drop j).Perm (Plc.sk z4 :: cs) := by
   have := List.perm_middle (a := Plc.sk z4) (l₁ := cs.take j) (l₂ := cs.drop j)
   rwa [List.take_append_drop] at this
  have h2 : (Plc.sk z4 :: cs).Perm (cs ++ [Plc.sk z4]) := List.perm_append_comm (l₁ := [Plc.sk z4])
  have h3 := (h1.trans h2).append_right [Plc.sk z5]
  have e : cs ++ [Plc.sk z4] ++ [Plc.sk z5] = cs ++ [Plc.sk z4, Plc.sk z5] := by rw [List.append_assoc]; rfl
  rw [e] at h3; exact h3
 have ed : (L.drop 4).take 2 = [z4, z5] := by
  have l4 : 4 < L.length := by omega
  have l5 : 5 < L.length := by omega
  rw [List.drop_eq_getElem_cons l4, List.drop_eq_getElem_cons l5, (List.getElem?_eq_some_iff.mp h4).2, (List.getElem?_eq_some_iff.mp h5).2]; rfl
 have ea : allN (cs ++ [Plc.sk z4, Plc.sk z5]) = L.take m ++ (L.drop 4).take 2 := by
  rw [ed, <- ec]; unfold allN; rw [List.map_append]; rfl
 have sub : (L.take m ++ (L.drop 4).take 2).Sublist L := by
  have h1 : (L.take m).Sublist (L.take 4) := by
   have : L.take m = (L.take 4).take m := by rw [List.take_take, Nat.min_eq_left m4]
   rw [this]; exact List.take_sublist _ _
  have := h1.append (List.take_sublist 2 (L.drop 4))
  rwa [List.take_append_drop] at this
 have n1 : (allN (cs ++ [Plc.sk z4, Plc.sk z5])).Nodup := by rw [ea]; exact nd.sublist sub
 have pa : (allN ((cs.take j ++ Plc.sk z4 :: cs.drop j) ++ [Plc.sk z5])).Perm (allN (cs ++ [Plc.sk z4, Plc.sk z5])) := pm.map nmP
 have fc : (cs ++ [Plc.sk z4, Plc.sk z5]).filter isC = cs := by
  rw [List.filter_append, List.filter_eq_self.mpr ic]
  show cs ++ [] = cs
  rw [List.append_nil]
 have pc : (ckN ((cs.take j ++ Plc.sk z4 :: cs.drop j) ++ [Plc.sk z5])).Perm (L.take m) := by
  have := (pm.filter isC).map nmP
  rw [fc] at this
  rw [<- ec]; exact this
 refine ⟨⟨pa.nodup_iff.mpr n1, fun z hz => ?_, ?_⟩, fun z r h => ?_, ?_, fun z e => ?_⟩
 ·have := pa.mem_iff.mp hz
  rw [ea] at this
  exact lay z (sub.subset this)
 ·rw [pm.length_eq, List.length_append, lc]
  show m + 2 <= 8
  omega
 ·have := pm.mem_iff.mp h
  rcases List.mem_append.mp this with e | e
  ·exact ro z r e
  ·rcases List.mem_cons.mp e with e | e
   ·cases e
   ·have := List.mem_singleton.mp e; cases this
 ·rw [pc.length_eq, List.length_take]; omega
 ·rw [h4] at e
  cases e
  constructor
  ·rw [pa.mem_iff, ea, ed]; simp
  ·intro hc
   have hc := pc.mem_iff.mp hc
   rw [ea, ed] at n1
   have := (List.nodup_append.mp n1).2.2 _ hc z4 (by simp)
   exact this rfl
theorem npos {r : Rat} (h : 0 < r) : 0 < r.num := by
 have h1 := Rat.num_nonneg.mpr (Rat.le_of_lt h)
 have n : r.num ≠ 0 := fun z => by rw [Rat.num_eq_zero.mp z] at h; exact absurd h (by decide)
 omega
theorem posn {r : Rat} (h : 0 < r.num) : 0 < r := pos_of (Rat.num_nonneg.mp (by omega)) fun z => by rw [z] at h; exact absurd h (by decide)
theorem lt_le {a b c : Rat} (h : a < b) (g : b <= c) : a < c := by grind
theorem by_key0 {P G : Prop} (go : P -> G) (body : P) : G := go body
theorem rmF_of {z : Str} {r : Rat} : ∀ {ps : List Plc}, (allN ps).Nodup -> Plc.ck z r ∈ ps -> rmF ps z = some r
 | .ck z' r' :: ps, nd, h => by
  have nd : (z' :: allN ps).Nodup := nd
  rw [List.nodup_cons] at nd
  rcases List.mem_cons.mp h with e | e
  ·cases e
   exact if_pos rfl
  ·have ne : z ≠ z' := fun q => nd.1 (by rw [<- q]; exact List.mem_map.mpr ⟨_, e, rfl⟩)
   exact (if_neg ne).trans (rmF_of nd.2 e)
 | .sk z' :: ps, nd, h => by
  have nd : (z' :: allN ps).Nodup := nd
  rw [List.nodup_cons] at nd
  rcases List.mem_cons.mp h with e | e
  ·cases e
  ·exact rmF_of (ps := ps) nd.2 e
theorem lf_is {H : Hp} {v : V} {o : Option Rat} (h : LfV H v o) {A B : Prop} (h1 : o = none -> A) (h2 : ∀ l, o = some l -> FrV H v l -> B) : if decide (v = V.non) = true then A else B := by
 cases o with
 | none =>
  have h : v = .non := h
  exact dec_true h (h1 rfl)
 | some l =>
  have h : FrV H v l := h
  obtain ⟨a, e, _⟩ := id h
  exact dec_false (by rw [e]; intro z; cases z) (h2 l rfl h)
theorem lf_not {H : Hp} {v : V} {o : Option Rat} (h : LfV H v o) {A B : Prop} (h1 : o = none -> B) (h2 : ∀ l, o = some l -> FrV H v l -> A) : if (!decide (v = V.non)) = true then A else B := by
 cases o with
 | none =>
  have h : v = .non := h
  rw [decide_eq_true h]; exact iteF (h1 rfl)
 | some l =>
  have h : FrV H v l := h
  obtain ⟨a, e, _⟩ := id h
  rw [decide_eq_false (by rw [e]; intro z; cases z)]; exact iteT (h2 l rfl h)
theorem rm_of {ps : List Plc} {t : Str -> Rat} {y : Str} {g : Rat} (h : ∀ l, lft ps t y = some l -> g <= l) : ∀ m, rmF ps y = some m -> t y + g <= m := fun m e => by
 have := h (m - t y) (by unfold lft; rw [e]; rfl)
 grind
theorem lft_some {ps : List Plc} {t : Str -> Rat} {y : Str} {l : Rat} (h : lft ps t y = some l) : ∃ m, rmF ps y = some m /\ l = m - t y := by
 unfold lft at h
 cases q : rmF ps y with
 | none => rw [q] at h; cases h
 | some m => rw [q] at h; exact ⟨m, rfl, (Option.some.inj h).symm⟩
theorem fours {n : Int} (h0 : 0 <= n) (h1 : n <= 4) : 0 <= Rat.divInt n 4 /\ Rat.divInt n 4 <= 1 /\ (Rat.divInt n 4).den ∣ 12 := by
 have : n = 0 \/ n = 1 \/ n = 2 \/ n = 3 \/ n = 4 := by omega
 rcases this with rfl | rfl | rfl | rfl | rfl <;> decide +kernel
theorem third : (0 : Rat) <= Rat.divInt 1 3 /\ Rat.divInt 1 3 <= 1 /\ (Rat.divInt 1 3).den ∣ 12 := by decide +kernel
theorem part_le {a q : Rat} (ha : 0 <= a) (h1 : q <= 1) : a * q <= a := by
 have h2 : a * q <= a * 1 := Rat.mul_le_mul_of_nonneg_left h1 ha
 rwa [Rat.mul_one] at h2
theorem DdV.ps {H : Hp} {ps : List Plc} {t : Str -> Rat} : ∀ {v : V} {d : Dd}, DdV H v d -> isP d = true -> ∃ a ys x y, v = .ref a /\ H a = some (.tup ys) /\ atI ys 0 = some (.str (kdD d)) /\ atI ys 1 = some (.str x) /\ atI ys 2 = some (.str y) /\ ∀ n, stD ps t n d = .ps x y (shD ps t d)
 | _, .pt x y _, ⟨a, f, e, h1, _⟩, _ => ⟨a, _, x, y, e, h1, rfl, rfl, rfl, fun _ => rfl⟩
 | _, .al x y, ⟨a, e, h1⟩, _ => ⟨a, _, x, y, e, h1, rfl, rfl, rfl, fun _ => rfl⟩
 | _, .fl x y, ⟨a, e, h1⟩, _ => ⟨a, _, x, y, e, h1, rfl, rfl, rfl, fun _ => rfl⟩
 | _, .mv x y _, ⟨a, f, e, h1, _⟩, _ => ⟨a, _, x, y, e, h1, rfl, rfl, rfl, fun _ => rfl⟩
theorem Way.last {K : PySem.W.Frag} {sr : List Stp} {x : Str} {W : List Str} (h : Way sr x W) : atI (W.map V.str) (-1) = some (.str (nth W sr.length)) := by
 have hl := h.len
 obtain ⟨W', b, e⟩ : ∃ W' b, W = W' ++ [b] := ⟨W.dropLast, W.getLast (by intro e; rw [e] at hl; cases hl), (List.dropLast_concat_getLast _).symm⟩
 subst e
 rw [List.length_append] at hl
 have e1 : [b].length = 1 := rfl
 have e2 : sr.length = W'.length := by omega
 rw [e2, nth_new, List.map_append]
 exact atI_last _ _
theorem shr_bd {L : List Str} {sr : List Stp} (hO : ∀ s ∈ sr, OkS L s) (hl : sr.length <= 32) (W : List Str) {j : Nat} (hj : j <= sr.length) : 0 <= shr sr W j /\ Bd 2700 (shr sr W j) := by
 have hOj : ∀ s ∈ sr.take j, OkS L s := fun s hs => hO s (List.mem_of_mem_take hs)
 have B := prod_bd hOj (by rw [List.length_take]; omega) (k := 1) (by decide)
 have h := shr_isM hO W j hj
 exact ⟨h.1, (h.bd (prodD_pos _) (by decide) B).mono (by decide)⟩
theorem brL_at : ∀ {o : Nat} {ss : List Stp} {k i : Nat} {z : Str} {yr : Int} {x : Str} {q : Rat}, (brIx o ss)[k]? = some i -> ss[i - o]? = some (.br z yr x q) -> (brL ss)[k]? = some ⟨z, yr, q, back (ss.drop (i - o + 1)) x⟩
 | o, .br z' yr' x' q' :: ss, k, i, z, yr, x, q, h, e => by
  cases k with
  | zero =>
   have h : o = i := Option.some.inj h
   subst h
   rw [Nat.sub_self] at e ⊢
   have e := Option.some.inj e
   cases e
   rfl
  | succ k =>
   have h : (brIx (o + 1) ss)[k]? = some i := by
    have : (o :: brIx (o + 1) ss)[k + 1]? = some i := h
    rwa [List.getElem?_cons_succ] at this
   obtain ⟨_, _, _, _, hi, _⟩ := brIx_mem (List.mem_of_getElem? h)
   have e1 : i - o = i - (o + 1) + 1 := by omega
   rw [e1] at e ⊢
   rw [List.getElem?_cons_succ] at e
   show (brL ss)[k]? = _
   rw [List.drop_succ_cons]
   exact brL_at h e
 | o, .ps _ _ _ :: ss, k, i, z, yr, x, q, h, e => by
  have h : (brIx (o + 1) ss)[k]? = some i := h
  obtain ⟨_, _, _, _, hi, _⟩ := brIx_mem (List.mem_of_getElem? h)
  have e1 : i - o = i - (o + 1) + 1 := by omega
  rw [e1] at e ⊢
  rw [List.getElem?_cons_succ] at e
  show (brL ss)[k]? = _
  rw [List.drop_succ_cons]
  exact brL_at h e
theorem op_at {f : Str -> Rat} {z : Str} {r : Rat} (h : op f z = some r) : f z = r /\ r ≠ 0 := by
 unfold op at h
 split at h
 ·cases h
 ·rename_i q
  cases h
  exact ⟨rfl, q⟩
theorem paired_ix {α β : Type} {F : α -> β -> Prop} : ∀ {xs : List α} {ys : List β}, xs.length = ys.length -> (∀ (i : Nat) (x : α) (y : β), xs[i]? = some x -> ys[i]? = some y -> F x y) -> Paired F xs ys
 | [], [], _, _ => .nil
 | [], _ :: _, h, _ => by simp at h
 | _ :: _, [], h, _ => by simp at h
 | x :: xs, y :: ys, h, g => .cons (g 0 x y rfl rfl) (paired_ix (by simpa using h) fun i a b ha hb => g (i + 1) a b (by simpa using ha) (by simpa using hb))
theorem RowAt.vals {H : Hp} {kvs : List (Key × V)} {f : Str -> Rat} (h : RowAt H kvs (op f)) : Paired (FrV H) (kvs.map (·.2)) ((nms kvs).map f) := by
 refine paired_ix (by rw [List.length_map, List.length_map, nms_len]) fun i x y hx hy => ?_
 rw [List.getElem?_map] at hx hy
 cases q : kvs[i]? with
 | none => rw [q] at hx; cases hx
 | some p =>
  rw [q] at hx
  cases hx
  obtain ⟨z, r, hz, hg, fr, _, _⟩ := h.at q
  have : (nms kvs)[i]? = some z := by
   unfold nms
   rw [List.getElem?_map, q]
   show some (nmz p.1) = _
   rw [hz]; rfl
  rw [this] at hy
  cases hy
  rw [(op_at hg).1]; exact fr
theorem hits_row {K : PySem.W.Frag} {H : Hp} {a b : Addr} {ka kb : List (Key × V)} {f : Str -> Option Rat} (ha : H a = some (.dK ka)) (hb : H b = some (.dK kb)) (ra : RowAt H ka f) (rb : RowAt H kb f) : Hits K H (.ref a) (.ref b) := by
 refine ⟨a, b, ka, kb, rfl, rfl, ha, hb, ra.len_eq rb, fun kv hkv => ?_⟩
 obtain ⟨j, hj, ej⟩ := List.getElem_of_mem hkv
 obtain ⟨z, r, hz, hgz, fr, _, _⟩ := ra.at (i := j) (p := kv) (by rw [List.getElem?_eq_getElem hj, ej])
 obtain ⟨w, hw, fw'⟩ := rb.has z r hgz
 exact ⟨w, pq r.num r.den, by rw [hz]; exact hw, fr.rep, fw'.rep, by simp [pq, PyData.depth, PyData.depthAll]⟩
noncomputable def dPr (m : Nat × Rat) : PyData := .tuple [.int (m.1 : Nat), pq m.2.num m.2.den]
theorem rep_prs {K : PySem.W.Frag} {H : Hp} : ∀ {zs : List V} {ms : List (Nat × Rat)}, Paired (PrV H) zs ms -> RepDs K H (ms.map dPr) zs
 | _, _, .nil => reps0
 | _, _, .cons r t => by
  obtain ⟨a, f, e, h1, h2⟩ := r
  subst e
  exact repsC (repT (SqT.of h1) (repsC repI (repsC h2.rep reps0))) (rep_prs t)
theorem prs_depth (ms : List (Nat × Rat)) : (PyData.list (ms.map dPr)).depth <= 64 := by
 have h1 := depth_map (f := dPr) (n := 10) (fun a => by simp [dPr, pq, PyData.depth, PyData.depthAll]) ms
 simp only [PyData.depth]
 omega
theorem RowAt.drop {H : Hp} {kvs : List (Key × V)} {f : Str -> Rat} (h : RowAt H kvs (op f)) (x : Str) : RowAt H (dropK kvs (.inr x)) (op fun z => if z = x then 0 else f z) := by
 have key : ∀ (l : List (Key × V)) (z : Str), valV (dropK l (.inr x)) (.inr z) = if z = x then none else valV l (.inr z) := by
  intro l z
  induction l with
  | nil => unfold dropK; rw [List.filter_nil, valV_nil]; split <;> rfl
  | cons p l ih =>
   by_cases e : p.1 = .inr x
   ·rw [dropK_pos e, ih]
    by_cases ez : z = x
    ·rw [if_pos ez, if_pos ez]
    ·rw [if_neg ez, if_neg ez, valV_neg (fun q => ez (Sum.inr.inj (q.symm.trans e)))]
   ·rw [dropK_neg e]
    by_cases ez : p.1 = .inr z
    ·rw [valV_pos ez, valV_pos ez, if_neg]
     intro q; rw [q] at ez; exact e ez
    ·rw [valV_neg ez, valV_neg ez, ih]
 refine ⟨nd_dropK h.nodup, fun kv hkv => h.keys kv (dropK_mem hkv), fun z r e => ?_, fun z e => ?_⟩
 ·rw [key]
  have e : (if (if z = x then (0 : Rat) else f z) = 0 then none else some (if z = x then (0 : Rat) else f z)) = some r := e
  by_cases ez : z = x
  ·rw [if_pos ez, if_pos rfl] at e; cases e
  ·rw [if_neg ez] at e ⊢
   exact h.has z r e
 ·rw [key]
  by_cases ez : z = x
  ·rw [if_pos ez]
  ·rw [if_neg ez]
   refine h.not z ?_
   have e : (if (if z = x then (0 : Rat) else f z) = 0 then none else some (if z = x then (0 : Rat) else f z)) = none := e
   rw [if_neg ez] at e; exact e
theorem lt_of_le {a b : Rat} (h : 0 <= a) (g : a < b) : 0 < b := by grind
theorem next_gm {x y : Str} {t : Rat} {v : Str -> Rat} (hxy : x ≠ y) (h0 : 0 <= v x * (1 - t)) : rse (rse (fun z => if z = x then 0 else v z) x (v x * (1 - t))) y (v x * t) = gm x y t v := by
 funext z
 unfold rse gm
 by_cases e : z = y
 ·rw [if_pos e, if_pos e]
  show mx (if y = x then _ else if y = x then _ else v y) _ = _
  rw [if_neg hxy.symm, if_neg hxy.symm]
 ·rw [if_neg e, if_neg e]
  by_cases e2 : z = x
  ·rw [if_pos e2, if_pos e2]
   show mx (if x = x then 0 else v x) _ = _
   rw [if_pos rfl, mx_zero h0]
  ·rw [if_neg e2, if_neg e2]
   show (if z = x then 0 else v z) = v z
   rw [if_neg e2]
theorem flat_strs : ∀ ps : List Str, (ps.map V.str).all flatV = true
 | [] => rfl
 | _ :: ps => by rw [List.map_cons, List.all_cons, flat_strs ps]; rfl
theorem inV_str (x : Str) : ∀ L : List Str, inV (.str x) (L.map V.str) = decide (x ∈ L)
 | [] => by simp [inV]
 | y :: L => by
  have ih := inV_str x L
  unfold inV at ih ⊢
  rw [List.map_cons, List.any_cons, ih]
  by_cases h : y = x
  ·subst h; simp [eqV]
  ·have h2 : ¬ x = y := fun e => h e.symm
   simp [eqV, h, h2]
theorem over_bd {P k j n : Nat} {r q : Rat} (hP : 0 < P) (h : IsM P k r) (g : IsM P j q) (hq : q ≠ 0) (b1 : k * P < 2 ^ n) (b2 : j * P < 2 ^ n) : Bd n (r / q) := by
 obtain ⟨m, hm, e⟩ := IsM.eq hP h
 obtain ⟨m', hm', f⟩ := IsM.eq hP g
 have hn0 : m' ≠ 0 := by
  rintro rfl
  apply hq
  rw [f, Rat.divInt_eq_div]
  have : (((0 : Nat) : Int) : Rat) = 0 := rfl
  rw [this]
  grind
 have e2 : r / q = Rat.divInt m m' := by
  rw [e, f, Rat.divInt_eq_div, Rat.divInt_eq_div, Rat.divInt_eq_div, Rat.intCast_natCast, Rat.intCast_natCast, Rat.intCast_natCast]
  have := natne hP
  have := natne (show 0 < m' by omega)
  grind
 rw [e2]
 exact Bd.divInt (by omega) (show m < 2 ^ n by omega) (show m' < 2 ^ n by omega)
theorem sum_div (S : Rat) (f : Nat -> Rat) : ∀ l : List Nat, sumQ (l.map fun k => f k / S) = sumQ (l.map f) / S
 | [] => by
  show (0 : Rat) = 0 / S
  rw [Rat.div_def, Rat.zero_mul]
 | k :: l => by
  rw [List.map_cons, sumQ_cons, sum_div S f l, List.map_cons, sumQ_cons, Rat.div_def, Rat.div_def, Rat.div_def, Rat.add_mul]
theorem nz_sum {rs : List Rat} : ∀ j, j <= rs.length -> sumQ ((nz rs j).map fun k => rs.getD k 0) = sumQ (rs.take j)
 | 0, _ => rfl
 | j + 1, h => by
  have hr : rs[j]? = some rs[j] := List.getElem?_eq_getElem (by omega)
  have ej := getD_at hr
  rw [sumQ_take hr]
  by_cases e : rs.getD j 0 = 0
  ·rw [nz_succ_zero e, nz_sum j (by omega)]
   rw [ej] at e
   rw [e, Rat.add_zero]
  ·rw [nz_succ_pos e, List.map_append, sumQ_append, nz_sum j (by omega)]
   show _ + sumQ [rs.getD j 0] = _
   rw [sumQ_cons, ej]
   show _ + (_ + (0 : Rat)) = _
   rw [Rat.add_zero]
theorem prs_nil (ms : List (Nat × Rat)) : PyData.eqv (.list (ms.map dPr)) (.list []) = ms.isEmpty := by cases ms <;> rfl
theorem tds_ends {H : Hp} {L : List Br} : ∀ {ys : List V} {tds : List (Br × Addr)}, Paired (BrV H) ys tds -> tds.map (·.1) = L -> Paired (EnD H) (tds.map (·.2)) L
 | _, _, .nil, e => by subst e; exact .nil
 | _, _, .cons r t, e => by
  subst e
  obtain ⟨a, l, f, kvs, _, _, _, _, h4, h5⟩ := r
  exact .cons ⟨kvs, h4, h5⟩ (tds_ends t rfl)
theorem al_flat {K : PySem.W.Frag} {H : Hp} {x y : V} {d : PyData} (h1 : RepD K H d x) (h2 : RepD K H d y) (hd : d.depth <= 40) : ∀ n : Nat, AlN K H n x y
 | 0 => Or.inr ⟨d, h1, h2, hd⟩
 | _ + 1 => Or.inl (Or.inr ⟨d, h1, h2, hd⟩)
theorem al_row {K : PySem.W.Frag} {H : Hp} {a b : Addr} {ka kb : List (Key × V)} {f : Str -> Option Rat} (ha : H a = some (.dK ka)) (hb : H b = some (.dK kb)) (ra : RowAt H ka f) (rb : RowAt H kb f) (n : Nat) : AlN K H (n + 1) (.ref a) (.ref b) := by
 refine Or.inr ⟨a, b, ka, kb, rfl, rfl, ha, hb, ra.len_eq rb, fun kv hkv => ?_⟩
 obtain ⟨j, hj, ej⟩ := List.getElem_of_mem hkv
 obtain ⟨z, r, hz, hgz, fr, _, _⟩ := ra.at (i := j) (p := kv) (by rw [List.getElem?_eq_getElem hj, ej])
 obtain ⟨w, hw, fw'⟩ := rb.has z r hgz
 exact ⟨w, by rw [hz]; exact hw, al_flat fr.rep fw'.rep (by simp [pq, PyData.depth, PyData.depthAll]) n⟩
theorem al_grs {K : PySem.W.Frag} {H : Hp} {ys ys' : List V} {tds tds' : List ((Str -> Rat) × Addr)} (h : Paired (GrV H) ys tds) (h' : Paired (GrV H) ys' tds') (e : tds.map (·.1) = tds'.map (·.1)) : Paired (AlN K H 3) ys ys' := by
 have el := congrArg List.length e
 rw [List.length_map, List.length_map] at el
 refine paired_ix (by rw [h.length, h'.length, el]) fun i v v' hv hv' => ?_
 obtain ⟨td, htd, rfl, kvs, h1, h2⟩ := paired_get h hv
 obtain ⟨td', htd', rfl, kvs', h1', h2'⟩ := paired_get h' hv'
 have e1 : (tds.map (·.1))[i]? = some td.1 := by rw [List.getElem?_map, htd]; rfl
 have e2 : (tds'.map (·.1))[i]? = some td'.1 := by rw [List.getElem?_map, htd']; rfl
 rw [e, e2] at e1
 have e3 : td'.1 = td.1 := Option.some.inj e1
 rw [e3] at h2'
 exact al_row h1 h1' h2 h2' 2
theorem cut36 (ns : List Int) : ∃ ms : List Int, cutV (ns.map V.int) (some 2) (some 38) = ms.map V.int /\ ms.length <= 36 := by
 have e1 : HT.sIx (ns.map V.int).length 0 (some 2) = min 2 (ns.map V.int).length := HT.sIx_nat _ _ 2
 have e2 : HT.sIx (ns.map V.int).length (ns.map V.int).length (some 38) = min 38 (ns.map V.int).length := HT.sIx_nat _ _ 38
 refine ⟨(ns.drop (HT.sIx (ns.map V.int).length 0 (some 2))).take (HT.sIx (ns.map V.int).length (ns.map V.int).length (some 38) - HT.sIx (ns.map V.int).length 0 (some 2)), ?_, ?_⟩
 ·unfold cutV
  rw [List.map_take, List.map_drop]
 ·rw [List.length_take, e1, e2, List.length_drop]
  omega
end T62
namespace T62
open PySem L2 Tc
section
variable {P : Program} {w : World} {K : PySem.W.Frag} {mg : Str -> Option Value} {base : Heap}
noncomputable abbrev s_common_divisor : Stmt := top 4
theorem sc_common_divisor : FnScope ["top", "bottom", "rest"] ["top", "bottom"] (defScope s_common_divisor) := scF
theorem ok_common_divisor {ca : Ca} (D : DefAt K mg "common_divisor" s_common_divisor) (T : Txt K mg ca) : FnAt P w K mg base CX0 1 "common_divisor" ["top", "bottom"] (spCd) := by
 refine D.ok sc_common_divisor (fun vs H Q E h => ?_) (fun _ _ _ _ _ _ us hl => match us, hl with | [_, _], _ => rfl) (fun f cdv A outer s H vs Q E hr h => ?_)
 ·obtain ⟨t, b, rfl, hb, k⟩ := h; rfl
 ·obtain ⟨t, b, rfl, hb, k⟩ := h
  have nd := sc_common_divisor.nd
  refine ⟨_, (pss_cons (ps_while PassesOwn.never (pt_cmpR op_ne (pv 1) pe_int (nomark _)) (pss_cons (ps_set (i := 2) nd rfl (Or.inl rfl) (pe_op op_modN (pv 0) (pv 1)))
   (pss_cons (ps_set (i := 0) nd rfl (Or.inl rfl) (pv 1))
   (pss_one (ps_set (i := 1) nd rfl (Or.inl rfl) (pv 2))))))
   (pss_one (ps_ret (pv 0)))), ?_⟩
  refine while_by (fun σ H1 => ∃ (x y : Int) (v : Option V), σ = [some (.int x), some (.int y), v] /\ H1 = H /\ Dv t b x y)
   (fun σ _ => match σ with | [_, some (.int y), _] => y.natAbs | _ => 0) ⟨t, b, none, rfl, rfl, Dv.start hb⟩ ?_ ?_
  ·rintro σ H1 ⟨x, y, v, rfl, rfl, d⟩
   refine ⟨_, rfl, rfl, _, rfl, ?_⟩
   refine ite2 (fun h1 => ?_) (fun h1 => ?_)
   ·have hy : y ≠ 0 := by
     intro e; subst e; simp at h1
    refine ⟨_, rfl, _, rfl, _, _, rfl, rfl, hy, ?_⟩
    refine ⟨_, rfl, _, rfl, ?_⟩
    exact ⟨⟨_, _, _, rfl, rfl, d.turn hy⟩, Dv.less hy⟩
   ·have hy : y = 0 := by
     by_cases e : y = 0
     ·exact e
     ·exact absurd (by simp [e]) h1
    refine ⟨_, rfl, ?_⟩
    rw [d.done hy hb]; exact k
  ·intro σ H1 Q1 Q2 hq h1
   obtain ⟨v, e, h2, c, e2, h3⟩ := h1
   exact ⟨v, e, h2, c, e2, hq _ _ h3⟩
noncomputable abbrev s_plus : Stmt := top 5
theorem sc_plus : FnScope ["one", "other", "shared", "rest", "top", "divisor"] ["one", "other"] (defScope s_plus) := scF
theorem ok_plus {ca : Ca} (D : DefAt K mg "plus" s_plus) (T : Txt K mg ca) (G_common_divisor : FnAt P w K mg base CX0 1 "common_divisor" ["top", "bottom"] (spCd)) : FnAt P w K mg base CX0 2 "plus" ["one", "other"] (spPlus) := by
 refine D.ok sc_plus (fun vs H Q E h => ?_) (fun _ _ _ _ _ _ us hl => match us, hl with | [_, _], _ => rfl) (fun f cdv A outer s H vs Q E hr h => ?_)
 ·obtain ⟨_, _, r, q, rfl, ⟨a, rfl, ha⟩, ⟨b, rfl, hb⟩, br, bq, k⟩ := h; rfl
 ·obtain ⟨_, _, r, q, rfl, ⟨a, rfl, ha⟩, ⟨b, rfl, hb⟩, br, bq, k⟩ := h
  have nd := sc_plus.nd
  refine ⟨_, (pss_cons (ps_set (i := 2) nd rfl (Or.inl rfl) (pfn G_common_divisor hr (pa_cons (pixT (pv 0) pe_int) (pa_cons (pixT (pv 1) pe_int) pa_nil))))
   (pss_cons (ps_set (i := 3) nd rfl (Or.inl rfl) (pe_op op_fdivB (pixT (pv 0) pe_int) (pv 2)))
   (pss_cons (ps_set (i := 4) nd rfl (Or.inl rfl) (pe_op op_add (pe_op op_mulB (pixT (pv 0) pe_int) (pe_op op_fdivB (pixT (pv 1) pe_int) (pv 2))) (pe_op op_mulB (pixT (pv 1) pe_int) (pv 3))))
   (pss_cons (ps_set (i := 5) nd rfl (Or.inl rfl) (pfn G_common_divisor hr (pa_cons (pv 4) (pa_cons (pv 2) pa_nil))))
   (pss_one (ps_ret (pe_tup (pa_cons (pe_op op_fdivB (pv 4) (pv 5)) (pa_cons (pe_op op_mulB (pv 3) (pe_op op_fdivB (pixT (pv 1) pe_int) (pv 5))) pa_nil))))))))), ?_⟩
  have d1 := rat_den_pos r
  have d2 := rat_den_pos q
  have i0 : ∀ (i : Nat), i <= 8000 -> (2 : Nat) ^ i <= 2 ^ 9000 := fun i hi => pow_le (by omega)
  refine ⟨_, rfl, a, _, _, _, rfl, rfl, SqT.of ha, rfl, _, rfl, b, _, _, _, rfl, rfl, SqT.of hb, rfl, _, _, rfl, (by omega), ?_⟩
  have s0 : dv r.den q.den ≠ 0 := dv_ne (by omega)
  have sle : (dv (r.den : Int) q.den).natAbs <= ((q.den : Int)).natAbs := dv_le (by omega)
  have sdiv : ∀ i, CDivB i (dv (r.den : Int) q.den) := fun i => bq.divR (by decide) s0 sle
  generalize hs : dv (r.den : Int) q.den = s1 at *
  refine ⟨_, rfl, a, _, _, _, rfl, rfl, SqT.of ha, rfl, _, rfl, _, _, rfl, rfl, sdiv _, ?_⟩
  have le1 : ∀ {x : Int} {m : Nat}, x.natAbs < 2 ^ m -> (x.fdiv s1).natAbs < 2 ^ (m + 1) := fun {x m} hx => by
   have := natAbs_fdiv_le x s1
   rw [Nat.pow_succ]; omega
  have hrest : ((r.den : Int).fdiv s1).natAbs < 2 ^ 8001 := le1 br.den
  have hq1 : ((q.den : Int).fdiv s1).natAbs < 2 ^ 8001 := le1 bq.den
  refine ⟨_, rfl, a, _, _, _, rfl, rfl, SqT.of ha, rfl, _, rfl, b, _, _, _, rfl, rfl, SqT.of hb, rfl, _, rfl, _, _, rfl, rfl, sdiv _, _, _, rfl, rfl, mulOk_of 8001 (Nat.lt_of_lt_of_le br.num (pow_le (by decide))) hq1 (by decide), _, rfl, b, _, _, _, rfl, rfl, SqT.of hb, rfl, _, rfl, _, _, rfl, rfl, mulOk_of 8001 (Nat.lt_of_lt_of_le bq.num (pow_le (by decide))) hrest (by decide), _, _, rfl, rfl, ?_⟩
  refine ⟨_, rfl, _, rfl, _, _, rfl, s0, ?_⟩
  have d0 : dv (r.num * (q.den : Int).fdiv s1 + q.num * (r.den : Int).fdiv s1) s1 ≠ 0 := dv_ne s0
  have dle : (dv (r.num * (q.den : Int).fdiv s1 + q.num * (r.den : Int).fdiv s1) s1).natAbs <= ((q.den : Int)).natAbs := Nat.le_trans (dv_le s0) sle
  have ddiv : ∀ i, CDivB i (dv (r.num * (q.den : Int).fdiv s1 + q.num * (r.den : Int).fdiv s1) s1) := fun i => bq.divR (by decide) d0 dle
  obtain ⟨e1, e2⟩ := plus_ok r q hs.symm rfl rfl rfl
  have hq2 : ((q.den : Int).fdiv (dv (r.num * (q.den : Int).fdiv s1 + q.num * (r.den : Int).fdiv s1) s1)).natAbs < 2 ^ 8001 := by
   have := natAbs_fdiv_le (q.den : Int) (dv (r.num * (q.den : Int).fdiv s1 + q.num * (r.den : Int).fdiv s1) s1)
   have z : ((q.den : Int)).natAbs < 2 ^ 8000 := bq.den
   rw [Nat.pow_succ]; omega
  refine ⟨_, rfl, _, rfl, _, _, rfl, rfl, ddiv _, _, rfl, _, rfl, b, _, _, _, rfl, rfl, SqT.of hb, rfl, _, rfl, _, _, rfl, rfl, ddiv _, _, _, rfl, rfl, mulOk_of 8001 hrest hq2 (by decide), sz (by simp), fun p hp => ?_⟩
  exact k _ _ (Same.upd hp) (FrV.newOf e1 e2)
noncomputable abbrev s_minus : Stmt := top 6
theorem sc_minus : FnScope ["one", "other"] ["one", "other"] (defScope s_minus) := scF
theorem ok_minus {ca : Ca} (D : DefAt K mg "minus" s_minus) (T : Txt K mg ca) (G_plus : FnAt P w K mg base CX0 2 "plus" ["one", "other"] (spPlus)) : FnAt P w K mg base CX0 3 "minus" ["one", "other"] (spMinus) := by
 refine D.ok sc_minus (fun vs H Q E h => ?_) (fun _ _ _ _ _ _ us hl => match us, hl with | [_, _], _ => rfl) (fun f cdv A outer s H vs Q E hr h => ?_)
 ·obtain ⟨_, _, r, q, rfl, hx, ⟨b, rfl, hb⟩, br, bq, k⟩ := h; rfl
 ·obtain ⟨_, _, r, q, rfl, hx, ⟨b, rfl, hb⟩, br, bq, k⟩ := h
  have nd := sc_minus.nd
  refine ⟨_, (pss_one (ps_ret (pfn G_plus hr (pa_cons (pv 0) (pa_cons (pe_tup (pa_cons (pe_op op_sub pe_int (pixT (pv 1) pe_int)) (pa_cons (pixT (pv 1) pe_int) pa_nil))) pa_nil))))), ?_⟩
  refine ⟨_, rfl, _, rfl, b, _, _, _, rfl, rfl, SqT.of hb, rfl, _, _, rfl, rfl, _, rfl, b, _, _, _, rfl, rfl, SqT.of hb, rfl, sz (by simp), fun p hp => ?_⟩
  refine ⟨_, _, r, -q, rfl, hx.upd hp, FrV.newOf (neg_ok q).1 (neg_ok q).2, br, bq.neg, fun v H' s' h => ?_⟩
  have h : FrV H' v (r + -q) := h
  rw [sub_eq] at h
  exact k v H' ((Same.upd hp).trans s') h
noncomputable abbrev s_times : Stmt := top 7
theorem sc_times : FnScope ["one", "other", "left", "right"] ["one", "other"] (defScope s_times) := scF
theorem ok_times {ca : Ca} (D : DefAt K mg "times" s_times) (T : Txt K mg ca) (G_common_divisor : FnAt P w K mg base CX0 1 "common_divisor" ["top", "bottom"] (spCd)) : FnAt P w K mg base CX0 2 "times" ["one", "other"] (spTimes) := by
 refine D.ok sc_times (fun vs H Q E h => ?_) (fun _ _ _ _ _ _ us hl => match us, hl with | [_, _], _ => rfl) (fun f cdv A outer s H vs Q E hr h => ?_)
 ·obtain ⟨_, _, a, b, t1, b1, t2, b2, rfl, rfl, ha, rfl, hb, p1, n2, c1, c2, ⟨z1, z2, z3, z4⟩, k⟩ := h; rfl
 ·obtain ⟨_, _, a, b, t1, b1, t2, b2, rfl, rfl, ha, rfl, hb, p1, n2, c1, c2, ⟨z1, z2, z3, z4⟩, k⟩ := h
  have nd := sc_times.nd
  refine ⟨_, (pss_cons (ps_set (i := 2) nd rfl (Or.inl rfl) (pfn G_common_divisor hr (pa_cons (pixT (pv 0) pe_int) (pa_cons (pixT (pv 1) pe_int) pa_nil))))
   (pss_cons (ps_set (i := 3) nd rfl (Or.inl rfl) (pfn G_common_divisor hr (pa_cons (pixT (pv 1) pe_int) (pa_cons (pixT (pv 0) pe_int) pa_nil))))
   (pss_one (ps_ret (pe_tup (pa_cons (pe_op op_mulB (pe_op op_fdivB (pixT (pv 0) pe_int) (pv 2)) (pe_op op_fdivB (pixT (pv 1) pe_int) (pv 3))) (pa_cons (pe_op op_mulB (pe_op op_fdivB (pixT (pv 0) pe_int) (pv 3)) (pe_op op_fdivB (pixT (pv 1) pe_int) (pv 2))) pa_nil))))))), ?_⟩
  refine ⟨_, rfl, a, _, _, _, rfl, rfl, SqT.of ha, rfl, _, rfl, b, _, _, _, rfl, rfl, SqT.of hb, rfl, _, _, rfl, n2, ?_⟩
  have l0 : dv t1 b2 ≠ 0 := dv_ne n2
  have lle : (dv t1 b2).natAbs <= b2.natAbs := dv_le n2
  have r0 : dv t2 b1 ≠ 0 := dv_ne (by omega)
  have rle : (dv t2 b1).natAbs <= b1.natAbs := dv_le (by omega)
  have ldiv : ∀ i, CDivB i (dv t1 b2) := fun i => divB_of l0 (Nat.lt_of_le_of_lt lle (Nat.lt_of_lt_of_le z4 (pow_le (by decide))))
  have rdiv : ∀ i, CDivB i (dv t2 b1) := fun i => divB_of r0 (Nat.lt_of_le_of_lt rle (Nat.lt_of_lt_of_le z2 (pow_le (by decide))))
  refine ⟨_, rfl, b, _, _, _, rfl, rfl, SqT.of hb, rfl, _, rfl, a, _, _, _, rfl, rfl, SqT.of ha, rfl, _, _, rfl, (by omega), ?_⟩
  generalize hl : dv t1 b2 = l at *
  generalize hr : dv t2 b1 = r at *
  obtain ⟨e1, e2⟩ := times_ok p1 n2 c1 c2 hl.symm hr.symm
  have le1 : ∀ {x d : Int}, x.natAbs < 2 ^ 8000 -> (x.fdiv d).natAbs < 2 ^ 8001 := fun {x d} hx => by
   have := natAbs_fdiv_le x d
   rw [Nat.pow_succ]; omega
  refine ⟨_, rfl, a, _, _, _, rfl, rfl, SqT.of ha, rfl, _, rfl, _, _, rfl, rfl, ldiv _, _, rfl, b, _, _, _, rfl, rfl, SqT.of hb, rfl, _, rfl, _, _, rfl, rfl, rdiv _, _, _, rfl, rfl, mulOk_of 8001 (le1 z1) (le1 z3) (by decide), _, rfl, a, _, _, _, rfl, rfl, SqT.of ha, rfl, _, rfl, _, _, rfl, rfl, rdiv _, _, rfl, b, _, _, _, rfl, rfl, SqT.of hb, rfl, _, rfl, _, _, rfl, rfl, ldiv _, _, _, rfl, rfl, mulOk_of 8001 (le1 z2) (le1 z4) (by decide), sz (by simp), fun p hp => ?_⟩
  exact k _ _ (Same.upd hp) (FrV.newOf e1 e2)
noncomputable abbrev s_over : Stmt := top 8
theorem sc_over : FnScope ["one", "other"] ["one", "other"] (defScope s_over) := scF
theorem ok_over {ca : Ca} (D : DefAt K mg "over" s_over) (T : Txt K mg ca) (G_times : FnAt P w K mg base CX0 2 "times" ["one", "other"] (spTimes)) : FnAt P w K mg base (CXE P w) 3 "over" ["one", "other"] (spOver ca.NoNumber) := by
 refine D.okE sc_over (fun vs H Q E h => ?_) (fun _ _ _ _ _ _ us hl => match us, hl with | [_, _], _ => rfl) (fun f cdv A outer s H vs Q E hr h => ?_)
 ·obtain ⟨_, _, r, q, rfl, ⟨a, rfl, ha⟩, ⟨b, rfl, hb⟩, br, bq, k, kE⟩ := h; rfl
 ·obtain ⟨_, _, r, q, rfl, ⟨a, rfl, ha⟩, ⟨b, rfl, hb⟩, br, bq, k, kE⟩ := h
  have nd := sc_over.nd
  refine ⟨_, (pss_cons (ps_if (pt_cmpR op_eq (pixT (pv 1) pe_int) pe_int (nomark _)) (pss_one (ps_raise raises_cx rfl (by rfl) T.c_NoNumber T.e_NoNumber PySem.F.excBase_ValueError (pa_cons pe_str pa_nil))) pss_nil)
   (pss_one (ps_ret (pfn G_times hr (pa_cons (pv 0) (pa_cons (pe_tup (pa_cons (pixT (pv 1) pe_int) (pa_cons (pixT (pv 1) pe_int) pa_nil))) pa_nil)))))), ?_⟩
  refine ⟨_, rfl, b, _, _, _, rfl, rfl, SqT.of hb, rfl, rfl, _, rfl, ?_⟩
  refine ite2 (fun h1 => ?_) (fun h1 => ?_)
  ·have e : V.int q.num = .int 0 := of_decide_eq_true h1
   have e : q = 0 := Rat.num_eq_zero.mp (V.int.inj e)
   exact ⟨sz (by simp), kE e⟩
  have hn : q.num ≠ 0 := fun z => h1 (decide_eq_true (by rw [z]))
  have hq : q ≠ 0 := fun z => hn (Rat.num_eq_zero.mpr z)
  refine ⟨_, rfl, _, rfl, b, _, _, _, rfl, rfl, SqT.of hb, rfl, _, rfl, b, _, _, _, rfl, rfl, SqT.of hb, rfl, sz (by simp), fun p hp => ?_⟩
  have ne : a ≠ p := ne_of_none ha hp
  refine ⟨_, _, a, p, r.num, r.den, q.den, q.num, rfl, rfl, (by rw [upd_ne ne]; exact ha), rfl, upd_same, rat_den_pos r, hn, rat_gcd r, gcd_swap q, ⟨br.num, br.den, bq.den, bq.num⟩, fun v H' s' h => ?_⟩
  rw [div_eq r q hn] at h
  exact k hq v H' ((Same.upd hp).trans s') h
noncomputable abbrev s_under : Stmt := top 9
theorem sc_under : FnScope ["one", "other"] ["one", "other"] (defScope s_under) := scF
theorem ok_under {ca : Ca} (D : DefAt K mg "under" s_under) (T : Txt K mg ca) : FnAt P w K mg base CX0 1 "under" ["one", "other"] (spUnder) := by
 refine D.ok sc_under (fun vs H Q E h => ?_) (fun _ _ _ _ _ _ us hl => match us, hl with | [_, _], _ => rfl) (fun f cdv A outer s H vs Q E hr h => ?_)
 ·obtain ⟨_, _, r, q, rfl, ⟨a, rfl, ha⟩, ⟨b, rfl, hb⟩, br, bq, k⟩ := h; rfl
 ·obtain ⟨_, _, r, q, rfl, ⟨a, rfl, ha⟩, ⟨b, rfl, hb⟩, br, bq, k⟩ := h
  have nd := sc_under.nd
  refine ⟨_, (pss_one (ps_ret (pe_cmpR op_lt (pe_op op_mulB (pixT (pv 0) pe_int) (pixT (pv 1) pe_int)) (pe_op op_mulB (pixT (pv 1) pe_int) (pixT (pv 0) pe_int)) (nomark _)))), ?_⟩
  refine ⟨_, rfl, a, _, _, _, rfl, rfl, SqT.of ha, rfl, _, rfl, b, _, _, _, rfl, rfl, SqT.of hb, rfl, _, _, rfl, rfl, mulOk_of 8000 br.num bq.den (by decide), _, rfl, b, _, _, _, rfl, rfl, SqT.of hb, rfl, _, rfl, a, _, _, _, rfl, rfl, SqT.of ha, rfl, _, _, rfl, rfl, mulOk_of 8000 bq.num br.den (by decide), _, _, rfl, rfl, ?_⟩
  rw [<- _root_.Tc.lt_ok] at k
  exact k
noncomputable abbrev s_sum_of : Stmt := top 10
theorem sc_sum_of : FnScope ["some", "whole", "share"] ["some"] (defScope s_sum_of) := scF
theorem ok_sum_of {ca : Ca} (D : DefAt K mg "sum_of" s_sum_of) (T : Txt K mg ca) (G_plus : FnAt P w K mg base CX0 2 "plus" ["one", "other"] (spPlus)) : FnAt P w K mg base CX0 3 "sum_of" ["some"] (spSumOf K) := by
 refine D.ok sc_sum_of (fun vs H Q E h => ?_) (fun _ _ _ _ _ _ us hl => match us, hl with | [_], _ => rfl) (fun f cdv A outer s H vs Q E hr h => ?_)
 ·obtain ⟨a, xs, rs, rfl, hS, hP, hB, hT, k⟩ := h; rfl
 ·obtain ⟨a, xs, rs, rfl, hS, hP, hB, hT, k⟩ := h
  have nd := sc_sum_of.nd
  refine ⟨_, (pss_cons (ps_set (i := 1) nd rfl (Or.inl rfl) (pe_tup (pa_cons pe_int (pa_cons pe_int pa_nil))))
   (pss_cons (ps_for PassesOwn.never rfl (pi_list' (K := K) rfl (pv 0)) (pg_name (i := 2) nd rfl (Or.inl rfl)) (pss_one (ps_set (i := 1) nd rfl (Or.inl rfl) (pfn G_plus hr (pa_cons (pv 1) (pa_cons (pv 2) pa_nil))))))
   (pss_one (ps_ret (pv 1))))), ?_⟩
  refine ⟨sz (by simp), fun p0 hp0 => ?_⟩
  have hl : xs.length = rs.length := hP.length
  refine ⟨_, rfl, a, rfl, ⟨_, (Same.upd hp0).seq hS⟩, ?_⟩
  refine for_list (xs := xs) (fun i σ H1 => ∃ v2 : Option V, ∃ w1 : V, σ = [some (.ref a), some w1, v2] /\ Same H H1 /\ FrV H1 w1 (sumQ (rs.take i))) ⟨none, .ref p0, rfl, Same.upd hp0, FrV.newOf rfl rfl⟩ ?_ ?_ ?_
  ·rintro i σ H1 hi ⟨v2, w1, rfl, s1, h1⟩
   exact s1.seq hS
  ·rintro i x σ H1 hx ⟨v2, w1, rfl, s1, h1⟩
   obtain ⟨r, hr, fr⟩ := paired_get hP hx
   have hi : i < rs.length := (List.getElem?_eq_some_iff.mp hr).1
   refine ⟨_, rfl, _, rfl, _, _, _, _, rfl, h1, fr.same s1, hT i (by omega), hB r (List.mem_of_getElem? hr), fun v H2 s2 h2 => ?_⟩
   refine ⟨_, _, rfl, s1.trans s2, ?_⟩
   rw [sumQ_take hr]; exact h2
  ·rintro σ H1 ⟨v2, w1, rfl, s1, h1⟩
   rw [hl, List.take_length] at h1
   exact ⟨_, rfl, k _ _ s1 h1⟩
noncomputable abbrev s_unmoved : Stmt := top 12
theorem sc_unmoved : FnScope ["names", "rows", "name"] ["names"] (defScope s_unmoved) := scF
theorem ok_unmoved {ca : Ca} (D : DefAt K mg "unmoved" s_unmoved) (T : Txt K mg ca) : FnAt P w K mg base CX0 1 "unmoved" ["names"] (spUnmoved K) := by
 refine D.ok sc_unmoved (fun vs H Q E h => ?_) (fun _ _ _ _ _ _ us hl => match us, hl with | [_], _ => rfl) (fun f cdv A outer s H vs Q E hr h => ?_)
 ·obtain ⟨an, L, rfl, hS, hn, h8, k⟩ := h; rfl
 ·obtain ⟨an, L, rfl, hS, hn, h8, k⟩ := h
  have nd := sc_unmoved.nd
  refine ⟨_, (pss_cons (ps_set (i := 1) nd rfl (Or.inl rfl) pe_dnewK)
   (pss_cons (ps_for PassesOwn.never rfl (pi_list' (K := K) rfl (pv 0)) (pg_name (i := 2) nd rfl (Or.inl rfl)) (pss_one (ps_dput (hu_of hr) (pv 1) (pv 2) (pe_disp (pps_cons (pv 2) (pe_tup (pa_cons pe_int (pa_cons pe_int pa_nil))) pps_nil) rfl rfl (List.cons_ne_nil _ _) (Nat.le_of_ble_eq_true rfl)) rfl)))
   (pss_one (ps_ret (pv 1))))), ?_⟩
  intro p hp
  have tp := Same.upd (o := .dK []) hp
  refine ⟨_, rfl, an, rfl, ⟨_, tp.seq hS⟩, ?_⟩
  refine for_list (xs := L.map V.str) (fun i σ H1 => ∃ (v2 : Option V) (rows : List (Key × V)) (ad : Str -> Addr), σ = [some (.ref an), some (.ref p), v2] /\ Same H H1 /\ H1 p = some (.dK rows) /\ TabAt H H1 p rows (L.take i) dlt ad) ⟨none, [], fun _ => 0, rfl, tp, upd_same, TabAt.nil _ _ _ _ _⟩ ?_ ?_ ?_
  ·rintro i σ H1 hi ⟨v2, rows, ad, rfl, s1, h1, T⟩
   exact s1.seq hS
  ·rintro i x σ H1 hx ⟨v2, rows, ad, rfl, s1, h1, T⟩
   obtain ⟨n, rfl, hi⟩ := str_get hx
   intro q hq
   refine ⟨_, rfl, sz (by simp), fun f hf => ?_⟩
   have nqf : q ≠ f := fun e => by rw [<- e, upd_same] at hf; cases hf
   refine ⟨by rw [upd_ne nqf, upd_same], [(.inr n, .ref f)], rfl, by simp, ?_⟩
   have t3 := ((Same.upd (o := .dK []) hq).trans (Same.upd (o := .tup [.int 1, .int 1]) hf)).updD (o := .dK (mergeK [] [(.inr n, .ref f)])) hq
   have npq : p ≠ q := ne_of_none h1 hq
   have len : rows.length <= 8 := by
    rw [T.len (hn.sublist (List.take_sublist _ _)), List.length_take]; omega
   refine ⟨_, rfl, _, rfl, p, upd (upd (upd (upd H1 q (.dK [])) f (.tup [.int 1, .int 1])) q (.dK (mergeK [] [(.inr n, .ref f)]))) p (.dK (putK rows (.inr n) (.ref q))), rfl, ?_, ?_⟩
   ·exact DPut.k (k := .inr n) (t3 _ _ h1) (sz (by omega))
   have hq0 : H q = none := s1.free hq
   have ff : FrV (upd (upd (upd (upd H1 q (.dK [])) f (.tup [.int 1, .int 1])) q (.dK (mergeK [] [(.inr n, .ref f)]))) p (.dK (putK rows (.inr n) (.ref q)))) (.ref f) 1 := by
    refine ⟨f, rfl, ?_⟩
    have npf : f ≠ p := fun e => by rw [e, upd_ne npq, h1] at hf; cases hf
    rw [upd_ne npf, upd_ne nqf.symm, upd_same]; rfl
   have tt : ∀ v r, FrV H1 v r -> FrV (upd (upd (upd (upd H1 q (.dK [])) f (.tup [.int 1, .int 1])) q (.dK (mergeK [] [(.inr n, .ref f)]))) p (.dK (putK rows (.inr n) (.ref q)))) v r := fun v r g => (g.same t3).tup (tup_of (t3 _ _ h1) (fun _ z => nomatch z))
   refine ⟨_, putK rows (.inr n) (.ref q), fun z => if z = n then q else ad z, rfl, (s1.trans t3).updD hp, upd_same, ?_⟩
   exact T.put hq0 hq npq.symm (fun c o e n => by rw [upd_ne n]; exact t3 _ _ e) tt (by rw [upd_ne npq.symm, upd_same]) (RowAt.unit n ff) (fun _ _ _ => rfl) (mem_take_succ hi)
  ·rintro σ H1 ⟨v2, rows, ad, rfl, s1, h1, T⟩
   rw [List.length_map, List.take_length] at T
   exact ⟨_, rfl, k p H1 rows ad hp s1 h1 T⟩
noncomputable abbrev s_add_shares : Stmt := top 13
theorem sc_add_shares : FnScope ["ends", "shares", "factor", "place", "share"] ["ends", "shares", "factor"] (defScope s_add_shares) := scF
theorem ok_add_shares {ca : Ca} (D : DefAt K mg "add_shares" s_add_shares) (T : Txt K mg ca) (G_plus : FnAt P w K mg base CX0 2 "plus" ["one", "other"] (spPlus)) (G_times : FnAt P w K mg base CX0 2 "times" ["one", "other"] (spTimes)) : FnAt P w K mg base CX0 3 "add_shares" ["ends", "shares", "factor"] (spAddShares) := by
 refine D.ok sc_add_shares (fun vs H Q E h => ?_) (fun _ _ _ _ _ _ us hl => match us, hl with | [_, _, _], _ => rfl) (fun f cdv A outer s H vs Q E hr h => ?_)
 ·obtain ⟨a, b, x, t, kv, ks, e, s, rfl, hab, ha, hb, he, hs, hx, bt, hB, hn, k⟩ := h; rfl
 ·obtain ⟨a, b, x, t, kv, ks, e, s, rfl, hab, ha, hb, he, hs, hx, bt, hB, hn, k⟩ := h
  have nd := sc_add_shares.nd
  refine ⟨_, (pss_one (ps_if (pt_cmpR (op_neD' (K := K) rfl hr) (pv 2) (pe_tup (pa_cons pe_int (pa_cons pe_int pa_nil))) (nomark _)) (pss_one (ps_thaw (ps_for PassesOwn.never rfl (pi_items (pe_bm0' (K := K) rfl PySem.F.plainAttrs_dict PySem.F.slot_dict_items PySem.F.type_dict_items mt_items (pv 1))) (pg_tup rfl (pgs_cons (pg_name (i := 3) nd rfl (Or.inl rfl)) (pgs_cons (pg_name (i := 4) nd rfl (Or.inl rfl)) pgs_nil))) (pss_one (ps_dput (hu_of hr) (pv 0) (pv 3) (pfn G_plus hr (pa_cons (pe_dget2 (hu_of hr) (pv 0) (pv 3) (pe_tup (pa_cons pe_int (pa_cons pe_int pa_nil))) ⟨by rfl, by rfl, by rfl, by rfl⟩) (pa_cons (pfn G_times hr (pa_cons (pv 4) (pa_cons (pv 2) pa_nil))) pa_nil))) rfl))))) pss_nil)), ?_⟩
  refine ⟨_, rfl, sz (by simp), fun p0 hp0 => ?_⟩
  have t0 := Same.upd (o := .tup [.int 0, .int 1]) hp0
  refine ⟨_, _, (hx.same t0).rep, rep_pq (SqT.of upd_same), pq_depth _ _, _, rfl, ?_⟩
  have e0 : PyData.eqv (pq t.num t.den) (pq 0 1) = decide (t = 0) := by
   rw [eqv_pq]
   exact fq_dec t 0
  refine ite2 (fun h => ?_) (fun h => ?_)
  ·have h : (!PyData.eqv (pq t.num t.den) (pq 0 1)) = true := h
   have ht : t ≠ 0 := by
    rw [e0] at h
    intro z; rw [decide_eq_true z] at h; cases h
   rw [if_neg ht] at k
   have hb1 := t0 _ _ hb
   refine ⟨b, _, hb1, rfl, ?_⟩
   refine ⟨_, rfl, .inr (.inr (.inl ⟨rfl, .inl ⟨_, hb1⟩⟩)), b, _, rfl, rfl, hb1, rfl, fun pv hpv => ?_⟩
   have t1 := t0.trans (Same.upd (o := viewO pv b) hpv)
   refine ⟨pv, b, _, rfl, upd_same, t1 _ _ hb, rfl, fun o ps hps => ?_⟩
   have hps : ps = ks.map fun kv => (kV kv.1, kv.2) := hps
   subst hps
   have keepF : ∀ {H2 : Hp} {v : V} {r : Rat}, (∀ c ob, H c = some ob -> c ≠ a -> c ≠ b -> H2 c = some ob) -> FrV H v r -> FrV H2 v r := by
    rintro H2 v r hk ⟨c, rfl, hc⟩
    exact ⟨c, rfl, hk c _ hc (ne_of hc ha (by intro z; cases z)) (ne_of hc hb (by intro z; cases z))⟩
   refine for_items (fun i σ H2 => ∃ (v3 v4 : Option V) (kv' : List (Key × V)), σ = [some (.ref a), some (.ref b), some x, v3, v4] /\ H2 b = some (.frz o (.dK ks)) /\ (∀ c ob, H c = some ob -> c ≠ a -> c ≠ b -> H2 c = some ob) /\ H2 a = some (.dK kv') /\ kv'.length <= kv.length + i /\ RowAt H2 kv' (addF e s t (nms (ks.take i)))) ?_ ?_ ?_ ?_
   ·have h2 : ∀ c ob, H c = some ob -> c ≠ a -> c ≠ b -> upd (upd (upd H p0 (.tup [.int 0, .int 1])) pv (viewO pv b)) b (.frz o (.dK ks)) c = some ob := fun c ob q _ n => by rw [upd_ne n]; exact t1 _ _ q
    refine ⟨none, none, kv, rfl, upd_same, h2, by rw [upd_ne hab]; exact t1 _ _ ha, Nat.le_refl _, ?_⟩
    have ef : addF e s t (nms (ks.take 0)) = e := by funext z; simp [addF, nms]
    rw [ef]
    exact he.same fun v r f => keepF h2 f
   ·rintro i σ H2 ⟨_, _, _, _, h, _⟩
    exact h
   ·rintro i k' v T σ H2 hk ⟨v3, v4, kv', rfl, hfb, hkeep, ha2, hl2, hrow⟩ hT
    obtain ⟨kvi, hki, ek⟩ := kv_get hk
    have hi : i < ks.length := (List.getElem?_eq_some_iff.mp hki).1
    obtain ⟨z, hz⟩ := hs.keys kvi (List.mem_of_getElem? hki)
    obtain ⟨rfl, rfl⟩ := Prod.mk.inj ek
    have hval := valV_get hs.nodup hki
    rw [hz] at hval
    obtain ⟨r, hr, fr⟩ : ∃ r, s z = some r /\ FrV H kvi.2 r := by
     cases q : s z with
     | none => rw [hs.not z q] at hval; cases hval
     | some r =>
      obtain ⟨v', h1, h2⟩ := hs.has z r q
      rw [hval] at h1; cases h1
      exact ⟨r, rfl, h2⟩
    have hzn : z ∉ nms (ks.take i) := nms_not hs.nodup hki hz hs.keys
    have t3 := Same.upd (o := .tup [kV kvi.1, kvi.2]) hT
    refine ⟨T, _, rfl, SqT.of upd_same, rfl, _, _, rfl, _, _, rfl, rfl, ?_⟩
    have ekv : kV kvi.1 = .str z := by rw [hz]; rfl
    refine ⟨_, rfl, a, rfl, .inl ⟨kv', .inl (t3 _ _ ha2)⟩, _, rfl, sz (by simp), fun q0 hq0 => ?_⟩
    have t4 := t3.trans (Same.upd (o := .tup [.int 0, .int 1]) hq0)
    refine ⟨valV kv' (.inr z), ?_, ?_⟩
    ·have g := DGet.k (k := kvi.1) (t4 _ _ ha2)
     have e9 : valV kv' kvi.1 = valV kv' (.inr z) := by rw [hz]
     rw [e9] at g; exact g
    have fg : ∀ {H5 : Hp}, Same (upd (upd H2 T (.tup [kV kvi.1, kvi.2])) q0 (.tup [.int 0, .int 1])) H5 -> FrV H5 ((valV kv' (.inr z)).getD (.ref q0)) ((e z).getD 0) := by
     intro H5 s5
     have ez : addF e s t (nms (ks.take i)) z = e z := by unfold addF; rw [if_neg hzn]
     cases q : e z with
     | none =>
      rw [hrow.not z (ez.trans q)]
      exact (FrV.newOf (r := 0) rfl rfl).same s5
     | some r' =>
      obtain ⟨v', h1, h2⟩ := hrow.has z r' (ez.trans q)
      rw [h1]
      exact (h2.same t4).same s5
    obtain ⟨b1, b2⟩ := hB z
    have er : (s z).getD 0 = r := by rw [hr]; rfl
    rw [er] at b2
    refine ⟨_, rfl, _, rfl, spTimes.of (E := E0) rfl ((keepF hkeep fr).same t4) ((keepF hkeep hx).same t4) (b2.mono (by decide)) (bt.mono (by decide)) fun v5 H5 s5 f5 => ?_⟩
    refine ⟨_, _, (e z).getD 0, r * t, rfl, fg s5, f5, b1.mono (by decide), (b2.mul bt).mono (by decide), fun v6 H6 s6 f6 => ?_⟩
    have t6 := t4.trans (s5.trans s6)
    refine ⟨_, rfl, _, rfl, a, upd H6 a (.dK (putK kv' (.inr z) v6)), rfl, ?_, ?_⟩
    ·have g := DPut.k (k := kvi.1) (v := v6) (t6 _ _ ha2) (sz (by omega))
     have e9 : putK kv' kvi.1 v6 = putK kv' (.inr z) v6 := by rw [hz]
     rw [e9] at g; exact g
    refine ⟨_, _, putK kv' (.inr z) v6, rfl, by rw [upd_ne hab.symm]; exact t6 _ _ hfb, fun c ob q n1 n2 => by rw [upd_ne n1]; exact t6 _ _ (hkeep c ob q n1 n2), upd_same, ?_, ?_⟩
    ·have := length_putK kv' (.inr z) v6
     omega
    ·have row := ((hrow.same fun v r f => f.same t6).put (z := z) f6).same (H' := upd H6 a (.dK (putK kv' (.inr z) v6))) fun v r f => by
      obtain ⟨c, rfl, hc⟩ := f
      exact ⟨c, rfl, by rw [upd_ne (ne_of hc (t6 _ _ ha2) (by intro z; cases z))]; exact hc⟩
     have ef : addF e s t (nms (ks.take (i + 1))) = fun y => if y = z then some ((e z).getD 0 + r * t) else addF e s t (nms (ks.take i)) y := by
      funext y
      have en : nms (ks.take (i + 1)) = nms (ks.take i) ++ [z] := by
       unfold nms
       rw [List.take_add_one, hki, List.map_append]
       show _ ++ [nmz kvi.1] = _
       rw [hz]; rfl
      unfold addF
      rw [en]
      by_cases ey : y = z
      ·subst ey; simp [er]
      ·simp [ey]
     rw [ef]
     exact row
   ·rintro σ H2 ⟨v3, v4, kv', rfl, hfb, hkeep, ha2, hl2, hrow⟩
    rw [List.length_map] at hl2 hrow
    rw [List.take_length] at hrow
    have hk2 : ∀ c ob, H c = some ob -> c ≠ a -> upd H2 b (.dK ks) c = some ob := fun c ob q n => by
     by_cases z : c = b
     ·subst z; rw [upd_same]; rw [hb] at q; exact q
     ·rw [upd_ne z]; exact hkeep c ob q n z
    refine ⟨o, _, hfb, k _ kv' hk2 (by rw [upd_ne hab]; exact ha2) hl2 ?_⟩
    have ef : addF e s t (nms ks) = fun z => if (s z).isSome = true then some ((e z).getD 0 + (s z).getD 0 * t) else e z := by
     funext z
     unfold addF
     by_cases q : z ∈ nms ks
     ·obtain ⟨kvi, hm, ez⟩ := List.mem_map.mp q
      obtain ⟨y, hy⟩ := hs.keys kvi hm
      obtain ⟨j, hj, ej⟩ := List.getElem_of_mem hm
      have hval := valV_get hs.nodup (i := j) (p := kvi) (by rw [List.getElem?_eq_getElem hj, ej])
      have eyz : y = z := by rw [hy] at ez; exact ez
      rw [hy, eyz] at hval
      cases q2 : s z with
      | none => rw [hs.not z q2] at hval; cases hval
      | some r => simp [q]
     ·cases q2 : s z with
      | none => simp [q]
      | some r =>
       obtain ⟨v', h1, _⟩ := hs.has z r q2
       exact absurd (nms_mem h1) q
    rw [<- ef]
    refine hrow.same fun v r f => ?_
    obtain ⟨c, rfl, hc⟩ := f
    exact ⟨c, rfl, by rw [upd_ne (ne_of hc hfb (by intro z; cases z))]; exact hc⟩
  ·have h : ¬ (!PyData.eqv (pq t.num t.den) (pq 0 1)) = true := h
   have ht : t = 0 := by
    rw [e0] at h
    by_cases z : t = 0
    ·exact z
    ·rw [decide_eq_false z] at h; exact absurd rfl h
   rw [if_pos ht] at k
   exact k _ kv (fun c ob q _ => t0 _ _ q) (t0 _ _ ha) (by omega) (he.same fun v r f => f.same t0)
noncomputable abbrev s_passed : Stmt := top 14
theorem sc_passed : FnScope ["rows", "step", "ends"] ["rows", "step"] (defScope s_passed) := scF
theorem ok_passed {ca : Ca} (D : DefAt K mg "passed" s_passed) (T : Txt K mg ca) (G_add_shares : FnAt P w K mg base CX0 3 "add_shares" ["ends", "shares", "factor"] (spAddShares)) (G_minus : FnAt P w K mg base CX0 3 "minus" ["one", "other"] (spMinus)) : FnAt P w K mg base CX0 4 "passed" ["rows", "step"] (spPassed) := by
 refine D.ok sc_passed (fun vs H Q E h => ?_) (fun _ _ _ _ _ _ us hl => match us, hl with | [_, _], _ => rfl) (fun f cdv A outer s H vs Q E hr h => ?_)
 ·obtain ⟨rw0, st, ax, ay, x, y, fr, t, rows, kx, ky, fx, fy, rfl, hrw, hst, hfr, vx, hax, rx, vy, hay, ry, bt, bt1, hB, hn, k⟩ := h; rfl
 ·obtain ⟨rw0, st, ax, ay, x, y, fr, t, rows, kx, ky, fx, fy, rfl, hrw, hst, hfr, vx, hax, rx, vy, hay, ry, bt, bt1, hB, hn, k⟩ := h
  have nd := sc_passed.nd
  refine ⟨_, (pss_cons (ps_set (i := 2) nd rfl (Or.inl rfl) pe_dnewK)
   (pss_cons (ps_expr (pfn G_add_shares hr (pa_cons (pv 2) (pa_cons (pe_dget (hu_of hr) (pv 0) (pixT (pv 1) pe_int) (fun _ _ => rfl)) (pa_cons (pfn G_minus hr (pa_cons (pe_tup (pa_cons pe_int (pa_cons pe_int pa_nil))) (pa_cons (pixT (pv 1) pe_int) pa_nil))) pa_nil)))))
   (pss_cons (ps_expr (pfn G_add_shares hr (pa_cons (pv 2) (pa_cons (pe_dget (hu_of hr) (pv 0) (pixT (pv 1) pe_int) (fun _ _ => rfl)) (pa_cons (pixT (pv 1) pe_int) pa_nil)))))
   (pss_one (ps_ret (pv 2)))))), ?_⟩
  intro p hp
  have tp := Same.upd (o := .dK []) hp
  have npx : p ≠ ax := (ne_of_none hax hp).symm
  have npy : p ≠ ay := (ne_of_none hay hp).symm
  refine ⟨_, rfl, _, rfl, _, rfl, st, _, _, _, rfl, rfl, SqT.of (tp _ _ hst), rfl, rw0, .ref ax, rfl, ?_, ?_⟩
  ·have g := DGet.k (k := .inr x) (tp _ _ hrw)
   rw [vx] at g; exact g
  refine ⟨sz (by simp), fun q hq => ?_⟩
  have t1 := tp.trans (Same.upd (o := .tup [.int 1, .int 1]) hq)
  refine ⟨_, rfl, st, _, _, _, rfl, rfl, SqT.of (t1 _ _ hst), rfl, ?_⟩
  refine ⟨_, _, 1, t, rfl, FrV.newOf rfl rfl, hfr.same t1, ⟨by decide, by decide⟩, bt.mono (by decide), fun v1 H1 s1 f1 => ?_⟩
  have u1 := t1.trans s1
  have hp1 : H1 p = some (.dK []) := s1 _ _ ((Same.upd (o := .tup [.int 1, .int 1]) hq) _ _ upd_same)
  refine ⟨p, ax, v1, 1 - t, [], kx, fun _ => none, fx, rfl, npx, hp1, u1 _ _ hax, RowAt.nil _, rx.same fun v r f => f.same u1, f1, bt1, fun z => ⟨(show Bd 3500 (0 : Rat) from ⟨by decide, by decide⟩), (hB z).1⟩, by simp only [List.length_nil]; omega, fun H2 kv2 k2 hp2 l2 r2 => ?_⟩
  have u2 : Same H H2 := fun c ob e => k2 c ob (u1 c ob e) (ne_of_none e hp)
  refine ⟨_, rfl, _, rfl, _, rfl, st, _, _, _, rfl, rfl, SqT.of (u2 _ _ hst), rfl, rw0, .ref ay, rfl, ?_, ?_⟩
  ·have g := DGet.k (k := .inr y) (u2 _ _ hrw)
   rw [vy] at g; exact g
  refine ⟨_, rfl, st, _, _, _, rfl, rfl, SqT.of (u2 _ _ hst), rfl, ?_⟩
  have l2 : kv2.length <= kx.length := by simpa using l2
  refine ⟨p, ay, fr, t, kv2, ky, _, fy, rfl, npy, hp2, u2 _ _ hay, r2, ry.same fun v r f => f.same u2, hfr.same u2, bt, fun z => ⟨(hB z).2.2, (hB z).2.1⟩, by omega, fun H3 kv3 k3 hp3 l3 r3 => ?_⟩
  have u3 : Same H H3 := fun c ob e => k3 c ob (u2 c ob e) (ne_of_none e hp)
  exact ⟨_, rfl, k p H3 kv3 hp u3 hp3 (by omega) r3⟩
noncomputable abbrev s_brought : Stmt := top 15
theorem sc_brought : FnScope ["names", "steps", "rows", "told", "step"] ["names", "steps"] (defScope s_brought) := scF
theorem ok_brought {ca : Ca} (D : DefAt K mg "brought" s_brought) (T : Txt K mg ca) (G_unmoved : FnAt P w K mg base CX0 1 "unmoved" ["names"] (spUnmoved K)) (G_passed : FnAt P w K mg base CX0 4 "passed" ["rows", "step"] (spPassed)) : FnAt P w K mg base CX0 5 "brought" ["names", "steps"] (spBrought K) := by
 refine D.ok sc_brought (fun vs H Q E h => ?_) (fun _ _ _ _ _ _ us hl => match us, hl with | [_, _], _ => rfl) (fun f cdv A outer s H vs Q E hr h => ?_)
 ·obtain ⟨an, as, L, xs, ss, rfl, hS, hn, h8, hX, hP, hO, h64, k⟩ := h; rfl
 ·obtain ⟨an, as, L, xs, ss, rfl, hS, hn, h8, hX, hP, hO, h64, k⟩ := h
  have nd := sc_brought.nd
  refine ⟨_, (pss_cons (ps_set (i := 2) nd rfl (Or.inl rfl) (pfn G_unmoved hr (pa_cons (pv 0) pa_nil)))
   (pss_cons (ps_set (i := 3) nd rfl (Or.inl rfl) (pe_lst pa_nil))
   (pss_cons (ps_for PassesOwn.never rfl (pi_rev (K := K) rfl (by rfl) T.z_reversed (pa_cons (pv 1) pa_nil)) (pg_name (i := 4) nd rfl (Or.inl rfl)) (pss_one (ps_if (pt_cmpR op_eq (pixT (pv 4) pe_int) pe_str (nomark _)) (pss_one (ps_dput (hu_of hr) (pv 2) (pixT (pv 4) pe_int) (pfn G_passed hr (pa_cons (pv 2) (pa_cons (pv 4) pa_nil))) rfl)) (pss_one (ps_expr (pe_bm PySem.F.plainAttrs_list PySem.F.slot_list_append PySem.F.type_list_append mt_append (pv 3) (pa_cons (pe_tup (pa_cons (pixT (pv 4) pe_int) (pa_cons (pixT (pv 4) pe_int) (pa_cons (pe_callTy call_dictK (by rfl) T.z_dict bt_dict (pa_cons (pe_dget (hu_of hr) (pv 2) (pixT (pv 4) pe_int) (fun _ _ => rfl)) pa_nil)) pa_nil)))) pa_nil)))))))
   (pss_cons (ps_expr (pe_bm0' (K := K) rfl PySem.F.plainAttrs_list PySem.F.slot_list_reverse PySem.F.type_list_reverse mt_reverse (pv 3)))
   (pss_one (ps_ret (pv 3))))))), ?_⟩
  have hlen : xs.length = ss.length := hP.length
  refine ⟨_, rfl, an, L, rfl, hS, hn, h8, fun p H1 rows0 ad0 hp s1 h1 T1 => ?_⟩
  refine ⟨sz (by simp), fun pt hpt => ?_⟩
  have tt0 := Same.upd (o := .lst []) hpt
  have hpt0 : H pt = none := s1.free hpt
  have s1t := s1.trans tt0
  refine ⟨_, rfl, as, xs, rfl, s1t.seq hX, ?_⟩
  refine for_rev (xs := xs) (fun j σ H2 => ∃ (v4 : Option V) (rows : List (Key × V)) (ad : Str -> Addr) (ys : List V) (tds : List (Br × Addr)), σ = [some (.ref an), some (.ref as), some (.ref p), some (.ref pt), v4] /\ Same H H2 /\ H2 p = some (.dK rows) /\ TabAt H H2 p rows L (back (ss.drop j)) ad /\ H2 pt = some (.lst ys) /\ Paired (BrV H2) ys tds /\ tds.map (·.1) = (brL (ss.drop j)).reverse /\ (tds.map (·.2)).Nodup /\ (∀ d ∈ tds.map (·.2), H d = none /\ d ≠ p)) ⟨none, rows0, ad0, [], [], rfl, s1t, tt0 _ _ h1, by rw [hlen, List.drop_length]; exact T1.same tt0, upd_same, .nil, by rw [hlen, List.drop_length]; rfl, List.nodup_nil, (fun _ z => nomatch z)⟩ ?_ ?_ ?_
  ·rintro j σ H2 hj ⟨v4, rows, ad, ys, tds, rfl, s2, h2, T, ht, hB, hm, hnd, hfr⟩
   exact s2.seq hX
  ·rintro j x σ H2 hx ⟨v4, rows, ad, ys, tds, rfl, s2, h2, T, ht, hB, hm, hnd, hfr⟩
   obtain ⟨st, hst, sv⟩ := paired_get hP hx
   have hj : j < ss.length := (List.getElem?_eq_some_iff.mp hst).1
   have ed : ss.drop j = st :: ss.drop (j + 1) := by
    rw [List.drop_eq_getElem_cons hj, (List.getElem?_eq_some_iff.mp hst).2]
   have hOd : ∀ s ∈ ss.drop j, OkS L s := fun s hs => hO s (List.mem_of_mem_drop hs)
   have hOd1 : ∀ s ∈ ss.drop (j + 1), OkS L s := fun s hs => hO s (List.mem_of_mem_drop hs)
   have hyl : ys.length <= 32 := by
    have e1 := hB.length
    have e2 := congrArg List.length hm
    rw [List.length_map, List.length_reverse] at e2
    have e3 := brL_len (ss.drop (j + 1))
    rw [List.length_drop] at e3
    omega
   cases st with
   | br z yr x0 q0 =>
    obtain ⟨a, l, f, rfl, ha, hl, hf⟩ := sv
    have hx0 : x0 ∈ L := (hO _ (List.mem_of_getElem? hst)).1
    have ha2 := s2 _ _ ha
    obtain ⟨vx, fx0, kx, hax, rx⟩ := T.row x0 hx0
    refine ⟨_, rfl, a, _, _, _, rfl, rfl, SqT.of ha2, rfl, rfl, _, rfl, ?_⟩
    refine dec_false (by decide +kernel) ?_
    refine ⟨_, rfl, .inl ⟨rfl, _, SqL.of ht⟩, _, rfl, a, _, _, _, rfl, rfl, SqT.of ha2, rfl, _, rfl, a, _, _, _, rfl, rfl, SqT.of ha2, rfl, _, rfl, _, rfl, a, _, _, _, rfl, rfl, SqT.of ha2, rfl, p, .ref (ad x0), rfl, ?_, ad x0, kx, rfl, hax, fun d hd => ⟨sz (by simp), fun t ht' => ?_⟩⟩
    ·have g := DGet.k (k := .inr x0) h2
     rw [vx] at g; exact g
    have u1 := Same.upd (o := .dK kx) hd
    have u2 := Same.upd (o := .tup [.ref l, f, .ref d]) ht'
    have u12 := u1.trans u2
    have ht3 := u12 _ _ ht
    refine ⟨pt, _, _, rfl, rfl, ht3, sz (by omega), ?_⟩
    have tu := tup_of (o := .lst (ys ++ [.ref t])) ht3 (fun _ z => nomatch z)
    have npt : p ≠ pt := ne_of h2 ht (by intro z; cases z)
    have dk : ∀ c kvs, H2 c = some (.dK kvs) -> upd (upd (upd H2 d (.dK kx)) t (.tup [.ref l, f, .ref d])) pt (.lst (ys ++ [.ref t])) c = some (.dK kvs) := fun c kvs e => by
     rw [upd_ne (ne_of (u12 _ _ e) ht3 (by intro z; cases z))]; exact u12 _ _ e
    have tk : ∀ c m, H2 c = some (.tup m) -> upd (upd (upd H2 d (.dK kx)) t (.tup [.ref l, f, .ref d])) pt (.lst (ys ++ [.ref t])) c = some (.tup m) := fun c m e => tu _ _ (u12 _ _ e)
    have ndp : d ≠ pt := fun e => by rw [e, ht] at hd; cases hd
    refine ⟨_, rows, ad, ys ++ [.ref t], tds ++ [(⟨z, yr, q0, back (ss.drop (j + 1)) x0⟩, d)], rfl, (s2.trans u12).updD hpt0, dk _ _ h2, ?_, upd_same, ?_, ?_, ?_, ?_⟩
    ·rw [ed]
     refine ⟨T.nodup, T.keys, fun n hn => ?_, T.inj, T.apart⟩
     obtain ⟨a1, a2, kv, a3, a4⟩ := T.row n hn
     exact ⟨a1, a2, kv, dk _ _ a3, a4.same fun v r g => g.tup tk⟩
    ·refine Paired.snoc (Paired.mapP hB fun _ bd b => b.keep tk (dk bd.2)) ?_
     exact ⟨t, l, f, kx, rfl, tu _ _ upd_same, tk _ _ (s2 _ _ hl), (hf.same s2).tup tk, by rw [upd_ne ndp]; exact u2 _ _ upd_same, rx.same fun v r g => g.tup tk⟩
    ·rw [List.map_append, hm, ed]
     show _ = ((⟨z, yr, q0, back (ss.drop (j + 1)) x0⟩ : Br) :: brL (ss.drop (j + 1))).reverse
     rw [List.reverse_cons]; rfl
    ·rw [List.map_append]
     refine List.nodup_append.mpr ⟨hnd, by simp, fun d1 h1 d2 h2' e => ?_⟩
     have h2' : d2 = d := List.mem_singleton.mp h2'
     obtain ⟨bd, hbd, e1⟩ := List.mem_map.mp h1
     obtain ⟨x', _, a', l', f', kvs', _, _, _, _, e4, _⟩ := paired_mem' hB hbd
     rw [e1, e, h2', hd] at e4; cases e4
    ·intro d1 h1
     rw [List.map_append] at h1
     rcases List.mem_append.mp h1 with e | e
     ·exact hfr d1 e
     ·have e : d1 = d := List.mem_singleton.mp e
      rw [e]; exact ⟨s2.free hd, (ne_of_none h2 hd).symm⟩
   | ps x0 y0 t =>
    obtain ⟨a, f, rfl, ha, hf⟩ := sv
    obtain ⟨hx0, hy0, hxy, t0, t1, td⟩ := hO _ (List.mem_of_getElem? hst)
    refine ⟨_, rfl, a, _, _, _, rfl, rfl, SqT.of (s2 _ _ ha), rfl, rfl, _, rfl, ?_⟩
    refine dec_true rfl ?_
    have G := back_good hn hOd1
    have B := prod_bd hOd (by rw [List.length_drop]; omega) (k := 1) (by decide)
    rw [ed] at B
    have B : 1 * (prodD (ss.drop (j + 1)) * t.den) < 2 ^ 2600 := B
    have B0 := prod_bd hOd1 (by rw [List.length_drop]; omega) (k := 1) (by decide)
    have P0 := prodD_pos (ss.drop (j + 1))
    have Pd : 0 < prodD (ss.drop (j + 1)) * t.den := Nat.mul_pos P0 t.den_pos
    obtain ⟨vx, _, kx, hax, rx⟩ := T.row x0 hx0
    obtain ⟨vy, _, ky, hay, ry⟩ := T.row y0 hy0
    have lx := rx.len (G.sup x0 hx0)
    have ly := ry.len (G.sup y0 hy0)
    have bs := Bd.share t0 t1 td
    let R := back (ss.drop (j + 1))
    have ea : addR (fun _ => none) (op (R x0)) (1 - t) = op fun z => 0 + R x0 z * (1 - t) := by
     rw [<- op_zero]
     exact addR_op (fun _ => Rat.le_refl) (fun z => (G.part x0 hx0 z).1) (sub_nonneg t1)
    have eb : addR (addR (fun _ => none) (op (R x0)) (1 - t)) (op (R y0)) t = op (bw x0 y0 t R x0) := by
     rw [ea, addR_op (fun z => by rw [Rat.zero_add]; exact Rat.mul_nonneg (G.part x0 hx0 z).1 (sub_nonneg t1)) (fun z => (G.part y0 hy0 z).1) t0]
     unfold bw
     rw [if_pos rfl]
     congr 1
     funext z
     rw [Rat.zero_add]
    refine ⟨_, rfl, _, rfl, p, a, ad x0, ad y0, x0, y0, f, t, rows, kx, ky, op (R x0), op (R y0), rfl, h2, s2 _ _ ha, hf.same s2, vx, hax, rx, vy, hay, ry, bs.1.mono (by decide), bs.2.mono (by decide), fun z => ⟨?_, ?_, ?_⟩, by omega, fun q H3 kv3 hq s3 h3 l3 r3 => ?_⟩
    ·rw [op_get]; exact ((G.part x0 hx0 z).bd P0 (Nat.le_refl _) B0).mono (by decide)
    ·rw [op_get]; exact ((G.part y0 hy0 z).bd P0 (Nat.le_refl _) B0).mono (by decide)
    ·rw [ea, op_get, Rat.zero_add]; exact (((G.part x0 hx0 z).mulR t0 t1).bd Pd (Nat.le_refl _) B).mono (by decide)
    rw [eb] at r3
    have len := T.len hn
    have npq : p ≠ q := ne_of_none h2 hq
    refine ⟨_, rfl, _, rfl, a, _, _, _, rfl, rfl, SqT.of (s3 _ _ (s2 _ _ ha)), rfl, p, upd H3 p (.dK (putK rows (.inr x0) (.ref q))), rfl, ?_, ?_⟩
    ·exact DPut.k (k := .inr x0) (s3 _ _ h2) (sz (by omega))
    have tu := tup_of (o := .dK (putK rows (.inr x0) (.ref q))) (s3 _ _ h2) (fun _ z => nomatch z)
    have tt : ∀ v r, FrV H3 v r -> FrV (upd H3 p (.dK (putK rows (.inr x0) (.ref q)))) v r := fun v r g => g.tup tu
    refine ⟨_, putK rows (.inr x0) (.ref q), fun z => if z = x0 then q else ad z, ys, tds, rfl, (s2.trans s3).updD hp, upd_same, ?_, ?_, ?_, ?_, hnd, hfr⟩
    ·rw [ed]
     refine T.put (R' := bw x0 y0 t R) (s2.free hq) hq npq.symm (fun c o e n => by rw [upd_ne n]; exact s3 _ _ e) (fun v r g => tt v r (g.same s3)) (by rw [upd_ne npq.symm]; exact h3) (r3.same tt) (fun m _ e => ?_) (fun z => ⟨.inl, fun e => ?_⟩)
     ·unfold bw; rw [if_neg e]
     ·rcases e with e | e
      ·exact e
      ·rw [e]; exact hx0
    ·rw [upd_ne (ne_of ht h2 (by intro z; cases z))]; exact s3 _ _ ht
    ·refine paired_imp hB fun _ bd hbd b => b.keep (fun c m e => tu _ _ (s3 _ _ e)) fun kvs e => ?_
     rw [upd_ne (hfr bd.2 (List.mem_map.mpr ⟨bd, hbd, rfl⟩)).2]; exact s3 _ _ e
    ·rw [ed]; exact hm
  ·rintro σ H2 ⟨v4, rows, ad, ys, tds, rfl, s2, h2, T, ht, hB, hm, hnd, hfr⟩
   rw [List.drop_zero] at hm
   refine ⟨_, rfl, .inl ⟨rfl, _, SqL.of ht⟩, pt, ys, rfl, rfl, ht, ?_⟩
   refine ⟨_, rfl, k pt _ ys.reverse tds.reverse hpt0 (s2.updD hpt0) upd_same ?_ ?_ ?_ fun d hd => ?_⟩
   ·refine Paired.mapP (paired_rev hB) fun _ _ b => b.keep (tup_of ht (fun _ z => nomatch z)) fun kvs e => ?_
    rw [upd_ne (ne_of e ht (by intro z; cases z))]; exact e
   ·rw [List.map_reverse, hm, List.reverse_reverse]
   ·rw [List.map_reverse]; exact (List.reverse_perm _).nodup_iff.mpr hnd
   ·rw [List.map_reverse] at hd; exact (hfr d (List.mem_reverse.mp hd)).1
noncomputable abbrev s_forth : Stmt := top 17
theorem sc_forth : FnScope ["names", "steps", "k"] ["names", "steps", "k"] (defScope s_forth) := scF
theorem ok_forth {ca : Ca} (D : DefAt K mg "forth" s_forth) (T : Txt K mg ca) (G_brought : FnAt P w K mg base CX0 5 "brought" ["names", "steps"] (spBrought K)) : FnAt P w K mg base CX0 6 "forth" ["names", "steps", "k"] (spForth K) := by
 refine D.ok sc_forth (fun vs H Q E h => ?_) (fun _ _ _ _ _ _ us hl => match us, hl with | [_, _, _], _ => rfl) (fun f cdv A outer s H vs Q E hr h => ?_)
 ·obtain ⟨an, as, L, xs, ss, kk, b, rfl, hS, hn, h8, hX, hP, hO, h64, hb, k⟩ := h; rfl
 ·obtain ⟨an, as, L, xs, ss, kk, b, rfl, hS, hn, h8, hX, hP, hO, h64, hb, k⟩ := h
  have nd := sc_forth.nd
  refine ⟨_, (pss_one (ps_ret (pixT (pixL (pfn G_brought hr (pa_cons (pv 0) (pa_cons (pv 1) pa_nil))) (pv 2)) pe_int))), ?_⟩
  refine ⟨_, rfl, _, rfl, an, as, L, xs, ss, rfl, hS, hn, h8, hX, hP, hO, h64, fun p H1 ys tds hp s1 h1 hB hm hnd hfr => ?_⟩
  obtain ⟨bd, hbd, eb⟩ : ∃ bd, tds[kk]? = some bd /\ bd.1 = b := by
   rw [<- hm, List.getElem?_map] at hb
   cases q : tds[kk]? with
   | none => rw [q] at hb; cases hb
   | some bd => rw [q] at hb; exact ⟨bd, rfl, Option.some.inj hb⟩
  obtain ⟨i, hi, eg⟩ : ∃ i, ys[kk]? = some i /\ BrV H1 i bd := by
   have hl : kk < ys.length := by rw [hB.length]; exact (List.getElem?_eq_some_iff.mp hbd).1
   refine ⟨_, List.getElem?_eq_getElem hl, ?_⟩
   obtain ⟨y, h1', h2'⟩ := paired_get hB (List.getElem?_eq_getElem hl)
   rw [hbd] at h1'
   rw [Option.some.inj h1']; exact h2'
  obtain ⟨a, l, f, kvs, rfl, e1, e2, e3, e4, e5⟩ := eg
  refine ⟨_, rfl, p, _, _, _, rfl, rfl, SqL.of h1, atI_nat hi, a, _, _, _, rfl, rfl, SqT.of e1, rfl, ?_⟩
  rw [eb] at e5
  exact k bd.2 H1 kvs (hfr _ (List.mem_map.mpr ⟨bd, List.mem_of_getElem? hbd, rfl⟩)) s1 e4 e5
noncomputable abbrev s_back : Stmt := top 18
theorem sc_back : FnScope ["names", "steps", "place", "amounts", "lot", "amount", "ends", "together"] ["names", "steps", "place"] (defScope s_back) := scF
theorem ok_back {ca : Ca} (D : DefAt K mg "back" s_back) (T : Txt K mg ca) (G_brought : FnAt P w K mg base CX0 5 "brought" ["names", "steps"] (spBrought K)) (G_times : FnAt P w K mg base CX0 2 "times" ["one", "other"] (spTimes)) (G_sum_of : FnAt P w K mg base CX0 3 "sum_of" ["some"] (spSumOf K)) (G_over : FnAt P w K mg base (CXE P w) 3 "over" ["one", "other"] (spOver ca.NoNumber)) : FnAt P w K mg base CX0 6 "back" ["names", "steps", "place"] (spBack K) := by
 refine D.ok sc_back (fun vs H Q E h => ?_) (fun _ _ _ _ _ _ us hl => match us, hl with | [_, _, _], _ => rfl) (fun f cdv A outer s H vs Q E hr h => ?_)
 ·obtain ⟨an, as, L, xs, ss, pl, rfl, hS, hn, h8, hX, hP, hO, hQ, h64, k⟩ := h; rfl
 ·obtain ⟨an, as, L, xs, ss, pl, rfl, hS, hn, h8, hX, hP, hO, hQ, h64, k⟩ := h
  have nd := sc_back.nd
  refine ⟨_, (pss_cons (ps_set (i := 3) nd rfl (Or.inl rfl) (pe_lst pa_nil))
   (pss_cons (ps_for PassesOwn.never rfl (pi_list' (K := K) rfl (pfn G_brought hr (pa_cons (pv 0) (pa_cons (pv 1) pa_nil)))) (pg_tup rfl (pgs_cons (pg_name (i := 4) nd rfl (Or.inl rfl)) (pgs_cons (pg_name (i := 5) nd rfl (Or.inl rfl)) (pgs_cons (pg_name (i := 6) nd rfl (Or.inl rfl)) pgs_nil)))) (pss_one (ps_expr (pe_bm PySem.F.plainAttrs_list PySem.F.slot_list_append PySem.F.type_list_append mt_append (pv 3) (pa_cons (pfn G_times hr (pa_cons (pv 5) (pa_cons (pe_dget2 (hu_of hr) (pv 6) (pv 2) (pe_tup (pa_cons pe_int (pa_cons pe_int pa_nil))) ⟨by rfl, by rfl, by rfl, by rfl⟩) pa_nil))) pa_nil)))))
   (pss_cons (ps_set (i := 7) nd rfl (Or.inr rfl) (pfn G_sum_of hr (pa_cons (pv 3) pa_nil)))
   (pss_one (ps_ret (pe_comp ["k", "amount"] ["together"] [7] rfl (by rfl) (pi_enum (K := K) rfl (by rfl) T.z_enumerate (pa_cons (pv 3) pa_nil)) (fun _ _ _ _ => (pg_tup' (K := K) (n := 2) (by rfl) (by rfl) (pgs_cons (pg_name (i := 0) (show List.Nodup (["k", "amount", "together"] : List Str) from by decide) rfl (Or.inl rfl) (hf := Or.inr (by rfl))) (pgs_cons (pg_name (i := 1) (show List.Nodup (["k", "amount", "together"] : List Str) from by decide) rfl (Or.inl rfl) (hf := Or.inr (by rfl))) pgs_nil)))) (fun _ _ _ _ => (pif_one (pt_cmpR (op_neD' (K := K) rfl hr) (pv 1) (pe_tup (pa_cons pe_int (pa_cons pe_int pa_nil))) (nomark _)))) (fun _ _ _ _ => (pe_tup (pa_cons (pv 0) (pa_cons (pe_fn G_over hr (by rfl) pass00 (pa_cons (pv 1) (pa_cons (pv 2) pa_nil))) pa_nil)))))))))), ?_⟩
  have aok := amt_ok hn hO hQ pl
  have P0 : 0 < 159739999685311463424 * prodD ss := Nat.mul_pos (by decide) (prodD_pos ss)
  have B1 := amt_bd hO h64 (k := 1000) (by decide)
  have bl := brL_len ss
  refine ⟨sz (by simp), fun pm hpm => ?_⟩
  have tp := Same.upd (o := .lst []) hpm
  refine ⟨_, rfl, _, rfl, an, as, L, xs, ss, rfl, tp.seq hS, hn, h8, tp.seq hX, steps_same hP tp, hO, h64, fun pb H1 ys tds hpb s1 h1 hB hm hnd hfr => ⟨pb, rfl, ⟨_, SqL.of h1⟩, ?_⟩⟩
  have hyl : ys.length = (brL ss).length := by rw [hB.length, <- hm, List.length_map]
  have hpm1 := s1 _ _ (upd_same (H := H) (a := pm) (o := .lst []))
  refine for_list (xs := ys) (fun i σ H2 => ∃ (v4 v5 v6 : Option V) (ws : List V), σ = [some (.ref an), some (.ref as), some (.str pl), some (.ref pm), v4, v5, v6, none] /\ (∀ c ob, H1 c = some ob -> c ≠ pm -> H2 c = some ob) /\ H2 pm = some (.lst ws) /\ Paired (FrV H2) ws ((rsOf pl ss).take i)) ⟨none, none, none, [], rfl, fun c ob e _ => e, hpm1, .nil⟩ ?_ ?_ ?_
  ·rintro i σ H2 hi ⟨v4, v5, v6, ws, rfl, kp, h2, hW⟩
   exact SqL.of (kp _ _ h1 (fun e => by
    have := tp.free hpb
    rw [e, upd_same] at hpb; cases hpb))
  ·rintro i x σ H2 hx ⟨v4, v5, v6, ws, rfl, kp, h2, hW⟩
   obtain ⟨bd, hbd, a, l, f, kvs, rfl, q1, q2, q3, q4, q5⟩ := paired_get hB hx
   have hb : (brL ss)[i]? = some bd.1 := by rw [<- hm, List.getElem?_map, hbd]; rfl
   have hib : i < (brL ss).length := (List.getElem?_eq_some_iff.mp hb).1
   have kT : ∀ c m, H1 c = some (.tup m) -> H2 c = some (.tup m) := fun c m e => kp _ _ e (ne_of e hpm1 (by intro z; cases z))
   have q42 := kp _ _ q4 (ne_of q4 hpm1 (by intro z; cases z))
   obtain ⟨n, x0, hx0, eg⟩ := brL_mem hO bd.1 (List.mem_of_getElem? hb)
   have G := back_good hn (ss := ss.drop n) fun s hs => hO s (List.mem_of_mem_drop hs)
   have hg : IsM (159739999685311463424 * prodD ss) 1 (bd.1.g pl) := by
    have h1 : IsM (prodD ss) 1 (bd.1.g pl) := by rw [prodD_drop ss n, eg]; exact (G.part x0 hx0 pl).up _
    rw [Nat.mul_comm]; exact h1.up _
   have hq : IsM (159739999685311463424 * prodD ss) 1000 bd.1.q := (brL_q hQ bd.1 (List.mem_of_getElem? hb)).2.up _
   have wl : ws.length <= 32 := by
    have := hW.length
    rw [List.length_take] at this
    unfold rsOf at this
    rw [List.length_map] at this
    omega
   refine ⟨a, _, rfl, SqT.of (kT _ _ q1), rfl, _, _, rfl, _, _, rfl, _, _, rfl, rfl, ?_⟩
   refine ⟨_, rfl, .inl ⟨rfl, _, SqL.of h2⟩, _, rfl, _, rfl, bd.2, rfl, .inl ⟨kvs, .inl q42⟩, _, rfl, sz (by simp), fun q0 hq0 => ⟨valV kvs (.inr pl), DGet.k (k := .inr pl) (Same.upd hq0 _ _ q42), ?_⟩⟩
   have z0 := Same.upd (o := .tup [.int 0, .int 1]) hq0
   have fg : FrV (upd H2 q0 (.tup [.int 0, .int 1])) ((valV kvs (.inr pl)).getD (.ref q0)) (bd.1.g pl) := by
    have := (q5.same (fun v r f => (f.tup kT).same z0)).getD (FrV.newOf (r := 0) (p := q0) rfl rfl) pl
    rw [op_get] at this; exact this
   refine spTimes.of (E := E0) rfl ((q3.tup kT).same z0) fg ((hq.bd P0 (by decide) B1).mono (by decide)) ((hg.bd P0 (by decide) (amt_bd hO h64 (by decide))).mono (by decide)) fun w3 H3 s3 f3 => ?_
   have z3 := z0.trans s3
   have h23 := z3 _ _ h2
   refine ⟨pm, _, _, rfl, rfl, h23, sz (by omega), ?_⟩
   have tu := tup_of (o := .lst (ws ++ [w3])) h23 (fun _ z => nomatch z)
   refine ⟨_, _, _, ws ++ [w3], rfl, fun c ob e n => by rw [upd_ne n]; exact z3 _ _ (kp c ob e n), upd_same, ?_⟩
   have et : (rsOf pl ss).take (i + 1) = (rsOf pl ss).take i ++ [bd.1.q * bd.1.g pl] := by
    unfold rsOf
    rw [List.take_add_one, List.getElem?_map, hb]; rfl
   rw [et]
   exact Paired.snoc (Paired.mapP hW fun _ _ f => (f.same z3).tup tu) (f3.tup tu)
  ·rintro σ H2 ⟨v4, v5, v6, ws, rfl, kp, h2, hW⟩
   have el : (rsOf pl ss).length = (brL ss).length := List.length_map ..
   rw [hyl, <- el, List.take_length] at hW
   let rs : List Rat := rsOf pl ss
   have hW : Paired (FrV H2) ws rs := hW
   have hrs : ∀ r ∈ rs, IsM (159739999685311463424 * prodD ss) 1000 r := fun r hr => by
    obtain ⟨b, hb, rfl⟩ := List.mem_map.mp hr
    exact aok b hb
   have lrs : rs.length <= 32 := by show (rsOf pl ss).length <= 32; omega
   have bsum : ∀ j, Bd 2700 (sumQ (rs.take j)) := fun j => by
    have h := sum_isM (rs := rs.take j) fun r hr => hrs r (List.mem_of_mem_take hr)
    have hl : (rs.take j).length * 1000 <= 64000 := by rw [List.length_take]; omega
    exact (h.mono hl).bd P0 (by decide) (amt_bd hO h64 (Nat.le_refl _))
   have brs : ∀ r ∈ rs, Bd 2700 r := fun r hr => (hrs r hr).bd P0 (by decide) B1
   refine ⟨_, rfl, pm, ws, rs, rfl, SqL.of h2, hW, fun r hr => (brs r hr).mono (by decide), fun j _ => (bsum j).mono (by decide), fun w3 H3 s3 f3 => ?_⟩
   have h23 := s3 _ _ h2
   have hW3 := paired_same s3 hW
   have wlen : ws.length = rs.length := hW.length
   have Hs : Same H H3 := fun c ob e => s3 _ _ (kp _ _ (s1 _ _ (tp _ _ e)) (ne_of_none e hpm))
   have bR : Bd 2700 (sumQ rs) := by have := bsum rs.length; rw [List.take_length] at this; exact this
   refine ⟨_, rfl, pm, _, rfl, SqL.of h23, fun D hD => ?_⟩
   refine block_enum (xs := ws) (fun j σ' H' => ∃ (v0 v1 : Option V) (zs : List V), σ' = [v0, v1, some w3] /\ Same H3 H' /\ H' D = some (.lst zs) /\ Paired (PrV H') zs ((nz rs j).map fun k => (k, rs.getD k 0 / sumQ rs))) ⟨none, none, [], rfl, Same.upd hD, upd_same, .nil⟩ ?_ ?_ ?_
   ·rintro j σ' H' hj ⟨v0, v1, zs, rfl, s4, hd, hZ⟩
    exact SqL.of (s4 _ _ h23)
   ·rintro j w T σ' H' hw ⟨v0, v1, zs, rfl, s4, hd, hZ⟩ hT
    obtain ⟨r, hr, fr⟩ := paired_get hW3 hw
    have ej := getD_at hr
    have hj : j < rs.length := (List.getElem?_eq_some_iff.mp hr).1
    have zl : zs.length <= 32 := by
     have := hZ.length
     rw [List.length_map] at this
     have := nz_len rs j
     omega
    have tT := Same.upd (o := .tup [.int (j : Nat), w]) hT
    have fr' := (fr.same s4).same tT
    refine ⟨T, _, rfl, SqT.of upd_same, rfl, _, _, rfl, _, _, rfl, rfl, ?_⟩
    refine ⟨_, rfl, sz (by simp), fun q0 hq0 => ?_⟩
    have z0 := Same.upd (o := .tup [.int 0, .int 1]) hq0
    have s5 := s4.trans (tT.trans z0)
    refine ⟨_, _, (fr'.same z0).rep, rep_pq (SqT.of upd_same), pq_depth _ _, _, rfl, ?_⟩
    have e0 : PyData.eqv (pq r.num r.den) (pq 0 1) = decide (r = 0) := by
     rw [eqv_pq]
     exact fq_dec r 0
    rw [e0]
    refine ite2 (fun h => ?_) (fun h => ?_)
    ·have hr0 : r ≠ 0 := fun z => by rw [decide_eq_true z] at h; cases h
     have R0 := sum_pos hrs (List.mem_of_getElem? hr) hr0
     have Rne : sumQ rs ≠ 0 := fun z => by rw [z] at R0; exact absurd R0 (by decide)
     refine ⟨_, rfl, _, rfl, _, rfl, _, _, r, sumQ rs, rfl, fr'.same z0, f3.same s5, (brs r (List.mem_of_getElem? hr)).mono (by decide), bR.mono (by decide), (fun _ w6 H6 s6 f6 => ⟨sz (by simp), fun t7 ht7 => ?_⟩), fun z => absurd z Rne⟩
     have z7 := Same.upd (o := .tup [.int (j : Nat), w6]) ht7
     have s57 := s5.trans (s6.trans z7)
     have s47 := tT.trans (z0.trans (s6.trans z7))
     have hd7 := s47 _ _ hd
     refine ⟨_, hd7, sz (by omega), ?_⟩
     have tu := tup_of (o := .lst (zs ++ [.ref t7])) hd7 (fun _ z => nomatch z)
     refine ⟨_, _, zs ++ [.ref t7], rfl, s57.updD hD, upd_same, ?_⟩
     rw [nz_succ_pos (by rw [ej]; exact hr0), List.map_append]
     refine Paired.snoc (Paired.mapP hZ fun _ _ f => (f.same s47).tup tu) ⟨t7, w6, rfl, tu _ _ upd_same, ?_⟩
     show FrV _ _ (rs.getD j 0 / sumQ rs)
     rw [ej]; exact (f6.same z7).tup tu
    ·have hr0 : r = 0 := by
      by_cases z : r = 0
      ·exact z
      ·rw [decide_eq_false z] at h; exact absurd rfl h
     refine ⟨_, _, zs, rfl, s5, (tT.trans z0) _ _ hd, ?_⟩
     rw [nz_succ_zero (by rw [ej]; exact hr0)]
     exact Paired.mapP hZ fun _ _ f => f.same (tT.trans z0)
   ·rintro σ' H' ⟨v0, v1, zs, rfl, s4, hd, hZ⟩
    rw [wlen] at hZ
    exact k D H' zs (Hs.free hD) (Hs.trans s4) hd hZ
noncomputable abbrev s_bring_at : Stmt := top 20
theorem sc_bring_at : FnScope ["steps", "k"] ["steps", "k"] (defScope s_bring_at) := scF
theorem ok_bring_at {ca : Ca} (D : DefAt K mg "bring_at" s_bring_at) (T : Txt K mg ca) : FnAt P w K mg base CX0 1 "bring_at" ["steps", "k"] (spBringAt K) := by
 refine D.ok sc_bring_at (fun vs H Q E h => ?_) (fun _ _ _ _ _ _ us hl => match us, hl with | [_, _], _ => rfl) (fun f cdv A outer s H vs Q E hr h => ?_)
 ·obtain ⟨as, xs, ss, kk, i, rfl, hX, hP, h64, hi, k⟩ := h; rfl
 ·obtain ⟨as, xs, ss, kk, i, rfl, hX, hP, h64, hi, k⟩ := h
  have nd := sc_bring_at.nd
  refine ⟨_, (pss_one (ps_ret (pixL (pe_comp ["at", "step"] [] [] rfl (by rfl) (pi_enum (K := K) rfl (by rfl) T.z_enumerate (pa_cons (pv 0) pa_nil)) (fun _ _ _ _ => (pg_tup' (K := K) (n := 2) (by rfl) (by rfl) (pgs_cons (pg_name (i := 0) (show List.Nodup (["at", "step"] : List Str) from by decide) rfl (Or.inl rfl) (hf := Or.inr (by rfl))) (pgs_cons (pg_name (i := 1) (show List.Nodup (["at", "step"] : List Str) from by decide) rfl (Or.inl rfl) (hf := Or.inr (by rfl))) pgs_nil)))) (fun _ _ _ _ => (pif_one (pt_cmpR op_eq (pixT (pv 1) pe_int) pe_str (nomark _)))) (fun _ _ _ _ => (pv 0))) (pv 1)))), ?_⟩
  have hlen : xs.length = ss.length := hP.length
  refine ⟨_, rfl, as, _, rfl, hX, fun D hD => ?_⟩
  refine block_enum (xs := xs) (fun j σ' H' => ∃ (v0 v1 : Option V), σ' = [v0, v1] /\ Same H H' /\ H' D = some (.lst ((brIx 0 (ss.take j)).map fun n => V.int (n : Nat)))) ⟨none, none, rfl, Same.upd hD, upd_same⟩ ?_ ?_ ?_
  ·rintro j σ' H' hj ⟨v0, v1, rfl, s1, hd⟩
   exact s1.seq hX
  ·rintro j w T σ' H' hw ⟨v0, v1, rfl, s1, hd⟩ hT
   obtain ⟨st, hst, sv⟩ := paired_get hP hw
   have hj : j < ss.length := (List.getElem?_eq_some_iff.mp hst).1
   have ed : ss.take (j + 1) = ss.take j ++ [st] := by rw [List.take_add_one, hst]; rfl
   have hb := brIx_snoc st 0 (ss.take j)
   rw [<- ed, List.length_take, Nat.min_eq_left (by omega), Nat.zero_add] at hb
   have tT := Same.upd (o := .tup [.int (j : Nat), w]) hT
   have s2 := s1.trans tT
   have hd2 := tT _ _ hd
   refine ⟨T, _, rfl, SqT.of upd_same, rfl, _, _, rfl, _, _, rfl, rfl, ?_⟩
   have bl : (brIx 0 (ss.take j)).length <= 32 := by
    have := brL_len (ss.take j)
    rw [brIx_len, ]
    rw [List.length_take] at this
    omega
   cases st with
   | br z yr x0 q0 =>
    obtain ⟨a, l, f, rfl, ha, _, _⟩ := sv
    refine ⟨_, rfl, a, _, _, _, rfl, rfl, SqT.of (s2 _ _ ha), rfl, rfl, _, rfl, ?_⟩
    refine dec_true rfl ?_
    refine ⟨_, rfl, _, hd2, sz (by rw [List.length_map]; omega), _, _, rfl, s2.updD hD, ?_⟩
    rw [upd_same, hb, List.map_append]; rfl
   | ps x0 y0 t =>
    obtain ⟨a, f, rfl, ha, _⟩ := sv
    refine ⟨_, rfl, a, _, _, _, rfl, rfl, SqT.of (s2 _ _ ha), rfl, rfl, _, rfl, ?_⟩
    refine dec_false (by decide +kernel) ?_
    refine ⟨_, _, rfl, s2, ?_⟩
    rw [hd2, hb]
    show _ = some (HO.lst ((brIx 0 (ss.take j) ++ []).map fun n => V.int (n : Nat)))
    rw [List.append_nil]
  ·rintro σ' H1 ⟨v0, v1, rfl, s1, hd⟩
   rw [hlen, List.take_length] at hd
   have hat : ((brIx 0 ss).map fun n => V.int (n : Nat))[kk]? = some (.int (i : Nat)) := by rw [List.getElem?_map, hi]; rfl
   exact ⟨_, rfl, D, _, _, _, rfl, rfl, SqL.of hd, atI_nat hat, k H1 s1⟩
noncomputable abbrev s_raise_share : Stmt := top 21
theorem sc_raise_share : FnScope ["shares", "place", "share"] ["shares", "place", "share"] (defScope s_raise_share) := scF
theorem ok_raise_share {ca : Ca} (D : DefAt K mg "raise_share" s_raise_share) (T : Txt K mg ca) (G_under : FnAt P w K mg base CX0 1 "under" ["one", "other"] (spUnder)) : FnAt P w K mg base CX0 2 "raise_share" ["shares", "place", "share"] (spRaise) := by
 refine D.ok sc_raise_share (fun vs H Q E h => ?_) (fun _ _ _ _ _ _ us hl => match us, hl with | [_, _, _], _ => rfl) (fun f cdv A outer s H vs Q E hr h => ?_)
 ·obtain ⟨a, kv, v, p, f, r, rfl, ha, row, hf, v0, bv, br, hl, k⟩ := h; rfl
 ·obtain ⟨a, kv, v, p, f, r, rfl, ha, row, hf, v0, bv, br, hl, k⟩ := h
  have nd := sc_raise_share.nd
  refine ⟨_, (pss_one (ps_if (pt_val (pfn G_under hr (pa_cons (pe_dget2 (hu_of hr) (pv 0) (pv 1) (pe_tup (pa_cons pe_int (pa_cons pe_int pa_nil))) ⟨by rfl, by rfl, by rfl, by rfl⟩) (pa_cons (pv 2) pa_nil)))) (pss_one (ps_dput (hu_of hr) (pv 0) (pv 1) (pv 2) rfl)) pss_nil)), ?_⟩
  refine ⟨_, rfl, a, rfl, .inl ⟨kv, .inl ha⟩, _, rfl, sz (by simp), fun q0 hq0 => ⟨valV kv (.inr p), DGet.k (k := .inr p) (Same.upd hq0 _ _ ha), ?_⟩⟩
  have z0 := Same.upd (o := .tup [.int 0, .int 1]) hq0
  have fg : FrV (upd H q0 (.tup [.int 0, .int 1])) ((valV kv (.inr p)).getD (.ref q0)) (v p) := by
   have := (row.same (fun v r f => f.same z0)).getD (FrV.newOf (r := 0) (p := q0) rfl rfl) p
   rw [op_get] at this; exact this
  refine ⟨_, rfl, _, _, v p, r, rfl, fg, hf.same z0, bv, br, _, rfl, ?_⟩
  have ha0 := z0 _ _ ha
  refine ite2 (fun h => ?_) (fun h => ?_)
  ·have h : v p < r := of_decide_eq_true h
   refine ⟨_, rfl, _, rfl, _, rfl, a, upd (upd H q0 (.tup [.int 0, .int 1])) a (.dK (putK kv (.inr p) f)), rfl, DPut.k (k := .inr p) ha0 (sz (by omega)), ?_⟩
   have tu := tup_of (o := .dK (putK kv (.inr p) f)) ha0 (fun _ z => nomatch z)
   refine k _ (putK kv (.inr p) f) (fun c o e n => by rw [upd_ne n]; exact z0 _ _ e) upd_same (length_putK kv (.inr p) f) ?_
   rw [<- rse_op h v0]
   exact ((row.same fun v r f => f.same z0).put (z := p) (hf.same z0)).same fun v r f => f.tup tu
  ·have h : ¬ v p < r := fun z => h (decide_eq_true z)
   refine k _ kv (fun c o e _ => z0 _ _ e) ha0 (by omega) ?_
   rw [rse_not h]; exact row.same fun v r f => f.same z0
noncomputable abbrev s_behind_step : Stmt := top 22
theorem sc_behind_step : FnScope ["shares", "step", "after", "place", "share"] ["shares", "step"] (defScope s_behind_step) := scF
theorem ok_behind_step {ca : Ca} (D : DefAt K mg "behind_step" s_behind_step) (T : Txt K mg ca) (G_raise_share : FnAt P w K mg base CX0 2 "raise_share" ["shares", "place", "share"] (spRaise)) (G_times : FnAt P w K mg base CX0 2 "times" ["one", "other"] (spTimes)) (G_minus : FnAt P w K mg base CX0 3 "minus" ["one", "other"] (spMinus)) : FnAt P w K mg base CX0 4 "behind_step" ["shares", "step"] (spBehindStep) := by
 refine D.ok sc_behind_step (fun vs H Q E h => ?_) (fun _ _ _ _ _ _ us hl => match us, hl with | [_, _], _ => rfl) (fun f cdv A outer s H vs Q E hr h => ?_)
 ·obtain ⟨a, st, s', L, kv, v, P, rfl, ha, hst, ok, row, P0, hM, hB, h8, k⟩ := h; rfl
 ·obtain ⟨a, st, s', L, kv, v, P, rfl, ha, hst, ok, row, P0, hM, hB, h8, k⟩ := h
  have nd := sc_behind_step.nd
  refine ⟨_, (pss_cons (ps_if (PW.pt (pw_or (pt_cmpR op_eq (pixT (pv 1) pe_int) pe_str (nomark _)) (pw_or1 (pt_cmp (pc_dnotin (hu_of hr) (pixT (pv 1) pe_int) (pv 0)))))) (pss_one (ps_ret (pe_callTy call_dictK (by rfl) T.z_dict bt_dict (pa_cons (pv 0) pa_nil)))) pss_nil)
   (pss_cons (ps_set (i := 2) nd rfl (Or.inl rfl) pe_dnewK)
   (pss_cons (ps_thaw (ps_for PassesOwn.never rfl (pi_items (pe_bm0' (K := K) rfl PySem.F.plainAttrs_dict PySem.F.slot_dict_items PySem.F.type_dict_items mt_items (pv 0))) (pg_tup rfl (pgs_cons (pg_name (i := 3) nd rfl (Or.inl rfl)) (pgs_cons (pg_name (i := 4) nd rfl (Or.inl rfl)) pgs_nil))) (pss_one (ps_if (pt_cmpR op_eq (pv 3) (pixT (pv 1) pe_int) (nomark _)) (pss_one (ps_expr (pfn G_raise_share hr (pa_cons (pv 2) (pa_cons (pv 3) (pa_cons (pfn G_times hr (pa_cons (pv 4) (pa_cons (pfn G_minus hr (pa_cons (pe_tup (pa_cons pe_int (pa_cons pe_int pa_nil))) (pa_cons (pixT (pv 1) pe_int) pa_nil))) pa_nil))) pa_nil)))))) (pss_one (ps_expr (pfn G_raise_share hr (pa_cons (pv 2) (pa_cons (pv 3) (pa_cons (pv 4) pa_nil))))))))))
   (pss_cons (ps_expr (pfn G_raise_share hr (pa_cons (pv 2) (pa_cons (pixT (pv 1) pe_int) (pa_cons (pfn G_times hr (pa_cons (pe_dget (hu_of hr) (pv 0) (pixT (pv 1) pe_int) (fun _ _ => rfl)) (pa_cons (pixT (pv 1) pe_int) pa_nil))) pa_nil)))))
   (pss_one (ps_ret (pv 2))))))), ?_⟩
  cases s' with
  | br z yr x q =>
   obtain ⟨b0, l0, f0, eb, hb0, _, _⟩ := hst
   have eb : st = b0 := V.ref.inj eb
   subst eb
   refine ⟨_, rfl, st, _, _, _, rfl, rfl, SqT.of hb0, rfl, rfl, _, rfl, ?_⟩
   refine dec_true rfl ?_
   refine iteT ?_
   refine ⟨_, rfl, a, kv, rfl, ha, fun pm hpm => ?_⟩
   have t2 := Same.upd (o := .dK kv) hpm
   exact k pm _ kv hpm t2 upd_same (row.same fun v r f => f.same t2)
  | ps x y t =>
   obtain ⟨hx0, hy0, hxy, t0, tle, td⟩ := id ok
   obtain ⟨b0, f0, eb, hb0, ff0⟩ := hst
   have eb : st = b0 := V.ref.inj eb
   subst eb
   have D0 : 0 < P * t.den := Nat.mul_pos P0 t.den_pos
   have hB : 16 * (P * t.den) < 2 ^ 2700 := hB
   have bs := Bd.share t0 tle td
   refine ⟨_, rfl, st, _, _, _, rfl, rfl, SqT.of hb0, rfl, rfl, _, rfl, ?_⟩
   refine dec_false (by decide +kernel) ?_
   cases q : op v x with
   | none =>
    have vx : v x = 0 := by
     unfold op at q
     split at q
     ·rename_i z; exact z
     ·cases q
    refine ⟨_, rfl, st, _, _, _, rfl, rfl, SqT.of hb0, rfl, _, rfl, a, none, rfl, ?_, _, rfl, ?_⟩
    ·have g := DGet.k (k := .inr x) ha
     rw [row.not x q] at g; exact g
    refine iteT ?_
    refine ⟨_, rfl, a, kv, rfl, ha, fun pm hpm => ?_⟩
    have t2 := Same.upd (o := .dK kv) hpm
    refine k pm _ kv hpm t2 upd_same ?_
    show RowAt _ kv (op (gm x y t v))
    rw [gm_zero vx (hM y).1]
    exact row.same fun v r f => f.same t2
   | some rx =>
    obtain ⟨wx, hwx, fwx⟩ := row.has x rx q
    have erx : rx = v x := by
     unfold op at q
     split at q
     ·cases q
     ·exact (Option.some.inj q).symm
    subst erx
    refine ⟨_, rfl, st, _, _, _, rfl, rfl, SqT.of hb0, rfl, _, rfl, a, some wx, rfl, ?_, _, rfl, ?_⟩
    ·have g := DGet.k (k := .inr x) ha
     rw [hwx] at g; exact g
    refine iteF ?_
    intro pf hpf
    have tp := Same.upd (o := .dK []) hpf
    have ha1 := tp _ _ ha
    have naf : a ≠ pf := ne_of_none ha hpf
    refine ⟨a, _, ha1, rfl, ?_⟩
    refine ⟨_, rfl, .inr (.inr (.inl ⟨rfl, .inl ⟨_, ha1⟩⟩)), a, _, rfl, rfl, ha1, rfl, fun pv hpv => ?_⟩
    have t7 := tp.trans (Same.upd (o := viewO pv a) hpv)
    refine ⟨pv, a, _, rfl, upd_same, t7 _ _ ha, rfl, fun o ps hps => ?_⟩
    have hps : ps = kv.map fun kv => (kV kv.1, kv.2) := hps
    subst hps
    refine for_items (fun i σ H2 => ∃ (v3 v4 : Option V) (kv' : List (Key × V)), σ = [some (.ref a), some (.ref st), some (.ref pf), v3, v4] /\ H2 a = some (.frz o (.dK kv)) /\ (∀ c ob, H c = some ob -> c ≠ a -> H2 c = some ob) /\ H2 pf = some (.dK kv') /\ kv'.length <= i /\ RowAt H2 kv' (op (part x t v (nms (kv.take i))))) ?_ ?_ ?_ ?_
    ·refine ⟨none, none, [], rfl, upd_same, fun c ob e n => by rw [upd_ne n]; exact t7 _ _ e, by rw [upd_ne naf.symm]; exact (Same.upd (o := viewO pv a) hpv) _ _ upd_same, Nat.le_refl _, ?_⟩
     have ef : op (part x t v (nms (kv.take 0))) = fun _ => none := by funext z; simp [part, nms, op]
     rw [ef]; exact RowAt.nil _
    ·rintro i σ H2 ⟨_, _, _, _, h, _⟩
     exact h
    ·rintro i k' w' T σ H2 hk ⟨v3, v4, kv', rfl, hfa, keep, hpf2, hl, row2⟩ hT
     obtain ⟨kvi, hki, ek⟩ : ∃ kvi, kv[i]? = some kvi /\ (kV kvi.1, kvi.2) = (k', w') := by
      rw [List.getElem?_map] at hk
      cases q : kv[i]? with
      | none => rw [q] at hk; cases hk
      | some kvi => rw [q] at hk; exact ⟨kvi, rfl, Option.some.inj hk⟩
     have hi : i < kv.length := (List.getElem?_eq_some_iff.mp hki).1
     obtain ⟨p, r0, hz, hgp, fr0, hpn, en⟩ := row.at hki
     obtain ⟨rfl, rfl⟩ := Prod.mk.inj ek
     obtain ⟨k0, w0⟩ := kvi
     have hz : k0 = .inr p := hz
     subst hz
     have er : r0 = v p := by
      unfold op at hgp
      split at hgp
      ·cases hgp
      ·exact (Option.some.inj hgp).symm
     rw [er] at fr0
     have t3 := Same.upd (o := .tup [kV (.inr p), w0]) hT
     have keepT : ∀ c m, H c = some (.tup m) -> upd H2 T (.tup [kV (.inr p), w0]) c = some (.tup m) := fun c m e => t3 _ _ (keep _ _ e (ne_of e ha (by intro z; cases z)))
     have hb3 := keepT _ _ hb0
     have fr3 := fr0.tup keepT
     have row3 := row2.same fun v r f => f.same t3
     have hpf3 := t3 _ _ hpf2
     have hfa3 := t3 _ _ hfa
     have kp3 : ∀ c ob, H c = some ob -> c ≠ a -> upd H2 T (.tup [kV (.inr p), w0]) c = some ob := fun c ob e n => t3 _ _ (keep c ob e n)
     refine ⟨T, _, rfl, SqT.of upd_same, rfl, _, _, rfl, _, _, rfl, rfl, ?_⟩
     generalize upd H2 T (.tup [kV (.inr p), w0]) = H3 at *
     have ep0 : part x t v (nms (kv.take i)) p = 0 := by unfold part; rw [if_neg hpn]
     have z0 : Bd 8000 (part x t v (nms (kv.take i)) p) := by rw [ep0]; exact ⟨by decide, by decide⟩
     have n0 : 0 <= part x t v (nms (kv.take i)) p := by rw [ep0]; exact Rat.le_refl
     have b1 : Bd 2700 (v p) := ((hM p).up t.den).bd D0 (by decide) (by omega)
     have fin : ∀ (H4 : Hp), Same H3 H4 -> ∀ (H' : Hp) (kv'' : List (Key × V)), (∀ c o, H4 c = some o -> c ≠ pf -> H' c = some o) -> H' pf = some (.dK kv'') -> kv''.length <= kv'.length + 1 -> RowAt H' kv'' (op (rse (part x t v (nms (kv.take i))) p (if p = x then v x * (1 - t) else v p))) -> H' a = some (.frz o (.dK kv)) /\ (∀ c ob, H c = some ob -> c ≠ a -> H' c = some ob) /\ H' pf = some (.dK kv'') /\ kv''.length <= i + 1 /\ RowAt H' kv'' (op (part x t v (nms (kv.take (i + 1))))) := by
      intro H4 s4 H' kv'' kp h1 h2 h3
      refine ⟨kp _ _ (s4 _ _ hfa3) naf, fun c ob e n => kp _ _ (s4 _ _ (kp3 c ob e n)) (ne_of_none e hpf), h1, by omega, ?_⟩
      have nn : 0 <= (if p = x then v x * (1 - t) else v p) := by
       split
       ·exact Rat.mul_nonneg (hM x).1 (sub_nonneg tle)
       ·exact (hM p).1
      rw [en, <- part_snoc hpn nn]; exact h3
     refine ⟨.str p, rfl, _, rfl, st, _, _, _, rfl, rfl, SqT.of hb3, rfl, rfl, _, rfl, ?_⟩
     by_cases e : p = x
     ·refine dec_true (by rw [e]) ?_
      refine ⟨_, rfl, .str p, rfl, _, rfl, sz (by simp), fun q1 hq1 => ?_⟩
      have t4 := Same.upd (o := .tup [.int 1, .int 1]) hq1
      refine ⟨_, rfl, st, _, _, _, rfl, rfl, SqT.of (t4 _ _ hb3), rfl, ?_⟩
      refine ⟨_, _, 1, t, rfl, FrV.newOf rfl rfl, (ff0.tup keepT).same t4, ⟨by decide, by decide⟩, bs.1.mono (by decide), fun v5 H5 s5 f5 => ?_⟩
      have u5 := t4.trans s5
      refine spTimes.of (E := E0) rfl (fr3.same u5) f5 (b1.mono (by decide)) (bs.2.mono (by decide)) fun v6 H6 s6 f6 => ?_
      have u6 := u5.trans s6
      have b6 : Bd 2700 (v p * (1 - t)) := ((hM p).mulR t0 tle).bd D0 (by decide) (by omega)
      refine ⟨pf, kv', part x t v (nms (kv.take i)), p, v6, v p * (1 - t), rfl, u6 _ _ hpf3, row3.same (fun v r f => f.same u6), f6, n0, z0, b6.mono (by decide), by omega, fun H' kv'' kp h1 h2 h3 => ?_⟩
      refine ⟨_, _, kv'', rfl, fin H6 u6 H' kv'' kp h1 h2 ?_⟩
      have e' : v x * (1 - t) = v p * (1 - t) := by rw [e]
      rw [if_pos e, e']; exact h3
     ·refine dec_false (fun z => e (V.str.inj z)) ?_
      refine ⟨_, rfl, .str p, rfl, _, rfl, ?_⟩
      refine ⟨pf, kv', part x t v (nms (kv.take i)), p, w0, v p, rfl, hpf3, row3, fr3, n0, z0, b1.mono (by decide), by omega, fun H' kv'' kp h1 h2 h3 => ?_⟩
      refine ⟨_, _, kv'', rfl, fin H3 (Same.refl _) H' kv'' kp h1 h2 ?_⟩
      rw [if_neg e]; exact h3
    ·rintro σ H2 ⟨v3, v4, kv', rfl, hfa, keep, hpf2, hl, row2⟩
     rw [List.length_map] at hl
     rw [List.length_map, List.take_length] at row2
     have kp2 : Same H (upd H2 a (.dK kv)) := fun c ob e => by
      by_cases z : c = a
      ·subst z; rw [upd_same]; rw [ha] at e; exact e
      ·rw [upd_ne z]; exact keep c ob e z
     have tu := tup_of (o := .dK kv) hfa (fun _ z => nomatch z)
     refine ⟨o, _, hfa, ?_⟩
     have hpf3 : upd H2 a (.dK kv) pf = some (.dK kv') := by rw [upd_ne naf.symm]; exact hpf2
     have row3 := row2.same (H' := upd H2 a (.dK kv)) fun v r f => f.tup tu
     generalize upd H2 a (.dK kv) = H3 at *
     have hb3 := kp2 _ _ hb0
     have bx : Bd 2700 (v x) := ((hM x).up t.den).bd D0 (by decide) (by omega)
     have bxt : Bd 2700 (v x * t) := ((hM x).mulL t0 tle).bd D0 (by decide) (by omega)
     have iff : ∀ z, z ∈ nms kv ↔ v z ≠ 0 := fun z => (row.iff z).trans op_some
     have py : part x t v (nms kv) y = 0 \/ part x t v (nms kv) y = v y := by
      unfold part
      by_cases e : y ∈ nms kv
      ·rw [if_pos e, if_neg fun e => hxy e.symm]; exact .inr rfl
      ·rw [if_neg e]; exact .inl rfl
     have pM : IsM (P * t.den) 1 (part x t v (nms kv) y) := by
      rcases py with e | e
      ·rw [e]; exact IsM.zero _ _
      ·rw [e]; exact (hM y).up t.den
     refine ⟨_, rfl, _, rfl, st, _, _, _, rfl, rfl, SqT.of hb3, rfl, _, rfl, _, rfl, st, _, _, _, rfl, rfl, SqT.of hb3, rfl, a, wx, rfl, ?_, ?_⟩
     ·have g := DGet.k (k := .inr x) (kp2 _ _ ha)
      rw [hwx] at g; exact g
     refine ⟨_, rfl, st, _, _, _, rfl, rfl, SqT.of hb3, rfl, ?_⟩
     refine spTimes.of (E := E0) rfl (fwx.same kp2) (ff0.same kp2) (bx.mono (by decide)) (bs.1.mono (by decide)) fun v6 H6 s6 f6 => ?_
     refine ⟨pf, kv', part x t v (nms kv), y, v6, v x * t, rfl, s6 _ _ hpf3, row3.same (fun v r f => f.same s6), f6, pM.1, (pM.bd D0 (by decide) (show 1 * (P * t.den) < 2 ^ 2700 by omega)).mono (by decide), bxt.mono (by decide), by omega, fun H' kv'' kp h1 h2 h3 => ?_⟩
     have hxk : x ∈ nms kv := nms_mem hwx
     rw [part_all hxy hxk fun z n => (iff z).mpr n] at h3
     refine ⟨_, rfl, k pf H' kv'' hpf (fun c ob e => ?_) h1 h3⟩
     exact kp _ _ (s6 _ _ (kp2 _ _ e)) (ne_of_none e hpf)
noncomputable abbrev s_greatest_shares : Stmt := top 23
theorem sc_greatest_shares : FnScope ["steps", "k", "at", "shares", "step"] ["steps", "k"] (defScope s_greatest_shares) := scF
theorem ok_greatest_shares {ca : Ca} (D : DefAt K mg "greatest_shares" s_greatest_shares) (T : Txt K mg ca) (G_bring_at : FnAt P w K mg base CX0 1 "bring_at" ["steps", "k"] (spBringAt K)) (G_behind_step : FnAt P w K mg base CX0 4 "behind_step" ["shares", "step"] (spBehindStep)) : FnAt P w K mg base CX0 5 "greatest_shares" ["steps", "k"] (spGreatest K) := by
 refine D.ok sc_greatest_shares (fun vs H Q E h => ?_) (fun _ _ _ _ _ _ us hl => match us, hl with | [_, _], _ => rfl) (fun f cdv A outer s H vs Q E hr h => ?_)
 ·obtain ⟨as, L, xs, ss, kk, i, z, yr, x, q, rfl, h8, hX, hP, hO, h64, hi, hsi, k⟩ := h; rfl
 ·obtain ⟨as, L, xs, ss, kk, i, z, yr, x, q, rfl, h8, hX, hP, hO, h64, hi, hsi, k⟩ := h
  have nd := sc_greatest_shares.nd
  refine ⟨_, (pss_cons (ps_set (i := 2) nd rfl (Or.inl rfl) (pfn G_bring_at hr (pa_cons (pv 0) (pa_cons (pv 1) pa_nil))))
   (pss_cons (ps_set (i := 3) nd rfl (Or.inl rfl) (pe_lst (pa_cons (pe_disp (pps_cons (pixT (pixL (pv 0) (pv 2)) pe_int) (pe_tup (pa_cons pe_int (pa_cons pe_int pa_nil))) pps_nil) rfl rfl (List.cons_ne_nil _ _) (Nat.le_of_ble_eq_true rfl)) pa_nil)))
   (pss_cons (ps_for PassesOwn.never rfl (pi_list' (K := K) rfl (pe_slice (sl_list' (K := K) rfl) (pv 0) (po_some (pe_op op_add (pv 2) pe_int)) po_none)) (pg_name (i := 4) nd rfl (Or.inl rfl)) (pss_one (ps_expr (pe_bm PySem.F.plainAttrs_list PySem.F.slot_list_append PySem.F.type_list_append mt_append (pv 3) (pa_cons (pfn G_behind_step hr (pa_cons (pixL (pv 3) (pe_op op_sub (pe_callB (call_len' (K := K) rfl) (by rfl) T.z_len PySem.boot_len (pa_cons (pv 3) pa_nil)) pe_int)) (pa_cons (pv 4) pa_nil))) pa_nil)))))
   (pss_one (ps_ret (pv 3)))))), ?_⟩
  have hlen : xs.length = ss.length := hP.length
  have his : i < ss.length := (List.getElem?_eq_some_iff.mp hsi).1
  refine ⟨_, rfl, _, rfl, as, xs, ss, kk, i, rfl, hX, hP, h64, hi, fun H1 s1 => ?_⟩
  obtain ⟨y, hy⟩ : ∃ y, xs[i]? = some y := ⟨_, List.getElem?_eq_getElem (by omega)⟩
  obtain ⟨st, hst, sv⟩ := paired_get hP hy
  rw [hsi] at hst
  cases hst
  obtain ⟨a, l, f, rfl, hA, hl, hf⟩ := sv
  have ok := hO _ (List.mem_of_getElem? hsi)
  intro d hd
  have ud := Same.upd (o := .dK []) hd
  have s2 := s1.trans ud
  refine ⟨_, rfl, _, rfl, as, _, _, _, rfl, rfl, s2.seq hX, atI_nat hy, a, _, _, _, rfl, rfl, SqT.of (s2 _ _ hA), rfl, sz (by simp), fun f1 hf1 => ?_⟩
  have nqf : d ≠ f1 := fun e => by rw [<- e, upd_same] at hf1; cases hf1
  refine ⟨by rw [upd_ne nqf, upd_same], [(.inr x, .ref f1)], rfl, by simp, sz (by simp), fun p hp => ?_⟩
  have t3 := (ud.trans (Same.upd (o := .tup [.int 1, .int 1]) hf1)).updD (o := .dK (mergeK [] [(.inr x, .ref f1)])) hd
  have ff : FrV (upd (upd (upd H1 d (.dK [])) f1 (.tup [.int 1, .int 1])) d (.dK (mergeK [] [(.inr x, .ref f1)]))) (.ref f1) 1 := ⟨f1, rfl, by rw [upd_ne nqf.symm, upd_same]; rfl⟩
  have row0 := RowAt.unit x ff
  have hd3 : upd (upd (upd H1 d (.dK [])) f1 (.tup [.int 1, .int 1])) d (.dK (mergeK [] [(.inr x, .ref f1)])) d = some (.dK (mergeK [] [(.inr x, .ref f1)])) := upd_same
  generalize upd (upd (upd H1 d (.dK [])) f1 (.tup [.int 1, .int 1])) d (.dK (mergeK [] [(.inr x, .ref f1)])) = H3 at *
  have s3 := s1.trans t3
  have t4 := Same.upd (o := .lst [.ref d]) hp
  have s4 := s3.trans t4
  have hp0 : H p = none := s3.free hp
  refine ⟨_, rfl, _, rfl, _, _, rfl, rfl, _, rfl, as, _, rfl, s4.seq hX, fun l6 hl6 => ?_⟩
  have ecut : cutV xs (some (((i : Nat) : Int) + 1)) none = xs.drop (i + 1) := by
   have e : (((i : Nat) : Int) + 1) = ((i + 1 : Nat) : Int) := by omega
   rw [e]; exact cutd_from xs (by omega)
  rw [ecut]
  have t6 := Same.upd (o := .lst (xs.drop (i + 1))) hl6
  have s6 := s4.trans t6
  refine ⟨l6, rfl, ⟨_, SqL.of upd_same⟩, ?_⟩
  have hPd := Paired.drop hP (i + 1)
  let sr := ss.drop (i + 1)
  have hOr : ∀ s ∈ sr, OkS L s := fun s hs => hO s (List.mem_of_mem_drop hs)
  have hrl : sr.length = ss.length - (i + 1) := List.length_drop
  have e6 := upd_same (H := upd H3 p (.lst [.ref d])) (a := l6) (o := .lst (xs.drop (i + 1)))
  have n6 : l6 ≠ p := fun e => by rw [e, upd_same] at hl6; cases hl6
  refine for_list (xs := xs.drop (i + 1)) (fun j σ H4 => ∃ (v4 : Option V) (ys : List V) (tds : List ((Str -> Rat) × Addr)), σ = [some (.ref as), some (.int (kk : Nat)), some (.int (i : Nat)), some (.ref p), v4] /\ Same H H4 /\ H4 l6 = some (.lst (xs.drop (i + 1))) /\ H4 p = some (.lst ys) /\ Paired (GrV H4) ys tds /\ tds.map (·.1) = gmL sr x (j + 1) /\ (tds.map (·.2)).Nodup /\ ∀ c ∈ tds.map (·.2), H c = none) ⟨none, [.ref d], [(dlt x, d)], rfl, s6, e6, t6 _ _ upd_same, .cons ⟨rfl, _, t6 _ _ (t4 _ _ hd3), row0.same fun _ _ g => g.same (t4.trans t6)⟩ .nil, rfl, by simp, fun c hc => by rw [List.mem_singleton.mp hc]; exact s1.free hd⟩ ?_ ?_ ?_
  ·rintro j σ H4 hj ⟨v4, ys, tds, rfl, s4, h6, hp4, hB, hm, hnd, hfr⟩
   exact SqL.of h6
  ·rintro j w σ H4 hxj ⟨v4, ys, tds, rfl, s4, h6, hp4, hB, hm, hnd, hfr⟩
   obtain ⟨st, hstj, sv⟩ := paired_get hPd hxj
   have hstj : sr[j]? = some st := hstj
   have hj : j < sr.length := (List.getElem?_eq_some_iff.mp hstj).1
   have okst := hOr st (List.mem_of_getElem? hstj)
   have tl : tds.length = j + 1 := by
    have := congrArg List.length hm
    unfold gmL at this
    rwa [List.length_map, List.length_map, List.length_range] at this
   have yl : ys.length = j + 1 := hB.length.trans tl
   obtain ⟨yv, hyv⟩ : ∃ yv, ys[j]? = some yv := ⟨_, List.getElem?_eq_getElem (by omega)⟩
   obtain ⟨td, htd, ⟨rfl, kvs, hk1, hk2⟩⟩ := paired_get hB hyv
   have etd : td.1 = gmN sr (dlt x) j := by
    have h1 : (tds.map (·.1))[j]? = some td.1 := by rw [List.getElem?_map, htd]; rfl
    rw [hm] at h1
    unfold gmL at h1
    rw [List.getElem?_map, List.getElem?_range (by omega)] at h1
    exact (Option.some.inj h1).symm
   rw [etd] at hk2
   obtain ⟨gM, gS⟩ := gmN_ok hOr ok.1 j (by omega)
   have P0 := prodD_pos (sr.take j)
   have hOj : ∀ s ∈ sr.take j, OkS L s := fun s hs => hOr s (List.mem_of_mem_take hs)
   have B16 := prod_bd hOj (by rw [List.length_take]; omega) (k := 16) (by decide)
   have hB' : 16 * (prodD (sr.take j) * dnS st) < 2 ^ 2700 := by
    have h3 : 16 * prodD (sr.take j) * dnS st < 2 ^ 2600 * 2 ^ 76 := Nat.mul_lt_mul_of_lt_of_le B16 (dnS_le okst) (Nat.two_pow_pos _)
    rw [<- Nat.pow_add, Nat.mul_assoc] at h3
    exact Nat.lt_of_lt_of_le h3 (pow_le (by decide))
   have lk : kvs.length <= 8 := Nat.le_trans (hk2.len gS) h8
   have ar : ∃ b, w = .ref b := by
    cases st with
    | br _ _ _ _ => obtain ⟨b, _, _, e, _⟩ := sv; exact ⟨b, e⟩
    | ps _ _ _ => obtain ⟨b, _, e, _⟩ := sv; exact ⟨b, e⟩
   obtain ⟨b, rfl⟩ := ar
   have hat : atI ys (((ys.length : Nat) : Int) - 1) = some (.ref td.2) := by
    have e : (((ys.length : Nat) : Int) - 1) = ((j : Nat) : Int) := by omega
    rw [e]; exact atI_nat hyv
   refine ⟨_, rfl, .inl ⟨rfl, _, SqL.of hp4⟩, _, rfl, _, rfl, _, _, rfl, .inl ⟨_, SqL.of hp4, rfl⟩, _, _, rfl, rfl, p, _, _, _, rfl, rfl, SqL.of hp4, hat, _, rfl, td.2, b, st, L, kvs, gmN sr (dlt x) j, prodD (sr.take j), rfl, hk1, sv.same s4, okst, hk2, P0, gM, hB', lk, fun d' H5 kv5 hd' s5 h5 r5 => ?_⟩
   have hp5 := s5 _ _ hp4
   refine ⟨p, _, _, rfl, rfl, hp5, sz (by omega), ?_⟩
   have tu := tup_of (o := .lst (ys ++ [.ref d'])) hp5 (fun _ z => nomatch z)
   have dk : ∀ c kvs, H5 c = some (.dK kvs) -> upd H5 p (.lst (ys ++ [.ref d'])) c = some (.dK kvs) := fun c kvs e => by
    rw [upd_ne (ne_of e hp5 (by intro z; cases z))]; exact e
   refine ⟨_, ys ++ [.ref d'], tds ++ [(gmN sr (dlt x) (j + 1), d')], rfl, (s4.trans s5).updD hp0, ?_, upd_same, ?_, ?_, ?_, ?_⟩
   ·have n6' : l6 ≠ p := n6
    rw [upd_ne n6']; exact s5 _ _ h6
   ·refine Paired.snoc (Paired.mapP hB fun _ bd b => (b.same s5).keep tu (dk bd.2)) ⟨rfl, kv5, dk _ _ h5, ?_⟩
    show RowAt _ kv5 (op (gmN sr (dlt x) (j + 1)))
    rw [gmN_succ hstj]; exact r5.same fun v r g => g.tup tu
   ·rw [List.map_append, hm]
    unfold gmL
    rw [List.range_succ (n := j + 1), List.map_append]; rfl
   ·rw [List.map_append]
    refine List.nodup_append.mpr ⟨hnd, by simp, fun d1 h1 d2 h2' e => ?_⟩
    have h2' : d2 = d' := List.mem_singleton.mp h2'
    obtain ⟨bd, hbd, e1⟩ := List.mem_map.mp h1
    obtain ⟨x', _, ⟨_, kvs', e4, _⟩⟩ := paired_mem' hB hbd
    rw [e1, e, h2', hd'] at e4; cases e4
   ·intro c hc
    rw [List.map_append] at hc
    rcases List.mem_append.mp hc with e | e
    ·exact hfr c e
    ·have e : c = d' := List.mem_singleton.mp e
     rw [e]; exact s4.free hd'
  ·rintro σ H4 ⟨v4, ys, tds, rfl, s4, h6, hp4, hB, hm, hnd, hfr⟩
   have el : (xs.drop (i + 1)).length + 1 = ss.length - i := by rw [List.length_drop]; omega
   rw [el] at hm
   exact ⟨_, rfl, k p H4 ys tds hp0 s4 hp4 hB hm hnd hfr⟩
noncomputable abbrev s_place_ahead : Stmt := top 24
theorem sc_place_ahead : FnScope ["step", "before", "place", "share"] ["step", "before", "place", "share"] (defScope s_place_ahead) := scF
theorem ok_place_ahead {ca : Ca} (D : DefAt K mg "place_ahead" s_place_ahead) (T : Txt K mg ca) (G_times : FnAt P w K mg base CX0 2 "times" ["one", "other"] (spTimes)) : FnAt P w K mg base CX0 3 "place_ahead" ["step", "before", "place", "share"] (spAhead) := by
 refine D.ok sc_place_ahead (fun vs H Q E h => ?_) (fun _ _ _ _ _ _ us hl => match us, hl with | [_, _, _, _], _ => rfl) (fun f cdv A outer s H vs Q E hr h => ?_)
 ·obtain ⟨st, d, s', L, kv, g, b, f, c, rfl, hst, ok, hd, row, hf, bg, k⟩ := h; rfl
 ·obtain ⟨st, d, s', L, kv, g, b, f, c, rfl, hst, ok, hd, row, hf, bg, k⟩ := h
  have nd := sc_place_ahead.nd
  refine ⟨_, (pss_cons (ps_if (PW.pt (pw_and (pt_cmpR op_eq (pixT (pv 0) pe_int) pe_str (nomark _)) (pw_and (pt_cmpR op_eq (pixT (pv 0) pe_int) (pv 2) (nomark _)) (pw_and1 (pt_cmp (pc_din (hu_of hr) (pixT (pv 0) pe_int) (pv 1))))))) (pss_one (ps_if (pt_cmpR (op_eqD' (K := K) rfl hr) (pfn G_times hr (pa_cons (pe_dget (hu_of hr) (pv 1) (pixT (pv 0) pe_int) (fun _ _ => rfl)) (pa_cons (pixT (pv 0) pe_int) pa_nil))) (pv 3) (nomark _)) (pss_one (ps_ret (pixT (pv 0) pe_int))) pss_nil)) pss_nil)
   (pss_one (ps_ret (pv 2)))), ?_⟩
  cases s' with
  | br z yr x q =>
   obtain ⟨b0, l0, f0, eb, hb0, _, _⟩ := hst
   have eb : st = b0 := V.ref.inj eb
   subst eb
   refine ⟨_, rfl, st, _, _, _, rfl, rfl, SqT.of hb0, rfl, rfl, _, rfl, ?_⟩
   refine dec_false (by decide +kernel) ?_
   refine iteF ?_
   exact ⟨_, rfl, k H (Same.refl _)⟩
  | ps x y t =>
   obtain ⟨hx0, hy0, hxy, t0, tle, td⟩ := id ok
   have bs := Bd.share t0 tle td
   obtain ⟨b0, f0, eb, hb0, ff0⟩ := hst
   have eb : st = b0 := V.ref.inj eb
   subst eb
   have k : ∀ H', Same H H' -> Q (.str (if y = b /\ g x ≠ 0 /\ g x * t = c then x else b)) H' := k
   refine ⟨_, rfl, st, _, _, _, rfl, rfl, SqT.of hb0, rfl, rfl, _, rfl, ?_⟩
   refine dec_true rfl ?_
   refine ⟨_, rfl, st, _, _, _, rfl, rfl, SqT.of hb0, rfl, _, rfl, rfl, _, rfl, ?_⟩
   by_cases c1 : y = b
   case neg =>
    refine dec_false (fun e => c1 (V.str.inj e)) ?_
    refine iteF ?_
    rw [if_neg (fun z => c1 z.1)] at k
    exact ⟨_, rfl, k H (Same.refl _)⟩
   case pos =>
    refine dec_true (by rw [c1]) ?_
    cases q : op g x with
    | none =>
     have vx : g x = 0 := by
      unfold op at q
      split at q
      ·rename_i z; exact z
      ·cases q
     refine ⟨_, rfl, st, _, _, _, rfl, rfl, SqT.of hb0, rfl, _, rfl, d, none, rfl, ?_, _, rfl, ?_⟩
     ·have gg := DGet.k (k := .inr x) hd
      rw [row.not x q] at gg; exact gg
     refine iteF ?_
     rw [if_neg (fun z => z.2.1 vx)] at k
     exact ⟨_, rfl, k H (Same.refl _)⟩
    | some rx =>
     obtain ⟨wx, hwx, fwx⟩ := row.has x rx q
     have erx : rx = g x /\ g x ≠ 0 := by
      unfold op at q
      split at q
      ·cases q
      ·rename_i z; exact ⟨(Option.some.inj q).symm, z⟩
     obtain ⟨erx, gx⟩ := erx
     subst erx
     have dg : DGet H d (.str x) (some wx) := by
      have gg := DGet.k (k := .inr x) hd
      rw [hwx] at gg; exact gg
     refine ⟨_, rfl, st, _, _, _, rfl, rfl, SqT.of hb0, rfl, _, rfl, d, some wx, rfl, dg, _, rfl, ?_⟩
     refine iteT ?_
     refine ⟨_, rfl, _, rfl, st, _, _, _, rfl, rfl, SqT.of hb0, rfl, d, wx, rfl, dg, _, rfl, st, _, _, _, rfl, rfl, SqT.of hb0, rfl, ?_⟩
     refine spTimes.of (E := E0) rfl fwx ff0 ((bg x).mono (by decide)) (bs.1.mono (by decide)) fun v6 H6 s6 f6 => ?_
     refine ⟨_, rfl, _, _, f6.rep, (hf.same s6).rep, pq_depth _ _, _, rfl, ?_⟩
     rw [eqv_pq, fq_dec]
     refine ite2 (fun h => ?_) (fun h => ?_)
     ·have h : g x * t = c := of_decide_eq_true h
      rw [if_pos ⟨c1, gx, h⟩] at k
      exact ⟨_, rfl, st, _, _, _, rfl, rfl, SqT.of (s6 _ _ hb0), rfl, k H6 s6⟩
     ·have h : ¬ g x * t = c := fun z => h (decide_eq_true z)
      rw [if_neg (fun z => h z.2.2)] at k
      exact ⟨_, rfl, k H6 s6⟩
noncomputable abbrev s_greatest_way : Stmt := top 25
theorem sc_greatest_way : FnScope ["steps", "k", "place", "shares", "last", "at", "way", "number", "here"] ["steps", "k", "place"] (defScope s_greatest_way) := scF
theorem ok_greatest_way {ca : Ca} (D : DefAt K mg "greatest_way" s_greatest_way) (T : Txt K mg ca) (G_greatest_shares : FnAt P w K mg base CX0 5 "greatest_shares" ["steps", "k"] (spGreatest K)) (G_bring_at : FnAt P w K mg base CX0 1 "bring_at" ["steps", "k"] (spBringAt K)) (G_place_ahead : FnAt P w K mg base CX0 3 "place_ahead" ["step", "before", "place", "share"] (spAhead)) : FnAt P w K mg base CX0 6 "greatest_way" ["steps", "k", "place"] (spGWay K) := by
 refine D.ok sc_greatest_way (fun vs H Q E h => ?_) (fun _ _ _ _ _ _ us hl => match us, hl with | [_, _, _], _ => rfl) (fun f cdv A outer s H vs Q E hr h => ?_)
 ·obtain ⟨as, L, xs, ss, kk, i, x, pl, rfl, hG, hi, kn, ks⟩ := h; rfl
 ·obtain ⟨as, L, xs, ss, kk, i, x, pl, rfl, hG, hi, kn, ks⟩ := h
  have nd := sc_greatest_way.nd
  refine ⟨_, (pss_cons (ps_set (i := 3) nd rfl (Or.inl rfl) (pfn G_greatest_shares hr (pa_cons (pv 0) (pa_cons (pv 1) pa_nil))))
   (pss_cons (ps_set (i := 4) nd rfl (Or.inl rfl) (pe_op op_sub (pe_callB (call_len' (K := K) rfl) (by rfl) T.z_len PySem.boot_len (pa_cons (pv 3) pa_nil)) pe_int))
   (pss_cons (ps_if (pt_cmp (pc_dnotin (hu_of hr) (pv 2) (pixL (pv 3) (pv 4)))) (pss_one (ps_ret pe_non)) pss_nil)
   (pss_cons (ps_set (i := 5) nd rfl (Or.inl rfl) (pfn G_bring_at hr (pa_cons (pv 0) (pa_cons (pv 1) pa_nil))))
   (pss_cons (ps_set (i := 6) nd rfl (Or.inl rfl) (pe_lst (pa_cons (pv 2) pa_nil)))
   (pss_cons (ps_for PassesOwn.never rfl (pi_rangeD (by rfl) T.z_range (pa_cons (pv 4) (pa_cons pe_int (pa_cons (pe_un un_neg pe_int) pa_nil)))) (pg_name (i := 7) nd rfl (Or.inl rfl)) (pss_cons (ps_set (i := 8) nd rfl (Or.inl rfl) (pixL (pv 6) (pe_op op_sub (pe_callB (call_len' (K := K) rfl) (by rfl) T.z_len PySem.boot_len (pa_cons (pv 6) pa_nil)) pe_int)))
   (pss_one (ps_expr (pe_bm PySem.F.plainAttrs_list PySem.F.slot_list_append PySem.F.type_list_append mt_append (pv 6) (pa_cons (pfn G_place_ahead hr (pa_cons (pixL (pv 0) (pe_op op_add (pv 5) (pv 7))) (pa_cons (pixL (pv 3) (pe_op op_sub (pv 7) pe_int)) (pa_cons (pv 8) (pa_cons (pe_dget (hu_of hr) (pixL (pv 3) (pv 7)) (pv 8) (fun _ _ => rfl)) pa_nil))))) pa_nil))))))
   (pss_cons (ps_expr (pe_bm0' (K := K) rfl PySem.F.plainAttrs_list PySem.F.slot_list_reverse PySem.F.type_list_reverse mt_reverse (pv 6)))
   (pss_one (ps_ret (pe_tup (pa_cons (pv 6) (pa_cons (pe_dget (hu_of hr) (pixL (pv 3) (pv 4)) (pv 2) (fun _ _ => rfl)) pa_nil)))))))))))), ?_⟩
  obtain ⟨h8, hX, hP, hO, h64, z, yr, q, hsi⟩ := hG
  have hlen : xs.length = ss.length := hP.length
  have his : i < ss.length := (List.getElem?_eq_some_iff.mp hsi).1
  refine ⟨_, rfl, _, rfl, as, L, xs, ss, kk, i, z, yr, x, q, rfl, h8, hX, hP, hO, h64, hi, hsi, fun p H1 ys tds hp s1 h1 hB hm hnd hfr => ?_⟩
  let sr := ss.drop (i + 1)
  have hrl : sr.length = ss.length - (i + 1) := List.length_drop
  have hOr : ∀ s ∈ sr, OkS L s := fun s hs => hO s (List.mem_of_mem_drop hs)
  have ok := hO _ (List.mem_of_getElem? hsi)
  have tl : tds.length = sr.length + 1 := by
   have := congrArg List.length hm
   unfold gmL at this
   rw [List.length_map, List.length_map, List.length_range] at this
   omega
  have yl : ys.length = sr.length + 1 := hB.length.trans tl
  have row : ∀ j, j <= sr.length -> ∃ d kvs, ys[j]? = some (.ref d) /\ H1 d = some (.dK kvs) /\ RowAt H1 kvs (op (gmN sr (dlt x) j)) := fun j hj => by
   obtain ⟨yv, hyv⟩ : ∃ yv, ys[j]? = some yv := ⟨_, List.getElem?_eq_getElem (by omega)⟩
   obtain ⟨td, htd, ⟨e, kvs, hk1, hk2⟩⟩ := paired_get hB hyv
   have etd : td.1 = gmN sr (dlt x) j := by
    have h1 : (tds.map (·.1))[j]? = some td.1 := by rw [List.getElem?_map, htd]; rfl
    rw [hm] at h1
    unfold gmL at h1
    rw [List.getElem?_map, List.getElem?_range (by omega)] at h1
    exact (Option.some.inj h1).symm
   rw [etd] at hk2
   exact ⟨td.2, kvs, by rw [hyv, e], hk1, hk2⟩
  have bdg : ∀ j, j <= sr.length -> ∀ z, Bd 2700 (gmN sr (dlt x) j z) := fun j hj z => by
   have hOj : ∀ s ∈ sr.take j, OkS L s := fun s hs => hOr s (List.mem_of_mem_take hs)
   have B := prod_bd hOj (by rw [List.length_take]; omega) (k := 1) (by decide)
   exact (((gmN_ok hOr ok.1 j hj).1 z).bd (prodD_pos _) (by decide) B).mono (by decide)
  refine ⟨_, rfl, _, _, rfl, .inl ⟨_, SqL.of h1, rfl⟩, _, _, rfl, rfl, ?_⟩
  have elast : (((ys.length : Nat) : Int) - 1) = ((sr.length : Nat) : Int) := by omega
  obtain ⟨dn, kvn, hyn, hdn, rown⟩ := row sr.length (Nat.le_refl _)
  have hatn : atI ys (((ys.length : Nat) : Int) - 1) = some (.ref dn) := by rw [elast]; exact atI_nat hyn
  cases qn : op (gmN sr (dlt x) sr.length) pl with
  | none =>
   have g0 : gmN sr (dlt x) sr.length pl = 0 := by
    unfold op at qn
    split at qn
    ·rename_i z; exact z
    ·cases qn
   refine ⟨_, rfl, _, rfl, _, rfl, p, _, _, _, rfl, rfl, SqL.of h1, hatn, dn, none, rfl, ?_, _, rfl, ?_⟩
   ·have gg := DGet.k (k := .inr pl) hdn
    rw [rown.not pl qn] at gg; exact gg
   refine iteT ?_
   exact kn g0 H1 s1
  | some rn =>
   obtain ⟨wn, hwn, fwn⟩ := rown.has pl rn qn
   have ern : rn = gmN sr (dlt x) sr.length pl /\ gmN sr (dlt x) sr.length pl ≠ 0 := by
    unfold op at qn
    split at qn
    ·cases qn
    ·rename_i z; exact ⟨(Option.some.inj qn).symm, z⟩
   obtain ⟨ern, gn⟩ := ern
   rw [ern] at fwn
   have dgn : DGet H1 dn (.str pl) (some wn) := by
    have gg := DGet.k (k := .inr pl) hdn
    rw [hwn] at gg; exact gg
   refine ⟨_, rfl, _, rfl, _, rfl, p, _, _, _, rfl, rfl, SqL.of h1, hatn, dn, some wn, rfl, dgn, _, rfl, ?_⟩
   refine iteF ?_
   refine ⟨_, rfl, _, rfl, as, xs, ss, kk, i, rfl, s1.seq hX, steps_same hP s1, h64, hi, fun H2 s2 => ?_⟩
   have s02 := s1.trans s2
   refine ⟨_, rfl, sz (by simp), fun pw hpw => ?_⟩
   have u := Same.upd (o := .lst [V.str pl]) hpw
   have hpw0 : H pw = none := s02.free hpw
   have hpw1 : H1 pw = none := s2.free hpw
   have s13 := s2.trans u
   refine ⟨_, rfl, 1, rfl, _, _, rfl, ⟨by omega, by omega, by decide, by decide⟩, ?_⟩
   refine for_rangeS (fun j σ H4 => ∃ (v6 v7 : Option V) (C : List Str), σ = [some (.ref as), some (.int (kk : Nat)), some (.str pl), some (.ref p), some (.int (((ys.length : Nat) : Int) - 1)), some (.int (i : Nat)), some (.ref pw), v6, v7] /\ Same H1 H4 /\ H4 pw = some (.lst (C.reverse.map V.str)) /\ C.length = j + 1 /\ Wy (sr.drop (sr.length - j)) (gmN sr (dlt x) (sr.length - j)) C /\ nth C j = pl) ⟨none, none, [pl], rfl, s13, upd_same, rfl, ?_, rfl⟩ ?_ ?_
   ·rw [Nat.sub_zero, List.drop_length]; exact ⟨pl, rfl, gn⟩
   ·rintro j σ H4 hj ⟨v6, v7, C, rfl, s4, hw4, hCl, hW, hlast⟩
    have hj : j < sr.length := by
     have hj : j < ((((ys.length : Nat) : Int) - 1) - 0).toNat := hj
     omega
    obtain ⟨hwl, hw0, _⟩ := hW.at
    obtain ⟨b, C', eC⟩ : ∃ b C', C = b :: C' := by
     cases C with
     | nil => cases hCl
     | cons b C' => exact ⟨b, C', rfl⟩
    have hb0 : gmN sr (dlt x) (sr.length - j) b ≠ 0 := by rw [eC] at hw0; exact hw0
    have en : sr.length - j = (sr.length - (j + 1)) + 1 := by omega
    let m := sr.length - (j + 1)
    have en : sr.length - j = m + 1 := en
    have hm' : m < sr.length := by omega
    have hs : sr[m]? = some sr[m] := List.getElem?_eq_getElem hm'
    generalize hss' : sr[m] = st at hs
    have okst := hOr st (List.mem_of_getElem? hs)
    rw [en, gmN_succ hs] at hb0
    have hss : ss[i + (m + 1)]? = some st := by
     have : (ss.drop (i + 1))[m]? = some st := hs
     rw [List.getElem?_drop] at this
     have e : i + (m + 1) = i + 1 + m := by omega
     rw [e]; exact this
    obtain ⟨w, hw⟩ : ∃ w, xs[i + (m + 1)]? = some w := ⟨_, List.getElem?_eq_getElem (by have := (List.getElem?_eq_some_iff.mp hss).1; omega)⟩
    obtain ⟨st', hst', sv⟩ := paired_get hP hw
    rw [hss] at hst'
    cases hst'
    have ar : ∃ b, w = .ref b := by
     cases st with
     | br _ _ _ _ => obtain ⟨b, _, _, e, _⟩ := sv; exact ⟨b, e⟩
     | ps _ _ _ => obtain ⟨b, _, e, _⟩ := sv; exact ⟨b, e⟩
    obtain ⟨sa, rfl⟩ := ar
    obtain ⟨dm, kvm, hym, hdm, rowm⟩ := row m (by omega)
    obtain ⟨dm1, kvm1, hym1, hdm1, rowm1⟩ := row (m + 1) (by omega)
    have qb : op (gmN sr (dlt x) (m + 1)) b = some (gmN sr (dlt x) (m + 1) b) := by
     unfold op
     rw [gmN_succ hs, if_neg hb0]
    obtain ⟨wb, hwb, fwb⟩ := rowm1.has b _ qb
    have eV : ((((ys.length : Nat) : Int) - 1) + (j : Int) * (-1)) = ((m + 1 : Nat) : Int) := by omega
    have hCrev : C.reverse.map V.str = (C'.reverse.map V.str) ++ [.str b] := by rw [eC, List.reverse_cons, List.map_append]; rfl
    have hlenC : (C.reverse.map V.str).length = j + 1 := by rw [List.length_map, List.length_reverse]; exact hCl
    have hath : atI (C.reverse.map V.str) ((((C.reverse.map V.str).length : Nat) : Int) - 1) = some (.str b) := by
     have e1 : ((((C.reverse.map V.str).length : Nat) : Int) - 1) = (((C'.reverse.map V.str).length : Nat) : Int) := by
      rw [hCrev, List.length_append]
      have e3 : [V.str b].length = 1 := rfl
      omega
     rw [e1, hCrev]
     refine atI_nat ?_
     rw [List.getElem?_append_right (Nat.le_refl _), Nat.sub_self]; rfl
    refine ⟨_, rfl, _, rfl, _, _, rfl, .inl ⟨_, SqL.of hw4, rfl⟩, _, _, rfl, rfl, pw, _, _, _, rfl, rfl, SqL.of hw4, hath, ?_⟩
    have s04 := s1.trans s4
    have hats : atI xs (((i : Nat) : Int) + ((((ys.length : Nat) : Int) - 1) + (j : Int) * (-1))) = some (.ref sa) := by
     rw [eV]
     have e : (((i : Nat) : Int) + ((m + 1 : Nat) : Int)) = ((i + (m + 1) : Nat) : Int) := by omega
     rw [e]; exact atI_nat hw
    have hatm : atI ys ((((ys.length : Nat) : Int) - 1) + (j : Int) * (-1) - 1) = some (.ref dm) := by
     rw [eV]
     have e : (((m + 1 : Nat) : Int) - 1) = ((m : Nat) : Int) := by omega
     rw [e]; exact atI_nat hym
    have hatm1 : atI ys ((((ys.length : Nat) : Int) - 1) + (j : Int) * (-1)) = some (.ref dm1) := by rw [eV]; exact atI_nat hym1
    have dgb : DGet H4 dm1 (.str b) (some wb) := by
     have gg := DGet.k (k := .inr b) (s4 _ _ hdm1)
     rw [hwb] at gg; exact gg
    refine ⟨_, rfl, .inl ⟨rfl, _, SqL.of hw4⟩, _, rfl, _, rfl, _, rfl, _, _, rfl, rfl, as, _, _, _, rfl, rfl, s04.seq hX, hats, _, rfl, _, rfl, _, _, rfl, rfl, p, _, _, _, rfl, rfl, SqL.of (s4 _ _ h1), hatm, _, rfl, _, rfl, _, rfl, p, _, _, _, rfl, rfl, SqL.of (s4 _ _ h1), hatm1, _, rfl, dm1, wb, rfl, dgb, sa, dm, st, L, kvm, gmN sr (dlt x) m, b, wb, gmN sr (dlt x) (m + 1) b, rfl, sv.same s04, okst, s4 _ _ hdm, rowm.same (fun v r g => g.same s4), fwb.same s4, bdg m (by omega), fun H5 s5 => ?_⟩
    have ha := ahd_ok (fun z => ((gmN_ok hOr ok.1 m (by omega)).1 z).1) okst hb0
    rw [gmN_succ hs]
    generalize ahd st (gmN sr (dlt x) m) b (gmS st (gmN sr (dlt x) m) b) = a' at ha ⊢
    refine ⟨pw, _, _, rfl, rfl, s5 _ _ hw4, sz (by omega), ?_⟩
    refine ⟨_, _, a' :: C, rfl, (s4.trans s5).updD hpw1, ?_, by rw [List.length_cons, hCl], ?_, ?_⟩
    ·rw [upd_same, List.reverse_cons, List.map_append]; rfl
    ·have ed : sr.drop m = st :: sr.drop (m + 1) := by
      rw [List.drop_eq_getElem_cons hm', hss']
     show Wy (sr.drop m) (gmN sr (dlt x) m) (a' :: C)
     rw [ed, eC]
     refine ⟨a', b, C', rfl, ha.1, ha.2.1, ha.2.2, ?_⟩
     rw [en, gmN_succ hs, eC] at hW
     exact hW
    ·rw [nth_succ]; exact hlast
   ·rintro σ H4 ⟨v6, v7, C, rfl, s4, hw4, hCl, hW, hlast⟩
    have ej : ((((ys.length : Nat) : Int) - 1) - 0).toNat = sr.length := by omega
    rw [ej] at hW hlast
    rw [Nat.sub_self, List.drop_zero] at hW
    have hW : Wy sr (dlt x) C := hW
    obtain ⟨way, hshr⟩ := hW.way
    refine ⟨_, rfl, .inl ⟨rfl, _, SqL.of hw4⟩, pw, _, rfl, rfl, hw4, ?_⟩
    have s5 : Same H1 (upd H4 pw (.lst (C.reverse.map V.str).reverse)) := s4.updD hpw1
    have erev : (C.reverse.map V.str).reverse = C.map V.str := by rw [<- List.map_reverse, List.reverse_reverse]
    rw [erev] at s5 ⊢
    have hpw5 := upd_same (H := H4) (a := pw) (o := .lst (C.map V.str))
    generalize upd H4 pw (.lst (C.map V.str)) = H5 at *
    refine ⟨_, rfl, _, rfl, _, rfl, p, _, _, _, rfl, rfl, SqL.of (s5 _ _ h1), hatn, _, rfl, dn, wn, rfl, ?_, sz (by simp), fun t ht => ?_⟩
    ·have gg := DGet.k (k := .inr pl) (s5 _ _ hdn)
     rw [hwn] at gg; exact gg
    have u6 := Same.upd (o := .tup [.ref pw, wn]) ht
    refine ks gn (.ref t) _ pw (s1.trans (s5.trans u6)) ⟨t, wn, C, rfl, upd_same, u6 _ _ hpw5, (fwn.same s5).same u6, way, hlast, ?_⟩ hpw0
    rw [hshr sr.length (Nat.le_refl _), hlast]
noncomputable abbrev s__law_cell_at : Stmt := top 27
theorem sc__law_cell_at : FnScope ["_law_script_here", "_law_k"] ["_law_script_here", "_law_k"] (defScope s__law_cell_at) := scF
theorem ok__law_cell_at {ca : Ca} (D : DefAt K mg "_law_cell_at" s__law_cell_at) (T : Txt K mg ca) : FnAt P w K mg base CX0 1 "_law_cell_at" ["_law_script_here", "_law_k"] (spCell K) := by
 refine D.ok sc__law_cell_at (fun vs H Q E h => ?_) (fun _ _ _ _ _ _ us hl => match us, hl with | [_, _], _ => rfl) (fun f cdv A outer s H vs Q E hr h => ?_)
 ·obtain ⟨a, ns, j, rfl, hS, hj, k⟩ := h; rfl
 ·obtain ⟨a, ns, j, rfl, hS, hj, k⟩ := h
  have nd := sc__law_cell_at.nd
  refine ⟨_, (pss_cons (ps_if (pt_cmpR op_lt (pv 1) (pe_callB (call_len' (K := K) rfl) (by rfl) T.z_len PySem.boot_len (pa_cons (pv 0) pa_nil)) (nomark _)) (pss_one (ps_ret (pixL (pv 0) (pv 1)))) pss_nil)
   (pss_one (ps_ret pe_int))), ?_⟩
  refine ⟨_, rfl, _, rfl, _, _, rfl, .inl ⟨_, hS, rfl⟩, _, _, rfl, rfl, _, rfl, ?_⟩
  refine ite2 (fun h1 => ?_) (fun h1 => ?_)
  ·obtain ⟨c, hc⟩ := map_at hj (of_decide_eq_true h1)
   refine ⟨_, rfl, _, rfl, a, _, j, _, rfl, rfl, hS, hc, k c⟩
  ·exact k 0
noncomputable abbrev s__law_mixed : Stmt := top 28
theorem sc__law_mixed : FnScope ["_law_cell", "_law_k"] ["_law_cell", "_law_k"] (defScope s__law_mixed) := scF
theorem ok__law_mixed {ca : Ca} (D : DefAt K mg "_law_mixed" s__law_mixed) (T : Txt K mg ca) : FnAt P w K mg base CX0 1 "_law_mixed" ["_law_cell", "_law_k"] (spMixed2) := by
 refine D.ok sc__law_mixed (fun vs H Q E h => ?_) (fun _ _ _ _ _ _ us hl => match us, hl with | [_, _], _ => rfl) (fun f cdv A outer s H vs Q E hr h => ?_)
 ·obtain ⟨c, j, rfl, ⟨j0, j4⟩, k⟩ := h; rfl
 ·obtain ⟨c, j, rfl, ⟨j0, j4⟩, k⟩ := h
  have nd := sc__law_mixed.nd
  refine ⟨_, (pss_one (ps_ret (pe_op op_modN (pe_op op_mulB (pe_op op_modN (pv 0) pe_int) (pixL (pe_lst (pa_cons pe_int (pa_cons pe_int (pa_cons pe_int (pa_cons pe_int pa_nil))))) (pv 1))) (pixL (pe_lst (pa_cons pe_int (pa_cons pe_int (pa_cons pe_int (pa_cons pe_int pa_nil))))) (pv 1))))), ?_⟩
  have at4 : ∀ (a b c d : Int), ∃ v : Int, v ∈ [a, b, c, d] /\ atI [V.int a, .int b, .int c, .int d] j = some (V.int v) := by
   intro a b c d
   have : j = 0 \/ j = 1 \/ j = 2 \/ j = 3 := by omega
   rcases this with rfl | rfl | rfl | rfl
   ·exact ⟨a, by simp, rfl⟩
   ·exact ⟨b, by simp, rfl⟩
   ·exact ⟨c, by simp, rfl⟩
   ·exact ⟨d, by simp, rfl⟩
  obtain ⟨u, hu, eu⟩ := at4 48271 69621 16807 39373
  obtain ⟨w1, hw, ew⟩ := at4 65537 65539 65543 65551
  refine ⟨_, rfl, _, _, rfl, rfl, (show (1000003 : Int) ≠ 0 by decide), sz (by simp), fun p hp => ?_⟩
  refine ⟨_, rfl, p, _, _, _, rfl, rfl, SqL.of upd_same, eu, _, _, rfl, rfl, ?_, sz (by simp), fun p2 hp2 => ?_⟩
  ·have q := fmod_lt (c := c) (m := 1000003) (by decide)
   refine mulOk_of 64 (Nat.lt_of_le_of_lt (m := 1000003) (by omega) (by decide)) (Nat.lt_of_le_of_lt (m := 100000) ?_ (by decide)) (by decide)
   simp at hu
   omega
  have hw : 0 < w1 /\ w1 <= 65551 := by
   simp at hw
   omega
  have q2 := fmod_lt (c := c.fmod 1000003 * u) (m := w1) hw.1
  refine ⟨_, rfl, p2, _, _, _, rfl, rfl, SqL.of upd_same, ew, _, _, rfl, rfl, (by omega), ?_⟩
  exact k _ _ q2.1 (by omega) ((Same.upd hp).trans (Same.upd hp2))
noncomputable abbrev s__law_divisor : Stmt := top 29
theorem sc__law_divisor : FnScope ["_law_one", "_law_other"] ["_law_one", "_law_other"] (defScope s__law_divisor) := scF
theorem ok__law_divisor {ca : Ca} (D : DefAt K mg "_law_divisor" s__law_divisor) (T : Txt K mg ca) : FnAt P w K mg base CX0 1 "_law_divisor" ["_law_one", "_law_other"] (spDivisor) := by
 refine D.ok sc__law_divisor (fun vs H Q E h => ?_) (fun _ _ _ _ _ _ us hl => match us, hl with | [_, _], _ => rfl) (fun f cdv A outer s H vs Q E hr h => ?_)
 ·obtain ⟨a, b, rfl, k⟩ := h; rfl
 ·obtain ⟨a, b, rfl, k⟩ := h
  have nd := sc__law_divisor.nd
  refine ⟨_, (pss_cons (ps_while PassesOwn.never (pt_cmpR op_ne (pv 1) pe_int (nomark _)) (pss_one (ps_par (i := 0) (j := 1) rfl nd rfl rfl (by decide) rfl rfl (pa_cons (pv 1) (pa_cons (pe_op op_modN (pv 0) (pv 1)) pa_nil)) rfl)))
   (pss_one (ps_ret (pe_callB call_abs (by rfl) T.z_abs bt_abs (pa_cons (pv 0) pa_nil))))), ?_⟩
  refine while_by (fun σ H1 => ∃ x y : Int, σ = [some (.int x), some (.int y)] /\ H1 = H /\ Int.gcd x y = Int.gcd a b)
   (fun σ _ => match σ with | [_, some (.int y)] => y.natAbs | _ => 0) ⟨a, b, rfl, rfl, rfl⟩ ?_ ?_
  ·rintro σ H1 ⟨x, y, rfl, rfl, d⟩
   refine ⟨_, rfl, rfl, _, rfl, ?_⟩
   refine ite2 (fun h1 => ?_) (fun h1 => ?_)
   ·have hy : y ≠ 0 := by
     intro e; subst e; simp at h1
    refine ⟨_, rfl, _, rfl, _, rfl, _, _, rfl, rfl, hy, _, _, rfl, ?_⟩
    exact ⟨⟨_, _, rfl, rfl, (gcd_fmod x y).trans d⟩, Dv.less hy⟩
   ·have hy : y = 0 := by
     by_cases e : y = 0
     ·exact e
     ·exact absurd (by simp [e]) h1
    subst hy
    refine ⟨_, rfl, x, rfl, ?_⟩
    rw [Int.gcd_zero_right] at d
    have e : (if x < 0 then -x else x) = ((Int.gcd a b : Nat) : Int) := by
     rw [<- d]; split <;> omega
    rw [e]; exact k
  ·intro σ H1 Q1 Q2 hq h1
   obtain ⟨v, e, h2, c, e2, h3⟩ := h1
   exact ⟨v, e, h2, c, e2, hq _ _ h3⟩
noncomputable abbrev s__law_lowest : Stmt := top 30
theorem sc__law_lowest : FnScope ["_law_top", "_law_bottom", "_law_share_here"] ["_law_top", "_law_bottom"] (defScope s__law_lowest) := scF
theorem ok__law_lowest {ca : Ca} (D : DefAt K mg "_law_lowest" s__law_lowest) (T : Txt K mg ca) (G__law_divisor : FnAt P w K mg base CX0 1 "_law_divisor" ["_law_one", "_law_other"] (spDivisor)) : FnAt P w K mg base CX0 2 "_law_lowest" ["_law_top", "_law_bottom"] (spLowest2) := by
 refine D.ok sc__law_lowest (fun vs H Q E h => ?_) (fun _ _ _ _ _ _ us hl => match us, hl with | [_, _], _ => rfl) (fun f cdv A outer s H vs Q E hr h => ?_)
 ·obtain ⟨t, b, rfl, hb, hbb, k⟩ := h; rfl
 ·obtain ⟨t, b, rfl, hb, hbb, k⟩ := h
  have nd := sc__law_lowest.nd
  refine ⟨_, (pss_cons (ps_set (i := 2) nd rfl (Or.inl rfl) (pfn G__law_divisor hr (pa_cons (pv 0) (pa_cons (pv 1) pa_nil))))
   (pss_one (ps_ret (pe_tup (pa_cons (pe_op op_fdivB (pv 0) (pv 2)) (pa_cons (pe_op op_fdivB (pv 1) (pv 2)) pa_nil)))))), ?_⟩
  have hb' : b ≠ 0 := by omega
  have e : ((Int.gcd t b : Nat) : Int) = dv t b := by
   unfold dv
   rw [if_neg (by omega)]
  have hd : ∀ i, CDivB i ((Int.gcd t b : Nat) : Int) := fun i => by rw [e]; exact divB_of (dv_ne hb') (Nat.lt_of_le_of_lt (dv_le hb') hbb)
  refine ⟨_, rfl, _, rfl, t, b, rfl, ?_⟩
  refine ⟨_, rfl, _, rfl, _, _, rfl, rfl, hd _, _, rfl, _, rfl, _, _, rfl, rfl, hd _, sz (by simp), fun p hp => ?_⟩
  rw [e]
  exact k _ _ (Same.upd hp) (FrV.newOf (dv_num hb') (dv_den hb'))
noncomputable abbrev s__law_plus : Stmt := top 31
theorem sc__law_plus : FnScope ["_law_one", "_law_other"] ["_law_one", "_law_other"] (defScope s__law_plus) := scF
theorem ok__law_plus {ca : Ca} (D : DefAt K mg "_law_plus" s__law_plus) (T : Txt K mg ca) (G__law_lowest : FnAt P w K mg base CX0 2 "_law_lowest" ["_law_top", "_law_bottom"] (spLowest2)) : FnAt P w K mg base CX0 3 "_law_plus" ["_law_one", "_law_other"] (sp2 4000 (· + ·)) := by
 refine D.ok sc__law_plus (fun vs H Q E h => ?_) (fun _ _ _ _ _ _ us hl => match us, hl with | [_, _], _ => rfl) (fun f cdv A outer s H vs Q E hr h => ?_)
 ·obtain ⟨_, _, r, q, rfl, ⟨a, rfl, ha⟩, ⟨b, rfl, hb⟩, br, bq, k⟩ := h; rfl
 ·obtain ⟨_, _, r, q, rfl, ⟨a, rfl, ha⟩, ⟨b, rfl, hb⟩, br, bq, k⟩ := h
  have nd := sc__law_plus.nd
  refine ⟨_, (pss_one (ps_ret (pfn G__law_lowest hr (pa_cons (pe_op op_add (pe_op op_mulB (pixT (pv 0) pe_int) (pixT (pv 1) pe_int)) (pe_op op_mulB (pixT (pv 1) pe_int) (pixT (pv 0) pe_int))) (pa_cons (pe_op op_mulB (pixT (pv 0) pe_int) (pixT (pv 1) pe_int)) pa_nil))))), ?_⟩
  have d1 := rat_den_pos r
  have d2 := rat_den_pos q
  refine ⟨_, rfl, a, _, _, _, rfl, rfl, SqT.of ha, rfl, _, rfl, b, _, _, _, rfl, rfl, SqT.of hb, rfl, _, _, rfl, rfl, mulOk_of 4000 br.num bq.den (by decide), _, rfl, b, _, _, _, rfl, rfl, SqT.of hb, rfl, _, rfl, a, _, _, _, rfl, rfl, SqT.of ha, rfl, _, _, rfl, rfl, mulOk_of 4000 bq.num br.den (by decide), _, _, rfl, rfl, _, rfl, a, _, _, _, rfl, rfl, SqT.of ha, rfl, _, rfl, b, _, _, _, rfl, rfl, SqT.of hb, rfl, _, _, rfl, rfl, mulOk_of 4000 br.den bq.den (by decide), _, _, rfl, Int.mul_pos (by omega) (by omega), ?_, fun v H' s h => ?_⟩
  ·have n1 : ((r.den : Int)).natAbs < 2 ^ 4000 := br.den
   have n2 : ((q.den : Int)).natAbs < 2 ^ 4000 := bq.den
   exact Nat.lt_of_lt_of_le (natAbs_mul_lt n1 n2) (pow_le (by decide))
  ·rw [<- add_eq] at h
   exact k v H' s h
noncomputable abbrev s__law_minus : Stmt := top 32
theorem sc__law_minus : FnScope ["_law_one", "_law_other"] ["_law_one", "_law_other"] (defScope s__law_minus) := scF
theorem ok__law_minus {ca : Ca} (D : DefAt K mg "_law_minus" s__law_minus) (T : Txt K mg ca) (G__law_plus : FnAt P w K mg base CX0 3 "_law_plus" ["_law_one", "_law_other"] (sp2 4000 (· + ·))) : FnAt P w K mg base CX0 4 "_law_minus" ["_law_one", "_law_other"] (sp2 4000 (· - ·)) := by
 refine D.ok sc__law_minus (fun vs H Q E h => ?_) (fun _ _ _ _ _ _ us hl => match us, hl with | [_, _], _ => rfl) (fun f cdv A outer s H vs Q E hr h => ?_)
 ·obtain ⟨_, _, r, q, rfl, hx, ⟨b, rfl, hb⟩, br, bq, k⟩ := h; rfl
 ·obtain ⟨_, _, r, q, rfl, hx, ⟨b, rfl, hb⟩, br, bq, k⟩ := h
  have nd := sc__law_minus.nd
  refine ⟨_, (pss_one (ps_ret (pfn G__law_plus hr (pa_cons (pv 0) (pa_cons (pe_tup (pa_cons (pe_op op_sub pe_int (pixT (pv 1) pe_int)) (pa_cons (pixT (pv 1) pe_int) pa_nil))) pa_nil))))), ?_⟩
  refine ⟨_, rfl, _, rfl, b, _, _, _, rfl, rfl, SqT.of hb, rfl, _, _, rfl, rfl, _, rfl, b, _, _, _, rfl, rfl, SqT.of hb, rfl, sz (by simp), fun p hp => ?_⟩
  refine ⟨_, _, r, -q, rfl, hx.upd hp, FrV.newOf (neg_ok q).1 (neg_ok q).2, br, bq.neg, fun v H' s' h => ?_⟩
  have h : FrV H' v (r + -q) := h
  rw [sub_eq] at h
  exact k v H' ((Same.upd hp).trans s') h
noncomputable abbrev s__law_times : Stmt := top 33
theorem sc__law_times : FnScope ["_law_one", "_law_other"] ["_law_one", "_law_other"] (defScope s__law_times) := scF
theorem ok__law_times {ca : Ca} (D : DefAt K mg "_law_times" s__law_times) (T : Txt K mg ca) (G__law_lowest : FnAt P w K mg base CX0 2 "_law_lowest" ["_law_top", "_law_bottom"] (spLowest2)) : FnAt P w K mg base CX0 3 "_law_times" ["_law_one", "_law_other"] (spTimesW) := by
 refine D.ok sc__law_times (fun vs H Q E h => ?_) (fun _ _ _ _ _ _ us hl => match us, hl with | [_, _], _ => rfl) (fun f cdv A outer s H vs Q E hr h => ?_)
 ·obtain ⟨_, _, r, q, rfl, ⟨a, t1, b1, rfl, ha, p1, e1, z1, z2⟩, ⟨b, t2, b2, rfl, hb, p2, e2, z3, z4⟩, k⟩ := h; rfl
 ·obtain ⟨_, _, r, q, rfl, ⟨a, t1, b1, rfl, ha, p1, e1, z1, z2⟩, ⟨b, t2, b2, rfl, hb, p2, e2, z3, z4⟩, k⟩ := h
  have nd := sc__law_times.nd
  refine ⟨_, (pss_one (ps_ret (pfn G__law_lowest hr (pa_cons (pe_op op_mulB (pixT (pv 0) pe_int) (pixT (pv 1) pe_int)) (pa_cons (pe_op op_mulB (pixT (pv 0) pe_int) (pixT (pv 1) pe_int)) pa_nil))))), ?_⟩
  refine ⟨_, rfl, a, _, _, _, rfl, rfl, SqT.of ha, rfl, _, rfl, b, _, _, _, rfl, rfl, SqT.of hb, rfl, _, _, rfl, rfl, mulOk_of 4000 z1 z3 (by decide), _, rfl, a, _, _, _, rfl, rfl, SqT.of ha, rfl, _, rfl, b, _, _, _, rfl, rfl, SqT.of hb, rfl, _, _, rfl, rfl, mulOk_of 4000 z2 z4 (by decide), _, _, rfl, Int.mul_pos p1 p2, ?_, fun v H' s h => ?_⟩
  ·exact Nat.lt_of_lt_of_le (natAbs_mul_lt z2 z4) (pow_le (by decide))
  ·rw [<- Rat.divInt_mul_divInt _ _, <- e1, <- e2] at h
   exact k v H' s h
noncomputable abbrev s__law_under : Stmt := top 34
theorem sc__law_under : FnScope ["_law_one", "_law_other"] ["_law_one", "_law_other"] (defScope s__law_under) := scF
theorem ok__law_under {ca : Ca} (D : DefAt K mg "_law_under" s__law_under) (T : Txt K mg ca) : FnAt P w K mg base CX0 1 "_law_under" ["_law_one", "_law_other"] (spUnder) := by
 refine D.ok sc__law_under (fun vs H Q E h => ?_) (fun _ _ _ _ _ _ us hl => match us, hl with | [_, _], _ => rfl) (fun f cdv A outer s H vs Q E hr h => ?_)
 ·obtain ⟨_, _, r, q, rfl, ⟨a, rfl, ha⟩, ⟨b, rfl, hb⟩, br, bq, k⟩ := h; rfl
 ·obtain ⟨_, _, r, q, rfl, ⟨a, rfl, ha⟩, ⟨b, rfl, hb⟩, br, bq, k⟩ := h
  have nd := sc__law_under.nd
  refine ⟨_, (pss_one (ps_ret (pe_cmpR op_lt (pe_op op_mulB (pixT (pv 0) pe_int) (pixT (pv 1) pe_int)) (pe_op op_mulB (pixT (pv 1) pe_int) (pixT (pv 0) pe_int)) (nomark _)))), ?_⟩
  refine ⟨_, rfl, a, _, _, _, rfl, rfl, SqT.of ha, rfl, _, rfl, b, _, _, _, rfl, rfl, SqT.of hb, rfl, _, _, rfl, rfl, mulOk_of 8000 br.num bq.den (by decide), _, rfl, b, _, _, _, rfl, rfl, SqT.of hb, rfl, _, rfl, a, _, _, _, rfl, rfl, SqT.of ha, rfl, _, _, rfl, rfl, mulOk_of 8000 bq.num br.den (by decide), _, _, rfl, rfl, ?_⟩
  rw [<- _root_.Tc.lt_ok] at k
  exact k
noncomputable abbrev s__law_names : Stmt := top 35
theorem sc__law_names : FnScope ["_law_cell", "_law_letters", "_law_base", "_law_at", "_law_names_here", "_law_k"] ["_law_cell"] (defScope s__law_names) := scF
theorem ok__law_names {ca : Ca} (D : DefAt K mg "_law_names" s__law_names) (T : Txt K mg ca) : FnAt P w K mg base CX0 1 "_law_names" ["_law_cell"] (spNm9) := by
 refine D.ok sc__law_names (fun vs H Q E h => ?_) (fun _ _ _ _ _ _ us hl => match us, hl with | [_], _ => rfl) (fun f cdv A outer s H vs Q E hr h => ?_)
 ·obtain ⟨c, rfl, k⟩ := h; rfl
 ·obtain ⟨c, rfl, k⟩ := h
  have nd := sc__law_names.nd
  refine ⟨_, (pss_cons (ps_set (i := 1) nd rfl (Or.inr rfl) pe_str)
   (pss_cons (ps_set (i := 2) nd rfl (Or.inr rfl) (pe_comp ["_law_k"] ["_law_cell"] [0] rfl (by rfl) (pi_range1 (by rfl) T.z_range (pa_cons (pe_op op_add pe_int (pe_op op_modN (pv 0) pe_int)) pa_nil)) (fun _ _ _ _ => (pg_name (i := 0) (show List.Nodup (["_law_k", "_law_cell"] : List Str) from by decide) rfl (Or.inl rfl))) (fun _ _ _ _ => pif_none) (fun _ _ _ _ => (pe_op op_modN (pe_op op_add (pe_op op_fdivB (pv 1) (pe_op op_add (pv 0) pe_int)) (pe_op op_mulB (pv 0) (pv 0))) pe_int))))
   (pss_cons (ps_set (i := 3) nd rfl (Or.inr rfl) (pe_op op_modN (pe_op op_fdivB (pv 0) pe_int) (pe_callB (call_len' (K := K) rfl) (by rfl) T.z_len PySem.boot_len (pa_cons (pv 2) pa_nil))))
   (pss_cons (ps_set (i := 4) nd rfl (Or.inl rfl) (pe_lst pa_nil))
   (pss_cons (ps_for PassesOwn.never rfl (pi_range1 (by rfl) T.z_range (pa_cons pe_int pa_nil)) (pg_name (i := 5) nd rfl (Or.inr rfl)) (pss_one (ps_expr (pe_bm PySem.F.plainAttrs_list PySem.F.slot_list_append PySem.F.type_list_append mt_append (pv 4) (pa_cons (pe_bm' (K := K) rfl PySem.F.plainAttrs_str PySem.F.slot_str_join PySem.F.type_str_join (mt_join' (K := K) rfl) pe_str (pa_cons (pe_comp ["_law_j"] ["_law_letters", "_law_base", "_law_k", "_law_at"] [1, 2, 5, 3] rfl (by rfl) (pi_range1 (by rfl) T.z_range (pa_cons (pe_callB (call_len' (K := K) rfl) (by rfl) T.z_len PySem.boot_len (pa_cons (pv 2) pa_nil)) pa_nil)) (fun _ _ _ _ => (pg_name (i := 0) (show List.Nodup (["_law_j", "_law_letters", "_law_base", "_law_k", "_law_at"] : List Str) from by decide) rfl (Or.inl rfl))) (fun _ _ _ _ => pif_none) (fun _ _ _ _ => (pe_ix ix_str (pv 1) (pe_op op_modN (pe_op op_add (pixL (pv 2) (pv 0)) (pe_op op_mulB (pv 3) (pe_callTy call_int1 (by rfl) T.z_int bt_int (pa_cons (pe_cmpR op_eq (pv 0) (pv 4) (nomark _)) pa_nil)))) pe_int) (fun _ _ => rfl)))) pa_nil)) pa_nil)))))
   (pss_one (ps_ret (pv 4)))))))), ?_⟩
  have q8 := fmod_lt (c := c) (m := 8) (by decide)
  refine ⟨_, rfl, _, _, rfl, rfl, (show (8 : Int) ≠ 0 by decide), _, _, rfl, rfl, _, rfl, by omega, by omega, fun D hD => ?_⟩
  refine block_range (fun i σ' H' => ∃ (v : Option V) (bs : List Int), σ' = [v, some (.int c)] /\ Same H H' /\ H' D = some (.lst (bs.map V.int)) /\ bs.length = i) ⟨none, [], rfl, Same.upd hD, upd_same, rfl⟩ ?_ ?_
  ·rintro i σ' H' hi ⟨v, bs, rfl, s1, hd, hl⟩
   have hi : i < (1 + c.fmod 8).toNat := hi
   refine ⟨_, rfl, _, rfl, _, _, rfl, rfl, _, _, rfl, rfl, divB_of (by omega) (Nat.lt_of_le_of_lt (m := 9) (by omega) (by decide)), _, rfl, _, rfl, _, _, rfl, rfl, mulOk_of 64 (Nat.lt_of_le_of_lt (m := 9) (by omega) (by decide)) (Nat.lt_of_le_of_lt (m := 9) (by omega) (by decide)) (by decide), _, _, rfl, rfl, _, _, rfl, rfl, (show (26 : Int) ≠ 0 by decide), ?_⟩
   refine ⟨_, hd, by rw [List.length_map]; exact sz (by omega), _, bs ++ [(c.fdiv (0 + (i : Int) + 1) + (0 + (i : Int)) * (0 + (i : Int))).fmod 26], rfl, s1.updD hD, ?_, by rw [List.length_append, hl]; rfl⟩
   rw [upd_same, List.map_append]
   rfl
  rintro σ' H1 ⟨v, ds, rfl, s1, hd, hl⟩
  have hl : ds.length = (1 + c.fmod 8).toNat := hl
  have hlen : (ds.map V.int).length = ds.length := List.length_map ..
  have q7 := fmod_lt (c := c.fdiv 8) (m := (((ds.map V.int).length : Nat) : Int)) (by rw [hlen]; omega)
  refine ⟨_, rfl, _, _, rfl, rfl, ddv (by decide) (by decide), _, rfl, _, _, rfl, .inl ⟨_, SqL.of hd, rfl⟩, _, _, rfl, rfl, (show (((ds.map V.int).length : Nat) : Int) ≠ 0 by rw [hlen]; omega), ?_⟩
  obtain ⟨a0, ea⟩ := Int.eq_ofNat_of_zero_le q7.1
  have ha0 : a0 < ds.length := by have := q7.2; rw [ea, hlen] at this; omega
  refine ⟨sz (by simp), fun p hp => ?_⟩
  have sp1 := Same.upd (o := .lst []) hp
  have hp0 := s1.free hp
  refine ⟨_, rfl, by decide, by decide, ?_⟩
  refine for_range (fun i σ H2 => ∃ (v6 : Option V), σ = [some (.int c), some (.str LT), some (.ref D), some (.int (a0 : Nat)), some (.ref p), v6] /\ Same H1 H2 /\ H2 p = some (.lst (((List.range i).map (nmJ ds (a0 : Nat))).map V.str))) ⟨none, by rw [<- ea]; rfl, sp1, upd_same⟩ ?_ ?_
  ·rintro i σ H2 hi ⟨v6, rfl, s2, hp2⟩
   have hi : i < 9 := hi
   have hd2 := s2 _ _ hd
   refine ⟨_, rfl, .inl ⟨rfl, _, SqL.of hp2⟩, rfl, _, rfl, _, _, rfl, .inl ⟨_, SqL.of hd2, rfl⟩, _, rfl, by rw [hlen]; omega, by rw [hlen]; omega, fun D2 hD2 => ?_⟩
   refine block_range (fun j σ' H' => ∃ (v : Option V), σ' = [v, some (.str LT), some (.ref D), some (.int (0 + (i : Int))), some (.int (a0 : Nat))] /\ Same H2 H' /\ H' D2 = some (.lst ((((List.range j).map fun k => lt (sg ds (a0 : Nat) i k)).map one1).map V.str))) ⟨none, rfl, Same.upd hD2, upd_same⟩ ?_ ?_
   ·rintro j σ' H' hj ⟨v, rfl, s3, hd3⟩
    have hj : j < ds.length := by
     have hj : j < (((ds.map V.int).length : Nat) : Int).toNat := hj
     rw [hlen] at hj; simpa using hj
    have hbj : atI (ds.map V.int) (0 + (j : Int)) = some (.int (ds.getD j 0)) := by
     rw [Int.zero_add]
     refine atI_nat ?_
     rw [List.getElem?_map, List.getElem?_eq_getElem hj, List.getD_eq_getElem?_getD, List.getElem?_eq_getElem hj]; rfl
    refine ⟨_, rfl, _, rfl, _, rfl, D, _, _, _, rfl, rfl, SqL.of (s3 _ _ hd2), hbj, _, rfl, _, rfl, _, rfl, rfl, .inr ⟨_, rfl, _, _, rfl, rfl, mulOk_of 64 (Nat.lt_of_le_of_lt (m := 20) (by omega) (by decide)) ?_ (by decide), _, _, rfl, rfl, _, _, rfl, rfl, (show (26 : Int) ≠ 0 by decide), ?_⟩⟩
    ·refine Nat.lt_of_le_of_lt (m := 1) ?_ (by decide)
     show (if _ then (1 : Int) else 0).natAbs <= 1
     split <;> decide
    have b := sg_b ds (a0 : Nat) i j
    refine ⟨_, _, lt (sg ds (a0 : Nat) i j), rfl, rfl, sz (by decide), lt_at b.1 b.2, ?_⟩
    refine ⟨_, hd3, by rw [List.length_map, List.length_map, List.length_map, List.length_range]; exact sz (by omega), _, rfl, s3.updD hD2, ?_⟩
    rw [upd_same, List.range_succ, List.map_append, List.map_append, List.map_append]; rfl
   ·rintro σ' H3 ⟨v, rfl, s3, hd3⟩
    have ej : (((ds.map V.int).length : Nat) : Int).toNat = ds.length := by rw [hlen]; simp
    rw [ej] at hd3
    have hp3 := s3 _ _ hp2
    refine ⟨_, D2, (cj ds (a0 : Nat) i).map one1, rfl, rfl, SqL.of hd3, join_fits _ (by unfold cj; rw [List.length_map, List.length_range]; omega), ?_⟩
    refine ⟨p, _, _, rfl, rfl, hp3, by rw [List.length_map, List.length_map, List.length_range]; exact sz (by omega), ?_⟩
    refine ⟨_, rfl, (s2.trans s3).updD hp, ?_⟩
    rw [upd_same, List.range_succ, List.map_append, List.map_append]; rfl
  ·rintro σ H2 ⟨v6, rfl, s2, hp2⟩
   have hp2 : H2 p = some (.lst (((List.range 9).map (nmJ ds (a0 : Nat))).map V.str)) := hp2
   refine ⟨_, rfl, k p H2 _ (s1.trans s2) ⟨hp2, by rw [List.length_map, List.length_range], ?_, fun z hz => ?_⟩⟩
   ·unfold List.Nodup
    rw [List.pairwise_map]
    refine List.Pairwise.imp_of_mem (fun {i j} hi hj hij e => hij ?_) (List.nodup_range (n := 9))
    exact nmJ_inj ha0 (List.mem_range.mp hi) (List.mem_range.mp hj) e
   ·obtain ⟨j, _, rfl⟩ := List.mem_map.mp hz
    exact nmJ_lay _ _ _
noncomputable abbrev s__law_house : Stmt := top 36
theorem sc__law_house : FnScope ["_law_cell", "_law_names_here", "_law_house_here", "_law_k", "_law_room"] ["_law_cell", "_law_names_here"] (defScope s__law_house) := scF
theorem ok__law_house {ca : Ca} (D : DefAt K mg "_law_house" s__law_house) (T : Txt K mg ca) (G__law_lowest : FnAt P w K mg base CX0 2 "_law_lowest" ["_law_top", "_law_bottom"] (spLowest2)) (G__law_mixed : FnAt P w K mg base CX0 1 "_law_mixed" ["_law_cell", "_law_k"] (spMixed2)) : FnAt P w K mg base CX0 3 "_law_house" ["_law_cell", "_law_names_here"] (spHouse9) := by
 refine D.ok sc__law_house (fun vs H Q E h => ?_) (fun _ _ _ _ _ _ us hl => match us, hl with | [_, _], _ => rfl) (fun f cdv A outer s H vs Q E hr h => ?_)
 ·obtain ⟨c, an, L, rfl, hN, k⟩ := h; rfl
 ·obtain ⟨c, an, L, rfl, hN, k⟩ := h
  have nd := sc__law_house.nd
  refine ⟨_, (pss_cons (ps_set (i := 2) nd rfl (Or.inl rfl) (pe_lst pa_nil))
   (pss_cons (ps_for PassesOwn.never rfl (pi_range1 (by rfl) T.z_range (pa_cons (pe_op op_add pe_int (pe_op op_modN (pv 0) pe_int)) pa_nil)) (pg_name (i := 3) nd rfl (Or.inl rfl)) (pss_cons (ps_set (i := 4) nd rfl (Or.inl rfl) (pfn G__law_lowest hr (pa_cons (pe_op op_add pe_int (pe_op op_modN (pfn G__law_mixed hr (pa_cons (pv 0) (pa_cons (pv 3) pa_nil))) pe_int)) (pa_cons (pe_op op_add pe_int (pe_op op_modN (pe_op op_fdivB (pfn G__law_mixed hr (pa_cons (pv 0) (pa_cons (pv 3) pa_nil))) pe_int) pe_int)) pa_nil))))
   (pss_one (ps_expr (pe_bm PySem.F.plainAttrs_list PySem.F.slot_list_append PySem.F.type_list_append mt_append (pv 2) (pa_cons (pe_tup (pa_cons pe_str (pa_cons (pixL (pv 1) (pv 3)) (pa_cons (pv 4) pa_nil)))) pa_nil))))))
   (pss_cons (ps_expr (pe_bm' (K := K) rfl PySem.F.plainAttrs_list PySem.F.slot_list_insert PySem.F.type_list_insert mt_insert (pv 2) (pa_cons (pe_op op_modN (pe_op op_fdivB (pv 0) pe_int) (pe_callB (call_len' (K := K) rfl) (by rfl) T.z_len PySem.boot_len (pa_cons (pv 2) pa_nil))) (pa_cons (pe_tup (pa_cons pe_str (pa_cons (pixL (pv 1) pe_int) pa_nil))) pa_nil))))
   (pss_cons (ps_expr (pe_bm PySem.F.plainAttrs_list PySem.F.slot_list_append PySem.F.type_list_append mt_append (pv 2) (pa_cons (pe_tup (pa_cons pe_str (pa_cons (pixL (pv 1) pe_int) pa_nil))) pa_nil)))
   (pss_one (ps_ret (pv 2))))))), ?_⟩
  obtain ⟨hN, L9, nd, lay⟩ := hN
  have q3 := fmod_lt (c := c) (m := 3) (by decide)
  obtain ⟨m, em⟩ := Int.eq_ofNat_of_zero_le (show 0 <= 2 + c.fmod 3 by omega)
  have m2 : 2 <= m := by omega
  have m4 : m <= 4 := by omega
  refine ⟨sz (by simp), fun ph hph => ?_⟩
  have tp := Same.upd (o := .lst []) hph
  refine ⟨_, rfl, _, _, rfl, rfl, (show (3 : Int) ≠ 0 by decide), _, _, rfl, rfl, _, rfl, by omega, by omega, ?_⟩
  refine for_range (fun i σ H2 => ∃ (v3 v4 : Option V) (xs : List V) (cs : List Plc), σ = [some (.int c), some (.ref an), some (.ref ph), v3, v4] /\ Same H H2 /\ H2 ph = some (.lst xs) /\ Paired (PlV H2) xs cs /\ xs.length = i /\ allN cs = L.take i /\ (∀ p ∈ cs, isC p = true) /\ RoomsOk cs) ⟨none, none, [], [], rfl, tp, upd_same, .nil, rfl, rfl, (fun _ z => nomatch z), (fun _ _ z => nomatch z)⟩ ?_ ?_
  ·rintro i σ H2 hi ⟨v3, v4, xs, cs, rfl, s2, h2, hP, hl, eL, ic, ro⟩
   have hi : i < m := by
    have hi : i < (2 + c.fmod 3).toNat := hi
    omega
   have hiL : i < L.length := by omega
   have hat : atI (L.map V.str) (0 + (i : Int)) = some (.str L[i]) := by
    rw [Int.zero_add]
    refine atI_nat ?_
    rw [List.getElem?_map, List.getElem?_eq_getElem hiL]; rfl
   have et : L.take (i + 1) = L.take i ++ [L[i]] := take_one (List.getElem?_eq_getElem hiL)
   refine ⟨_, rfl, _, rfl, c, 0 + (i : Int), rfl, ⟨by omega, by omega⟩, fun m1 Ha a0 a1 sa => ⟨_, _, rfl, rfl, (show (100 : Int) ≠ 0 by decide), _, _, rfl, rfl, _, rfl, _, rfl, c, 0 + (i : Int), rfl, ⟨by omega, by omega⟩, fun m2' Hb b0 b1 sb => ⟨_, _, rfl, rfl, ddv (by decide) (by decide), _, _, rfl, rfl, (show (2 : Int) ≠ 0 by decide), _, _, rfl, rfl, ?_⟩⟩⟩
   have qa := fmod_lt (c := m1) (m := 100) (by decide)
   have qb := fmod_lt (c := m2'.fdiv 100) (m := 2) (by decide)
   refine ⟨20 + m1.fmod 100, 1 + (m2'.fdiv 100).fmod 2, rfl, by omega, Nat.lt_of_le_of_lt (m := 10) (by omega) (by decide), fun w3 H3 s3 f3 => ?_⟩
   have z3 : IsM 6 119 (Rat.divInt (20 + m1.fmod 100) (1 + (m2'.fdiv 100).fmod 2)) := by
    refine isM6 (by omega) (show _ <= (119 : Int) by omega) (by omega) ?_
    have : (m2'.fdiv 100).fmod 2 = 0 \/ (m2'.fdiv 100).fmod 2 = 1 := by omega
    rcases this with e | e <;> rw [e] <;> decide
   generalize Rat.divInt (20 + m1.fmod 100) (1 + (m2'.fdiv 100).fmod 2) = rr at f3 z3
   have s23 := sa.trans (sb.trans s3)
   have h23 := s23 _ _ h2
   have hN3 := s23 _ _ (s2 _ _ hN)
   refine ⟨_, rfl, .inl ⟨rfl, _, SqL.of h23⟩, _, rfl, _, rfl, an, _, _, _, rfl, rfl, SqL.of hN3, hat, _, rfl, sz (by simp), fun l5 hl5 => ?_⟩
   have t5 := Same.upd (o := .tup [V.str "cask", .str L[i], w3]) hl5
   have h25 := t5 _ _ h23
   refine ⟨ph, _, _, rfl, rfl, h25, sz (by omega), ?_⟩
   have tu := tup_of (o := .lst (xs ++ [.ref l5])) h25 (fun _ z => nomatch z)
   refine ⟨_, _, xs ++ [.ref l5], cs ++ [.ck L[i] rr], rfl, (s2.trans (s23.trans t5)).updD hph, upd_same, ?_, by rw [List.length_append, hl]; rfl, ?_, fun p hp => ?_, fun z' r' hz' => ?_⟩
   ·refine Paired.snoc (Paired.mapP hP fun _ _ f => (f.same (s23.trans t5)).tup tu) ?_
    exact ⟨l5, _, rfl, tu _ _ upd_same, (f3.same t5).tup tu⟩
   ·rw [et, <- eL]; unfold allN; rw [List.map_append]; rfl
   ·rcases List.mem_append.mp hp with e | e
    ·exact ic p e
    ·rw [List.mem_singleton.mp e]; rfl
   ·rcases List.mem_append.mp hz' with e | e
    ·exact ro z' r' e
    ·have e := List.mem_singleton.mp e
     injection e with _ e2
     rw [e2]; exact z3
  ·rintro σ H2 ⟨v3, v4, xs, cs, rfl, s2, h2, hP, hl, eL, ic, ro⟩
   have em' : (2 + c.fmod 3).toNat = m := by omega
   have hl : xs.length = (2 + c.fmod 3).toNat := hl
   have eL : allN cs = L.take (2 + c.fmod 3).toNat := eL
   rw [em'] at hl eL
   have hN2 := s2 _ _ hN
   obtain ⟨z4, h4⟩ : ∃ z, L[4]? = some z := ⟨_, List.getElem?_eq_getElem (by omega)⟩
   obtain ⟨z5, h5⟩ : ∃ z, L[5]? = some z := ⟨_, List.getElem?_eq_getElem (by omega)⟩
   have at4 : atI (L.map V.str) 4 = some (.str z4) := atI_nat (j := 4) (by rw [List.getElem?_map, h4]; rfl)
   have at5 : atI (L.map V.str) 5 = some (.str z5) := atI_nat (j := 5) (by rw [List.getElem?_map, h5]; rfl)
   have qj := fmod_lt (c := c.fdiv 3) (m := ((xs.length : Nat) : Int)) (by omega)
   obtain ⟨j, ej⟩ := Int.eq_ofNat_of_zero_le qj.1
   have hj : j <= xs.length := by have := qj.2; rw [ej] at this; omega
   refine ⟨_, rfl, .inl ⟨rfl, _, SqL.of h2⟩, _, rfl, _, _, rfl, rfl, ddv (by decide) (by decide), _, rfl, _, _, rfl, .inl ⟨_, SqL.of h2, rfl⟩, _, _, rfl, rfl, (show ((xs.length : Nat) : Int) ≠ 0 by omega), _, rfl, an, _, _, _, rfl, rfl, SqL.of hN2, at4, sz (by simp), fun l5 hl5 => ?_⟩
   have t5 := Same.upd (o := .tup [V.str "sink", .str z4]) hl5
   have h25 := t5 _ _ h2
   refine ⟨ph, xs, j, .ref l5, rfl, by rw [<- ej], h25, hj, by omega, ?_⟩
   have tu := tup_of (o := .lst (xs.take j ++ .ref l5 :: xs.drop j)) h25 (fun _ z => nomatch z)
   have s6 : Same H (upd (upd H2 l5 (.tup [V.str "sink", .str z4])) ph (.lst (xs.take j ++ .ref l5 :: xs.drop j))) := (s2.trans t5).updD hph
   have hP6 : Paired (PlV (upd (upd H2 l5 (.tup [V.str "sink", .str z4])) ph (.lst (xs.take j ++ .ref l5 :: xs.drop j)))) (xs.take j ++ .ref l5 :: xs.drop j) (cs.take j ++ .sk z4 :: cs.drop j) := by
    have hQ := Paired.mapP hP fun _ _ f => (f.same t5).tup tu
    exact Paired.app (Paired.take hQ j) (.cons ⟨l5, rfl, tu _ _ upd_same⟩ (Paired.drop hQ j))
   have h6 := upd_same (H := upd H2 l5 (.tup [V.str "sink", .str z4])) (a := ph) (o := .lst (xs.take j ++ .ref l5 :: xs.drop j))
   have l6 : (xs.take j ++ V.ref l5 :: xs.drop j).length = xs.length + 1 := by rw [List.length_append, List.length_cons, List.length_take, List.length_drop]; omega
   generalize upd (upd H2 l5 (.tup [V.str "sink", .str z4])) ph (.lst (xs.take j ++ .ref l5 :: xs.drop j)) = H6 at *
   refine ⟨_, rfl, .inl ⟨rfl, _, SqL.of h6⟩, _, rfl, an, _, _, _, rfl, rfl, SqL.of (s6 _ _ hN), at5, sz (by simp), fun l7 hl7 => ?_⟩
   have t7 := Same.upd (o := .tup [V.str "sink", .str z5]) hl7
   have h67 := t7 _ _ h6
   refine ⟨ph, _, _, rfl, rfl, h67, by rw [l6]; exact sz (by omega), ?_⟩
   have tu7 := tup_of (o := .lst ((xs.take j ++ .ref l5 :: xs.drop j) ++ [.ref l7])) h67 (fun _ z => nomatch z)
   obtain ⟨g1, g2, g3, g4⟩ := house9 L9 nd lay m2 m4 eL ic ro j h4 h5
   refine ⟨_, rfl, k ph _ _ _ hph ((s6.trans t7).updD hph) upd_same ?_ g1 g2 g3 g4⟩
   refine Paired.snoc (Paired.mapP hP6 fun _ _ f => (f.same t7).tup tu7) ?_
   exact ⟨l7, rfl, tu7 _ _ upd_same⟩
noncomputable abbrev s__law_left : Stmt := top 37
theorem sc__law_left : FnScope ["_law_house_here", "_law_totals", "_law_y", "_law_place"] ["_law_house_here", "_law_totals", "_law_y"] (defScope s__law_left) := scF
theorem ok__law_left {ca : Ca} (D : DefAt K mg "_law_left" s__law_left) (T : Txt K mg ca) (G__law_minus : FnAt P w K mg base CX0 4 "_law_minus" ["_law_one", "_law_other"] (sp2 4000 (· - ·))) : FnAt P w K mg base CX0 5 "_law_left" ["_law_house_here", "_law_totals", "_law_y"] (spLeft) := by
 refine D.ok sc__law_left (fun vs H Q E h => ?_) (fun _ _ _ _ _ _ us hl => match us, hl with | [_, _, _], _ => rfl) (fun f cdv A outer s H vs Q E hr h => ?_)
 ·obtain ⟨ah, pt, ps, t, i, y, rfl, hA, hy, k⟩ := h; rfl
 ·obtain ⟨ah, pt, ps, t, i, y, rfl, hA, hy, k⟩ := h
  have nd := sc__law_left.nd
  refine ⟨_, (pss_cons (ps_for PassesOwn.never rfl (pi_list' (K := K) rfl (pv 0)) (pg_name (i := 3) nd rfl (Or.inl rfl)) (pss_one (ps_if (PW.pt (pw_and (pt_cmpR op_eq (pixT (pv 3) pe_int) (pv 2) (nomark _)) (pw_and1 (pt_cmpR op_eq (pixT (pv 3) pe_int) pe_str (nomark _))))) (pss_one (ps_ret (pfn G__law_minus hr (pa_cons (pixT (pv 3) pe_int) (pa_cons (pe_dget (hu_of hr) (pv 1) (pv 2) (fun _ _ => rfl)) pa_nil))))) pss_nil)))
   (pss_one (ps_ret pe_non))), ?_⟩
  obtain ⟨xs, hS', hP, hH, ro, c2⟩ := hA.hs
  have hS : SqL K H ah xs := SqL.of hS'
  have hlen : xs.length = ps.length := hP.length
  have hi := hA.i17
  obtain ⟨vt, dg, ft⟩ := hA.to.get hy
  refine ⟨_, rfl, ah, rfl, ⟨_, hS⟩, ?_⟩
  refine for_list (xs := xs) (fun j σ H1 => ∃ v3 : Option V, σ = [some (.ref ah), some (.ref pt), some (.str y), v3] /\ H1 = H /\ ∀ r, Plc.ck y r ∉ ps.take j) ⟨none, rfl, rfl, fun r h => by simp at h⟩ ?_ ?_ ?_
  ·rintro j σ H1 hj ⟨v3, rfl, rfl, _⟩
   exact hS
  ·rintro j v σ H1 hv ⟨v3, rfl, rfl, hn⟩
   obtain ⟨pl, hpl, pv⟩ := paired_get hP hv
   have et := take_one hpl
   cases pl with
   | ck z r =>
    obtain ⟨b, f, rfl, hb, hf⟩ := pv
    refine ⟨_, rfl, b, _, _, _, rfl, rfl, SqT.of hb, rfl, _, rfl, rfl, _, rfl, ?_⟩
    by_cases e : z = y
    ·subst e
     refine dec_true rfl ?_
     refine ⟨_, rfl, b, _, _, _, rfl, rfl, SqT.of hb, rfl, rfl, _, rfl, ?_⟩
     refine dec_true rfl ?_
     have hr := rmF_of hH.nd (List.mem_of_getElem? hpl)
     have R := hA.int.room ro hr
     refine ⟨_, rfl, b, _, _, _, rfl, rfl, SqT.of hb, rfl, _, rfl, _, rfl, pt, vt, rfl, dg, f, vt, r, t z, rfl, hf, ft, (isM_bd R.1 (by omega) (by decide)).mono (by decide), (isM_bd R.2.1 (by omega) (by decide)).mono (by decide), fun v H' s h => k v H' s ?_⟩
     unfold lft
     rw [hr]; exact h
    ·refine dec_false (fun q => e (V.str.inj q)) ?_
     refine iteF ?_
     refine ⟨_, rfl, rfl, fun r' h => ?_⟩
     rw [et] at h
     rcases List.mem_append.mp h with h | h
     ·exact hn r' h
     ·have h := List.mem_singleton.mp h
      injection h with h1 _
      exact e h1.symm
   | sk z =>
    obtain ⟨b, rfl, hb⟩ := pv
    have nx : ∀ r, Plc.ck y r ∉ ps.take (j + 1) := fun r' h => by
     rw [et] at h
     rcases List.mem_append.mp h with h | h
     ·exact hn r' h
     ·have h := List.mem_singleton.mp h
      cases h
    refine ⟨_, rfl, b, _, _, _, rfl, rfl, SqT.of hb, rfl, _, rfl, rfl, _, rfl, ?_⟩
    refine ite2 (fun _ => ?_) (fun _ => iteF ⟨_, rfl, rfl, nx⟩)
    refine ⟨_, rfl, b, _, _, _, rfl, rfl, SqT.of hb, rfl, rfl, _, rfl, ?_⟩
    refine dec_false (by decide +kernel) ?_
    exact ⟨_, rfl, rfl, nx⟩
  ·rintro σ H1 ⟨v3, rfl, rfl, hn⟩
   rw [hlen, List.take_length] at hn
   refine k _ _ (Same.refl _) ?_
   unfold lft
   cases q : rmF ps y with
   | none => rfl
   | some m => exact absurd (rmF_mem q).2 (hn m)
noncomputable abbrev s__law_amount : Stmt := top 38
theorem sc__law_amount : FnScope ["_law_totals", "_law_x", "_law_left_here", "_law_number", "_law_amount_here"] ["_law_totals", "_law_x", "_law_left_here", "_law_number"] (defScope s__law_amount) := scF
theorem ok__law_amount {ca : Ca} (D : DefAt K mg "_law_amount" s__law_amount) (T : Txt K mg ca) (G__law_times : FnAt P w K mg base CX0 3 "_law_times" ["_law_one", "_law_other"] (spTimesW)) (G__law_under : FnAt P w K mg base CX0 1 "_law_under" ["_law_one", "_law_other"] (spUnder)) : FnAt P w K mg base CX0 4 "_law_amount" ["_law_totals", "_law_x", "_law_left_here", "_law_number"] (spAmt) := by
 refine D.ok sc__law_amount (fun vs H Q E h => ?_) (fun _ _ _ _ _ _ us hl => match us, hl with | [_, _, _, _], _ => rfl) (fun f cdv A outer s H vs Q E hr h => ?_)
 ·obtain ⟨ah, pt, ps, t, i, x, y, l, n, rfl, hA, hx, hl, k⟩ := h; rfl
 ·obtain ⟨ah, pt, ps, t, i, x, y, l, n, rfl, hA, hx, hl, k⟩ := h
  have nd := sc__law_amount.nd
  refine ⟨_, (pss_cons (ps_set (i := 4) nd rfl (Or.inl rfl) (pfn G__law_times hr (pa_cons (pe_dget (hu_of hr) (pv 0) (pv 1) (fun _ _ => rfl)) (pa_cons (pe_tup (pa_cons (pe_op op_add pe_int (pe_op op_modN (pv 3) pe_int)) (pa_cons pe_int pa_nil))) pa_nil))))
   (pss_cons (ps_if (PW.pt (pw_and (pt_cmpR op_notN (pv 2) pe_non (nomark _)) (pw_and1 (pt_val (pfn G__law_under hr (pa_cons (pv 2) (pa_cons (pv 4) pa_nil))))))) (pss_one (ps_set (i := 4) nd rfl (Or.inl rfl) (pv 2))) pss_nil)
   (pss_one (ps_ret (pv 4))))), ?_⟩
  have hi := hA.i17
  have ro := hA.ro
  have q4 := fmod_lt (c := n) (m := 4) (by decide)
  obtain ⟨vx, dg, fx⟩ := hA.to.get (ck_sub hx)
  have hM := hA.int.ck ro hx
  have bx := isM_bd hM (by omega) (by decide)
  obtain ⟨f0, f1, f2⟩ := fours (n := 1 + n.fmod 4) (by omega) (by omega)
  refine ⟨_, rfl, _, rfl, pt, vx, rfl, dg, _, rfl, _, _, rfl, rfl, (show (4 : Int) ≠ 0 by decide), _, _, rfl, rfl, sz (by simp), fun q hq => ?_⟩
  have tq := Same.upd (o := .tup [.int (1 + n.fmod 4), .int 4]) hq
  refine ⟨_, _, t x, Rat.divInt (1 + n.fmod 4) 4, rfl, (fx.same tq).rw (bx.mono (by decide)), ⟨q, _, 4, rfl, upd_same, by decide, rfl, Nat.lt_of_le_of_lt (m := 4) (by omega) (by decide), by decide⟩, fun v1 H1 s1 g1 => ?_⟩
  have s01 := tq.trans s1
  have hl1 := hl.same s01
  have rM : IsM (Pw (i + 1)) 119 (t x * Rat.divInt (1 + n.fmod 4) 4) := isM_part hM f0 f1 f2
  have rle : t x * Rat.divInt (1 + n.fmod 4) 4 <= t x := part_le hM.1 f1
  generalize t x * Rat.divInt (1 + n.fmod 4) 4 = r at g1 rM rle
  refine ⟨_, rfl, rfl, _, rfl, ?_⟩
  refine lf_not hl1 (fun e => ?_) (fun lv e fl => ?_)
  ·refine iteF ?_
   exact ⟨_, rfl, k _ _ r s01 g1 rM rle (rm_of fun l' e' => by rw [e] at e'; cases e')⟩
  obtain ⟨m, hm, el⟩ := lft_some e
  have R := hA.int.room ro hm
  rw [<- el] at R
  refine ⟨_, rfl, _, rfl, _, _, lv, r, rfl, fl, g1, (isM_bd R.2.2 (by omega) (by decide)).mono (by decide), (isM_bd rM (by omega) (by decide)).mono (by decide), _, rfl, ?_⟩
  refine ite2 (fun h => ?_) (fun h => ?_)
  ·have h : lv < r := of_decide_eq_true h
   refine ⟨_, rfl, ?_⟩
   exact ⟨_, rfl, k _ _ lv s01 fl (isM_ups R.2.2 (Nat.le_succ i)) (Rat.le_trans (Rat.le_of_lt h) rle) (rm_of fun l' e' => by rw [e] at e'; cases e'; exact Rat.le_refl)⟩
  ·have h : ¬ lv < r := fun z => h (decide_eq_true z)
   exact ⟨_, rfl, k _ _ r s01 g1 rM rle (rm_of fun l' e' => by rw [e] at e'; cases e'; exact Rat.not_lt.mp h)⟩
noncomputable abbrev s__law_passed : Stmt := top 39
theorem sc__law_passed : FnScope ["_law_house_here", "_law_totals", "_law_x", "_law_y", "_law_kind", "_law_number", "_law_left_here", "_law_amount_here", "_law_share_here", "_law_goes"] ["_law_house_here", "_law_totals", "_law_x", "_law_y", "_law_kind", "_law_number"] (defScope s__law_passed) := scF
theorem ok__law_passed {ca : Ca} (D : DefAt K mg "_law_passed" s__law_passed) (T : Txt K mg ca) (G__law_left : FnAt P w K mg base CX0 5 "_law_left" ["_law_house_here", "_law_totals", "_law_y"] (spLeft)) (G__law_amount : FnAt P w K mg base CX0 4 "_law_amount" ["_law_totals", "_law_x", "_law_left_here", "_law_number"] (spAmt)) (G__law_lowest : FnAt P w K mg base CX0 2 "_law_lowest" ["_law_top", "_law_bottom"] (spLowest2)) (G__law_times : FnAt P w K mg base CX0 3 "_law_times" ["_law_one", "_law_other"] (spTimesW)) (G__law_under : FnAt P w K mg base CX0 1 "_law_under" ["_law_one", "_law_other"] (spUnder)) : FnAt P w K mg base CX0 6 "_law_passed" ["_law_house_here", "_law_totals", "_law_x", "_law_y", "_law_kind", "_law_number"] (spPassed2) := by
 refine D.ok sc__law_passed (fun vs H Q E h => ?_) (fun _ _ _ _ _ _ us hl => match us, hl with | [_, _, _, _, _, _], _ => rfl) (fun f cdv A outer s H vs Q E hr h => ?_)
 ·obtain ⟨ah, pt, ps, t, i, x, y, kd, n, rfl, hA, hx, hy, hxy, k⟩ := h; rfl
 ·obtain ⟨ah, pt, ps, t, i, x, y, kd, n, rfl, hA, hx, hy, hxy, k⟩ := h
  have nd := sc__law_passed.nd
  refine ⟨_, (pss_cons (ps_set (i := 6) nd rfl (Or.inl rfl) (pfn G__law_left hr (pa_cons (pv 0) (pa_cons (pv 1) (pa_cons (pv 3) pa_nil)))))
   (pss_cons (ps_set (i := 7) nd rfl (Or.inl rfl) (pfn G__law_amount hr (pa_cons (pv 1) (pa_cons (pv 2) (pa_cons (pv 6) (pa_cons (pv 5) pa_nil))))))
   (pss_cons (ps_if (PW.pt (pw_and (pt_cmpR op_eq (pv 4) pe_int (nomark _)) (pw_and1 (pt_cmpR op_gt (pixT (pv 7) pe_int) pe_int (nomark _))))) (pss_one (ps_ret (pe_tup (pa_cons pe_str (pa_cons (pv 2) (pa_cons (pv 3) (pa_cons (pv 7) pa_nil))))))) pss_nil)
   (pss_cons (ps_set (i := 8) nd rfl (Or.inl rfl) (pfn G__law_lowest hr (pa_cons (pe_op op_modN (pv 5) pe_int) (pa_cons pe_int pa_nil))))
   (pss_cons (ps_set (i := 9) nd rfl (Or.inl rfl) (pfn G__law_times hr (pa_cons (pe_dget (hu_of hr) (pv 1) (pv 2) (fun _ _ => rfl)) (pa_cons (pv 8) pa_nil))))
   (pss_cons (ps_if (PW.pt (pw_and (pt_cmpR op_eq (pv 4) pe_int (nomark _)) (pw_and1 (PW.pt (pw_or (pt_cmpR op_isN (pv 6) pe_non (nomark _)) (pw_or1 (pt_not (pt_val (pfn G__law_under hr (pa_cons (pv 6) (pa_cons (pv 9) pa_nil))))))))))) (pss_one (ps_ret (pe_tup (pa_cons pe_str (pa_cons (pv 2) (pa_cons (pv 3) (pa_cons (pv 8) pa_nil))))))) pss_nil)
   (pss_cons (ps_if (PW.pt (pw_and (pt_cmpR op_eq (pv 4) pe_int (nomark _)) (pw_and1 (PW.pt (pw_or (pt_cmpR op_isN (pv 6) pe_non (nomark _)) (pw_or1 (pt_not (pt_val (pfn G__law_under hr (pa_cons (pv 6) (pa_cons (pe_dget (hu_of hr) (pv 1) (pv 2) (fun _ _ => rfl)) pa_nil))))))))))) (pss_one (ps_ret (pe_tup (pa_cons pe_str (pa_cons (pv 2) (pa_cons (pv 3) pa_nil)))))) pss_nil)
   (pss_cons (ps_if (PW.pt (pw_and (pt_cmpR op_eq (pv 4) pe_int (nomark _)) (pw_and (pt_cmpR op_notN (pv 6) pe_non (nomark _)) (pw_and1 (pt_not (pt_val (pfn G__law_under hr (pa_cons (pe_dget (hu_of hr) (pv 1) (pv 2) (fun _ _ => rfl)) (pa_cons (pv 6) pa_nil))))))))) (pss_one (ps_ret (pe_tup (pa_cons pe_str (pa_cons (pv 2) (pa_cons (pv 3) pa_nil)))))) pss_nil)
   (pss_cons (ps_if (pt_cmpR op_isN (pv 6) pe_non (nomark _)) (pss_one (ps_ret (pe_tup (pa_cons pe_str (pa_cons (pv 2) (pa_cons (pv 3) (pa_cons (pe_tup (pa_cons pe_int (pa_cons pe_int pa_nil))) pa_nil))))))) pss_nil)
   (pss_one (ps_ret (pe_tup (pa_cons pe_str (pa_cons (pv 2) (pa_cons (pv 3) (pa_cons (pe_tup (pa_cons pe_int (pa_cons pe_int pa_nil))) pa_nil)))))))))))))))), ?_⟩
  have hi := hA.i17
  have ro := hA.ro
  have hM := hA.int.ck ro hx
  have bx := isM_bd hM (by omega) (by decide)
  have q5 := fmod_lt (c := n) (m := 5) (by decide)
  obtain ⟨f0, f1, f2⟩ := fours (n := n.fmod 5) (by omega) (by omega)
  refine ⟨_, rfl, _, rfl, _, rfl, ah, pt, ps, t, i, y, rfl, hA, hy, fun l H1 s1 hl => ?_⟩
  refine ⟨_, rfl, _, rfl, _, rfl, _, rfl, ah, pt, ps, t, i, x, y, l, n, rfl, hA.same s1, hx, hl, fun w H2 r s2 fr rM rle rrm => ?_⟩
  have s02 := s1.trans s2
  have hl2 := hl.same s2
  obtain ⟨c, rfl, hc⟩ := id fr
  refine' by_key0 (fun key => ?go) ?body
  case go =>
   refine ⟨_, rfl, rfl, _, rfl, ?_⟩
   refine ite2 (fun _ => ?_) (fun _ => iteF key)
   refine ⟨_, rfl, c, _, _, _, rfl, rfl, SqT.of hc, rfl, _, _, rfl, rfl, _, rfl, ?_⟩
   refine ite2 (fun h => ?_) (fun _ => key)
   have h : (0 : Int) < r.num := of_decide_eq_true h
   refine ⟨_, rfl, _, rfl, _, rfl, sz (by simp), fun p hp => ?_⟩
   have tp := Same.upd (o := .tup [V.str "move", .str x, .str y, .ref c]) hp
   exact k _ _ (.mv x y r) (s02.trans tp) ⟨p, _, rfl, upd_same, fr.same tp⟩ ⟨hx, hy, hxy, posn h, rle, rM, rrm⟩
  case body =>
   refine ⟨_, rfl, _, _, rfl, rfl, (show (5 : Int) ≠ 0 by decide), n.fmod 5, 4, rfl, by decide, by decide, fun v3 H3 s3 f3 => ?_⟩
   have s03 := s02.trans s3
   have hl3 := hl2.same s3
   obtain ⟨vx, dg, fx⟩ := (hA.to.same s03).get (ck_sub hx)
   have b3 : Bd 4000 (Rat.divInt (n.fmod 5) 4) := ((Bd.share f0 f1 (den76 f2)).1).mono (by decide)
   have gM := isM_part hM f0 f1 f2
   refine ⟨_, rfl, _, rfl, pt, vx, rfl, dg, _, rfl, _, _, t x, _, rfl, fx.rw (bx.mono (by decide)), f3.rw b3, fun v4 H4 s4 f4 => ?_⟩
   generalize Rat.divInt (n.fmod 5) 4 = q at f0 f1 f2 f3 f4 b3 gM
   have s04 := s03.trans s4
   have hl4 := hl3.same s4
   have f34 := f3.same s4
   obtain ⟨vx4, dg4, fx4⟩ := (hA.to.same s04).get (ck_sub hx)
   have bl : ∀ {lv : Rat}, lft ps t y = some lv -> Bd 8000 lv := fun {lv} e => by
    obtain ⟨m, hm, el⟩ := lft_some e
    have R := hA.int.room ro hm
    rw [<- el] at R
    exact (isM_bd R.2.2 (by omega) (by decide)).mono (by decide)
   refine' by_key0 (fun key => ?go) ?body
   case go =>
    refine ⟨_, rfl, rfl, _, rfl, ?_⟩
    refine ite2 (fun _ => ?_) (fun _ => iteF key)
    have ret : (∀ m, rmF ps y = some m -> t y + t x * q <= m) -> ∀ p, H4 p = none -> Q (.ref p) (upd H4 p (.tup [V.str "part", .str x, .str y, v3])) := fun hr p hp => by
     have tp := Same.upd (o := .tup [V.str "part", .str x, .str y, v3]) hp
     exact k _ _ (.pt x y q) (s04.trans tp) ⟨p, _, rfl, upd_same, f34.same tp⟩ ⟨hx, hy, hxy, f0, f1, f2, hr⟩
    refine ⟨_, rfl, rfl, _, rfl, ?_⟩
    refine lf_is hl4 (fun e => iteT ?_) (fun lv e fl => ?_)
    ·exact ⟨_, rfl, _, rfl, _, rfl, sz (by simp), ret (rm_of fun l' e' => by rw [e] at e'; cases e')⟩
    ·refine ⟨_, rfl, _, rfl, _, _, lv, t x * q, rfl, fl, f4, bl e, (isM_bd gM (by omega) (by decide)).mono (by decide), _, rfl, ?_⟩
     refine ite2 (fun h => ?_) (fun _ => key)
     have h : ¬ lv < t x * q := fun z => by
      have h : (!decide (lv < t x * q)) = true := h
      rw [decide_eq_true z] at h; cases h
     exact ⟨_, rfl, _, rfl, _, rfl, sz (by simp), ret (rm_of fun l' e' => by rw [e] at e'; cases e'; exact Rat.not_lt.mp h)⟩
   case body =>
    refine' by_key0 (fun key => ?go) ?body
    case go =>
     refine ⟨_, rfl, rfl, _, rfl, ?_⟩
     refine ite2 (fun _ => ?_) (fun _ => iteF key)
     have ret : (∀ m, rmF ps y = some m -> t y + t x <= m) -> ∀ p, H4 p = none -> Q (.ref p) (upd H4 p (.tup [V.str "all", .str x, .str y])) := fun hr p hp => by
      have tp := Same.upd (o := .tup [V.str "all", .str x, .str y]) hp
      exact k _ _ (.al x y) (s04.trans tp) ⟨p, rfl, upd_same⟩ ⟨hx, hy, hxy, hr⟩
     refine ⟨_, rfl, rfl, _, rfl, ?_⟩
     refine lf_is hl4 (fun e => iteT ?_) (fun lv e fl => ?_)
     ·exact ⟨_, rfl, _, rfl, sz (by simp), ret (rm_of fun l' e' => by rw [e] at e'; cases e')⟩
     ·refine ⟨_, rfl, _, rfl, _, rfl, pt, vx4, rfl, dg4, _, _, lv, t x, rfl, fl, fx4, bl e, bx.mono (by decide), _, rfl, ?_⟩
      refine ite2 (fun h => ?_) (fun _ => key)
      have h : ¬ lv < t x := fun z => by
       have h : (!decide (lv < t x)) = true := h
       rw [decide_eq_true z] at h; cases h
      exact ⟨_, rfl, _, rfl, sz (by simp), ret (rm_of fun l' e' => by rw [e] at e'; cases e'; exact Rat.not_lt.mp h)⟩
    case body =>
     refine' by_key0 (fun key => ?go) ?body
     case go =>
      refine ⟨_, rfl, rfl, _, rfl, ?_⟩
      refine ite2 (fun _ => ?_) (fun _ => iteF key)
      refine ⟨_, rfl, rfl, _, rfl, ?_⟩
      refine lf_not hl4 (fun e => iteF key) (fun lv e fl => ?_)
      refine ⟨_, rfl, _, rfl, pt, vx4, rfl, dg4, _, rfl, _, _, t x, lv, rfl, fx4, fl, bx.mono (by decide), bl e, _, rfl, ?_⟩
      refine ite2 (fun h => ?_) (fun _ => key)
      have h : ¬ t x < lv := fun z => by
       have h : (!decide (t x < lv)) = true := h
       rw [decide_eq_true z] at h; cases h
      obtain ⟨m, hm, el⟩ := lft_some e
      refine ⟨_, rfl, _, rfl, sz (by simp), fun p hp => ?_⟩
      have tp := Same.upd (o := .tup [V.str "fill", .str x, .str y]) hp
      refine k _ _ (.fl x y) (s04.trans tp) ⟨p, rfl, upd_same⟩ ⟨hx, (rmF_mem hm).1, hxy, ?_⟩
      rw [hm]
      show m - t y <= t x
      rw [<- el]; exact Rat.not_lt.mp h
     case body =>
      refine ⟨_, rfl, rfl, _, rfl, ?_⟩
      refine lf_is hl4 (fun e => ?_) (fun lv e fl => ?_)
      ·refine ⟨_, rfl, _, rfl, sz (by simp), fun p hp => ⟨sz (by simp), fun p2 hp2 => ?_⟩⟩
       have tp := Same.upd (o := .tup [.int 1, .int 3]) hp
       have tp2 := Same.upd (o := .tup [V.str "part", .str x, .str y, .ref p]) hp2
       exact k _ _ (.pt x y (Rat.divInt 1 3)) (s04.trans (tp.trans tp2)) ⟨p2, _, rfl, upd_same, (FrV.newOf (r := Rat.divInt 1 3) (by decide +kernel) (by decide +kernel)).same tp2⟩ ⟨hx, hy, hxy, third.1, third.2.1, third.2.2, rm_of fun l' e' => by rw [e] at e'; cases e'⟩
      ·refine ⟨_, rfl, _, rfl, sz (by simp), fun p hp => ⟨sz (by simp), fun p2 hp2 => ?_⟩⟩
       have tp := Same.upd (o := .tup [.int 0, .int 1]) hp
       have tp2 := Same.upd (o := .tup [V.str "part", .str x, .str y, .ref p]) hp2
       refine k _ _ (.pt x y 0) (s04.trans (tp.trans tp2)) ⟨p2, _, rfl, upd_same, (FrV.newOf (r := 0) rfl rfl).same tp2⟩ ⟨hx, hy, hxy, by decide, by decide, by decide, fun m hm => ?_⟩
       rw [Rat.mul_zero, Rat.add_zero]
       exact hA.int.rm y m hm
noncomputable abbrev s__law_deed : Stmt := top 40
theorem sc__law_deed : FnScope ["_law_house_here", "_law_totals", "_law_names_here", "_law_one", "_law_other", "_law_casks", "_law_x", "_law_places", "_law_y", "_law_kind", "_law_amount_here"] ["_law_house_here", "_law_totals", "_law_names_here", "_law_one", "_law_other"] (defScope s__law_deed) := scF
theorem ok__law_deed {ca : Ca} (D : DefAt K mg "_law_deed" s__law_deed) (T : Txt K mg ca) (G__law_mixed : FnAt P w K mg base CX0 1 "_law_mixed" ["_law_cell", "_law_k"] (spMixed2)) (G__law_lowest : FnAt P w K mg base CX0 2 "_law_lowest" ["_law_top", "_law_bottom"] (spLowest2)) (G__law_under : FnAt P w K mg base CX0 1 "_law_under" ["_law_one", "_law_other"] (spUnder)) (G__law_left : FnAt P w K mg base CX0 5 "_law_left" ["_law_house_here", "_law_totals", "_law_y"] (spLeft)) (G__law_passed : FnAt P w K mg base CX0 6 "_law_passed" ["_law_house_here", "_law_totals", "_law_x", "_law_y", "_law_kind", "_law_number"] (spPassed2)) : FnAt P w K mg base CX0 7 "_law_deed" ["_law_house_here", "_law_totals", "_law_names_here", "_law_one", "_law_other"] (spDeed2) := by
 refine D.ok sc__law_deed (fun vs H Q E h => ?_) (fun _ _ _ _ _ _ us hl => match us, hl with | [_, _, _, _, _], _ => rfl) (fun f cdv A outer s H vs Q E hr h => ?_)
 ·obtain ⟨ah, pt, an, ps, t, i, L, c1, c2, rfl, hA, hN, hk, k⟩ := h; rfl
 ·obtain ⟨ah, pt, an, ps, t, i, L, c1, c2, rfl, hA, hN, hk, k⟩ := h
  have nd := sc__law_deed.nd
  refine ⟨_, (pss_cons (ps_setcomp ["_law_place"] [] [] (i := 5) nd rfl rfl rfl (by rfl) (pi_list' (K := K) rfl (pv 0)) (fun _ _ _ _ => (pg_name (i := 0) (show List.Nodup (["_law_place"] : List Str) from by decide) rfl (Or.inl rfl))) (fun _ _ _ _ => (pif_one (pt_cmpR op_eq (pixT (pv 0) pe_int) pe_str (nomark _)))) (fun _ _ _ _ => (pixT (pv 0) pe_int)))
   (pss_cons (ps_set (i := 6) nd rfl (Or.inr rfl) (pixL (pv 5) (pe_op op_modN (pfn G__law_mixed hr (pa_cons (pv 3) (pa_cons pe_int pa_nil))) (pe_callB (call_len' (K := K) rfl) (by rfl) T.z_len PySem.boot_len (pa_cons (pv 5) pa_nil)))))
   (pss_cons (ps_setcomp ["_law_place"] ["_law_x"] [6] (i := 7) nd rfl rfl rfl (by rfl) (pi_list' (K := K) rfl (pv 0)) (fun _ _ _ _ => (pg_name (i := 0) (show List.Nodup (["_law_place", "_law_x"] : List Str) from by decide) rfl (Or.inl rfl))) (fun _ _ _ _ => (pif_one (pt_cmpR op_ne (pixT (pv 0) pe_int) (pv 1) (nomark _)))) (fun _ _ _ _ => (pixT (pv 0) pe_int)))
   (pss_cons (ps_set (i := 8) nd rfl (Or.inl rfl) (pixL (pv 7) (pe_op op_modN (pfn G__law_mixed hr (pa_cons (pv 4) (pa_cons pe_int pa_nil))) (pe_callB (call_len' (K := K) rfl) (by rfl) T.z_len PySem.boot_len (pa_cons (pv 7) pa_nil)))))
   (pss_cons (ps_set (i := 9) nd rfl (Or.inl rfl) (pe_op op_modN (pfn G__law_mixed hr (pa_cons (pv 3) (pa_cons pe_int pa_nil))) pe_int))
   (pss_cons (ps_if (pt_cmpR op_eq (pv 9) pe_int (nomark _)) (pss_one (ps_ret (pe_tup (pa_cons pe_str pa_nil)))) pss_nil)
   (pss_cons (ps_if (PW.pt (pw_or (pt_cmpR op_eq (pv 9) pe_int (nomark _)) (pw_or (pt_cmpR op_eq (pv 9) pe_int (nomark _)) (pw_or1 (pt_cmpR op_eq (pv 9) pe_int (nomark _)))))) (pss_cons (ps_set (i := 10) nd rfl (Or.inl rfl) (pfn G__law_lowest hr (pa_cons (pe_op op_add pe_int (pe_op op_modN (pv 4) pe_int)) (pa_cons (pe_op op_add pe_int (pe_op op_modN (pe_op op_fdivB (pv 4) pe_int) pe_int)) pa_nil))))
   (pss_cons (ps_if (pt_val (pfn G__law_under hr (pa_cons (pfn G__law_left hr (pa_cons (pv 0) (pa_cons (pv 1) (pa_cons (pv 6) pa_nil)))) (pa_cons (pv 10) pa_nil)))) (pss_one (ps_set (i := 10) nd rfl (Or.inl rfl) (pfn G__law_left hr (pa_cons (pv 0) (pa_cons (pv 1) (pa_cons (pv 6) pa_nil)))))) pss_nil)
   (pss_cons (ps_if (pt_cmpR op_gt (pixT (pv 10) pe_int) pe_int (nomark _)) (pss_one (ps_ret (pe_tup (pa_cons pe_str (pa_cons (pixL (pv 2) (pe_op op_add pe_int (pe_op op_modN (pfn G__law_mixed hr (pa_cons (pv 4) (pa_cons pe_int pa_nil))) pe_int))) (pa_cons (pv 6) (pa_cons (pv 10) pa_nil))))))) pss_nil)
   (pss_one (ps_ret (pe_tup (pa_cons pe_str (pa_cons (pv 6) (pa_cons (pixL (pv 2) pe_int) pa_nil))))))))) pss_nil)
   (pss_one (ps_ret (pfn G__law_passed hr (pa_cons (pv 0) (pa_cons (pv 1) (pa_cons (pv 6) (pa_cons (pv 8) (pa_cons (pv 9) (pa_cons (pfn G__law_mixed hr (pa_cons (pv 4) (pa_cons pe_int pa_nil))) pa_nil)))))))))))))))), ?_⟩
  have hi := hA.i17
  have ro := hA.ro
  obtain ⟨xs, hS', hP, hH, _, h2⟩ := hA.hs
  have hS : SqL K H ah xs := SqL.of hS'
  obtain ⟨hN, L9, nd', lay⟩ := hN
  have hlen : xs.length = ps.length := hP.length
  have h8 := hH.len
  have ckm : ((ckN ps).map V.str).length = (ckN ps).length := List.length_map ..
  have hckp : 0 < ((((ckN ps).map V.str).length : Nat) : Int) := by rw [ckm]; omega
  refine ⟨_, rfl, ah, rfl, ⟨_, hS⟩, fun D hD => ?_⟩
  refine block_list (xs := xs) (fun j σ' H' => ∃ (v : Option V), σ' = [v] /\ Same H H' /\ H' D = some (.lst ((ckN (ps.take j)).map V.str))) ⟨none, rfl, Same.upd hD, upd_same⟩ ?_ ?_ ?_
  ·rintro j σ' H' hj ⟨v, rfl, s2, hd⟩
   exact s2.seq hS
  ·rintro j y σ' H' hy ⟨v, rfl, s2, hd⟩
   obtain ⟨p, hp, pv⟩ := paired_get hP hy
   obtain ⟨b, ys, rfl, hb, e0, e1⟩ := pv.at
   refine ⟨_, rfl, b, _, _, _, rfl, rfl, SqT.of (s2 _ _ hb), e0, rfl, _, rfl, ?_⟩
   cases hc : isC p with
   | true =>
    refine dec_true rfl ?_
    refine ⟨_, rfl, b, _, _, _, rfl, rfl, SqT.of (s2 _ _ hb), e1, _, hd, ?_, _, rfl, s2.updD hD, ?_⟩
    ·have h1 := ck_len (ps := ps.take j)
     rw [List.length_take] at h1
     rw [List.length_map]
     exact sz (by omega)
    ·unfold ckN
     rw [upd_same, take_one hp, List.filter_append, List.map_append, List.map_append]
     simp [hc]
   | false =>
    refine dec_false (by decide +kernel) ?_
    refine ⟨_, rfl, s2, ?_⟩
    rw [hd]
    unfold ckN
    rw [take_one hp, List.filter_append]
    simp [hc]
  rintro σ' H1 ⟨v, rfl, s1, hC⟩
  rw [hlen, List.take_length] at hC
  refine ⟨_, rfl, _, rfl, c1, 0, rfl, ⟨by decide, by decide⟩, fun m1 Ha a0 a1 sa => ⟨_, rfl, _, _, rfl, .inl ⟨_, SqL.of (sa _ _ hC), rfl⟩, _, _, rfl, rfl, Int.ne_of_gt hckp, ?_⟩⟩
  have qx := fmod_lt (c := m1) (m := ((((ckN ps).map V.str).length : Nat) : Int)) hckp
  obtain ⟨x, hx, hatx⟩ := str_at (zs := ckN ps) qx.1 (by have := qx.2; rw [ckm] at this ⊢; exact this)
  refine ⟨D, _, _, _, rfl, rfl, SqL.of (sa _ _ hC), hatx, ?_⟩
  have s0a := s1.trans sa
  refine ⟨_, rfl, ah, rfl, ⟨_, s0a.seq hS⟩, fun D2 hD2 => ?_⟩
  refine block_list (xs := xs) (fun j σ' H' => ∃ (v : Option V), σ' = [v, some (.str x)] /\ Same Ha H' /\ H' D2 = some (.lst (((allN (ps.take j)).filter fun z => decide (z ≠ x)).map V.str))) ⟨none, rfl, Same.upd hD2, upd_same⟩ ?_ ?_ ?_
  ·rintro j σ' H' hj ⟨v, rfl, s2, hd⟩
   exact s2.seq (s0a.seq hS)
  ·rintro j y σ' H' hy ⟨v, rfl, s2, hd⟩
   obtain ⟨p, hp, pv⟩ := paired_get hP hy
   obtain ⟨b, ys, rfl, hb, e0, e1⟩ := pv.at
   have hb2 := (s0a.trans s2) _ _ hb
   have ea : allN (ps.take (j + 1)) = allN (ps.take j) ++ [nmP p] := by unfold allN; rw [take_one hp, List.map_append]; rfl
   refine ⟨_, rfl, b, _, _, _, rfl, rfl, SqT.of hb2, e1, _, rfl, rfl, _, rfl, ?_⟩
   by_cases e : nmP p = x
   ·have d1 : (!decide (V.str (nmP p) = V.str x)) = false := by rw [e]; simp
    rw [d1]
    refine iteF ?_
    refine ⟨_, rfl, s2, ?_⟩
    rw [hd, ea, List.filter_append]
    simp [e]
   ·have d1 : (!decide (V.str (nmP p) = V.str x)) = true := by rw [decide_eq_false fun z => e (V.str.inj z)]; rfl
    rw [d1]
    refine iteT ?_
    refine ⟨_, rfl, b, _, _, _, rfl, rfl, SqT.of hb2, e1, _, hd, ?_, _, rfl, s2.updD hD2, ?_⟩
    ·rw [List.length_map]
     have h1 := List.length_filter_le (fun z => decide (z ≠ x)) (allN (ps.take j))
     unfold allN at h1
     rw [List.length_map, List.length_take] at h1
     unfold allN
     exact sz (by omega)
    ·rw [upd_same, ea, List.filter_append, List.map_append]
     simp [e]
  rintro σ' H2 ⟨v, rfl, s2, hPl⟩
  rw [hlen, List.take_length] at hPl
  have s02 := s0a.trans s2
  let pl : List Str := (allN ps).filter fun z => decide (z ≠ x)
  have hPl : H2 D2 = some (.lst (pl.map V.str)) := hPl
  have plm : (pl.map V.str).length = pl.length := List.length_map ..
  have pl1 : 0 < pl.length := by
   obtain ⟨z, hz, hzx⟩ : ∃ z ∈ ckN ps, z ≠ x := by
    have ndc := hH.ck
    match hq : ckN ps, h2, ndc with
    | z1 :: z2 :: r, _, ndc =>
     rw [List.nodup_cons] at ndc
     by_cases e : z1 = x
     ·exact ⟨z2, by simp, fun e2 => ndc.1 (by rw [e, <- e2]; simp)⟩
     ·exact ⟨z1, by simp, e⟩
   exact List.length_pos_of_mem (List.mem_filter.mpr ⟨ck_sub hz, decide_eq_true hzx⟩)
  have hplp : 0 < (((pl.map V.str).length : Nat) : Int) := by rw [plm]; omega
  refine ⟨_, rfl, _, rfl, c2, 0, rfl, ⟨by decide, by decide⟩, fun m2 Hb b0 b1 sb => ⟨_, rfl, _, _, rfl, .inl ⟨_, SqL.of (sb _ _ hPl), rfl⟩, _, _, rfl, rfl, Int.ne_of_gt hplp, ?_⟩⟩
  have qy := fmod_lt (c := m2) (m := (((pl.map V.str).length : Nat) : Int)) hplp
  obtain ⟨y, hy, haty⟩ := str_at (zs := pl) qy.1 (by have := qy.2; rw [plm] at this ⊢; exact this)
  have hyA : y ∈ allN ps := (List.mem_filter.mp hy).1
  have hxy : x ≠ y := fun e => (of_decide_eq_true (List.mem_filter.mp hy).2) e.symm
  refine ⟨D2, _, _, _, rfl, rfl, SqL.of (sb _ _ hPl), haty, ?_⟩
  refine ⟨_, rfl, c1, 1, rfl, ⟨by decide, by decide⟩, fun m3 Hc c0 c1' sc => ⟨_, _, rfl, rfl, (show (9 : Int) ≠ 0 by decide), ?_⟩⟩
  have s0c := s02.trans (sb.trans sc)
  refine ⟨_, rfl, rfl, _, rfl, ?_⟩
  refine ite2 (fun _ => ?_) (fun _ => ?_)
  ·refine ⟨sz (by simp), fun p hp => ?_⟩
   have tp := Same.upd (o := .tup [V.str "year"]) hp
   exact k _ _ .yr (s0c.trans tp) ⟨p, rfl, upd_same⟩ trivial
  refine' by_key0 (fun key => ?go) ?body
  case go =>
   refine' by_key0 (fun key2 => ?go2) ?body2
   case go2 =>
    refine ⟨_, rfl, rfl, _, rfl, ?_⟩
    refine ite2 (fun _ => iteT key2) (fun _ => ?_)
    refine ⟨_, rfl, rfl, _, rfl, ?_⟩
    refine ite2 (fun _ => iteT key2) (fun _ => ?_)
    refine ⟨_, rfl, rfl, _, rfl, ?_⟩
    exact ite2 (fun _ => key2) (fun _ => key)
   case body2 =>
    have q40 := fmod_lt (c := c2) (m := 40) (by decide)
    have q3 := fmod_lt (c := c2.fdiv 40) (m := 3) (by decide)
    refine ⟨_, rfl, _, _, rfl, rfl, (show (40 : Int) ≠ 0 by decide), _, _, rfl, rfl, _, rfl, _, _, rfl, rfl, ddv (by decide) (by decide), _, _, rfl, rfl, (show (3 : Int) ≠ 0 by decide), _, _, rfl, rfl, 1 + c2.fmod 40, 1 + (c2.fdiv 40).fmod 3, rfl, by omega, Nat.lt_of_le_of_lt (m := 10) (by omega) (by decide), fun v3 H3 s3 f3 => ?_⟩
    have s03 := s0c.trans s3
    have z6 : IsM 6 119 (Rat.divInt (1 + c2.fmod 40) (1 + (c2.fdiv 40).fmod 3)) := by
     refine isM6 (by omega) (show _ <= (119 : Int) by omega) (by omega) ?_
     have : (c2.fdiv 40).fmod 3 = 0 \/ (c2.fdiv 40).fmod 3 = 1 \/ (c2.fdiv 40).fmod 3 = 2 := by omega
     rcases this with e | e | e <;> rw [e] <;> decide
    have z3 : IsM (Pw i) 119 (Rat.divInt (1 + c2.fmod 40) (1 + (c2.fdiv 40).fmod 3)) := isM_ups (i := 0) z6 (Nat.zero_le i)
    generalize Rat.divInt (1 + c2.fmod 40) (1 + (c2.fdiv 40).fmod 3) = r at f3 z3
    obtain ⟨m, hm⟩ := rmF_some hx
    have R := hA.int.room ro hm
    have e1 : lft ps t x = some (m - t x) := by unfold lft; rw [hm]; rfl
    refine ⟨_, rfl, _, rfl, _, rfl, ah, pt, ps, t, i, x, rfl, hA.same s03, ck_sub hx, fun v4 H4 s4 h4 => ?_⟩
    rw [e1] at h4
    have h4 : FrV H4 v4 (m - t x) := h4
    have s04 := s03.trans s4
    refine ⟨_, rfl, _, _, m - t x, r, rfl, h4, f3.same s4, (isM_bd R.2.2 (by omega) (by decide)).mono (by decide), (isM_bd z3 (by omega) (by decide)).mono (by decide), _, rfl, ?_⟩
    refine' by_key2 (C := fun (c : Addr) (Hy : Hp) => Same H Hy /\ ∃ g, FrV Hy (.ref c) g /\ IsM (Pw i) 119 g /\ t x + g <= m) (fun key3 => ?go3) ?body3
    case go3 =>
     refine ite2 (fun h => ?_) (fun h => ?_)
     ·refine ⟨_, rfl, _, rfl, _, rfl, ah, pt, ps, t, i, x, rfl, hA.same s04, ck_sub hx, fun v5 H5 s5 h5 => ?_⟩
      rw [e1] at h5
      have h5 : FrV H5 v5 (m - t x) := h5
      obtain ⟨c, rfl, hc⟩ := id h5
      exact key3 c H5 ⟨s04.trans s5, _, h5, R.2.2, by grind⟩
     ·have h : ¬ m - t x < r := fun z => h (decide_eq_true z)
      obtain ⟨c, rfl, hc⟩ := id f3
      exact key3 c H4 ⟨s04, _, f3.same s4, z3, by grind⟩
    case body3 =>
     rintro c Hy ⟨sy, g, fg, gM, grm⟩
     obtain ⟨c', ec, hc⟩ := id fg
     have ec : c = c' := V.ref.inj ec
     subst ec
     have hNy := sy _ _ hN
     refine ⟨_, rfl, c, _, _, _, rfl, rfl, SqT.of hc, rfl, _, _, rfl, rfl, _, rfl, ?_⟩
     refine ite2 (fun h => ?_) (fun _ => ?_)
     ·have h : (0 : Int) < g.num := of_decide_eq_true h
      refine ⟨_, rfl, _, rfl, c2, 2, rfl, ⟨by decide, by decide⟩, fun m6 H6 d0 d1 s6 => ⟨_, _, rfl, rfl, (show (3 : Int) ≠ 0 by decide), _, _, rfl, rfl, ?_⟩⟩
      have q6 := fmod_lt (c := m6) (m := 3) (by decide)
      obtain ⟨zz, hzz, hatz⟩ := str_at (zs := L) (k := 6 + m6.fmod 3) (by omega) (by omega)
      refine ⟨an, _, _, _, rfl, rfl, SqL.of (s6 _ _ hNy), hatz, _, rfl, _, rfl, sz (by simp), fun p hp => ?_⟩
      have tp := Same.upd (o := .tup [V.str "bring", .str zz, .str x, .ref c]) hp
      refine k _ _ (.br zz x g) (sy.trans (s6.trans tp)) ⟨p, _, rfl, upd_same, (fg.same s6).same tp⟩ ⟨hx, lay _ hzz, posn h, gM, fun m' hm' => ?_⟩
      rw [hm] at hm'; cases hm'; exact grm
     ·obtain ⟨z4, h4'⟩ : ∃ z, L[4]? = some z := ⟨_, List.getElem?_eq_getElem (by omega)⟩
      have at4 : atI (L.map V.str) 4 = some (.str z4) := atI_nat (j := 4) (by rw [List.getElem?_map, h4']; rfl)
      obtain ⟨g1, g2⟩ := hk z4 h4'
      refine ⟨_, rfl, _, rfl, an, _, _, _, rfl, rfl, SqL.of hNy, at4, sz (by simp), fun p hp => ?_⟩
      have tp := Same.upd (o := .tup [V.str "all", .str x, .str z4]) hp
      refine k _ _ (.al x z4) (sy.trans tp) ⟨p, rfl, upd_same⟩ ⟨hx, g1, fun e => g2 (e ▸ hx), fun m' hm' => absurd (rmF_mem hm').1 g2⟩
  case body =>
   refine ⟨_, rfl, _, rfl, _, rfl, _, rfl, _, rfl, _, rfl, c2, 1, rfl, ⟨by decide, by decide⟩, fun m7 H7 e0 e1 s7 => ?_⟩
   exact ⟨ah, pt, ps, t, i, x, y, _, m7, rfl, hA.same (s0c.trans s7), hx, hyA, hxy, fun w H' d s' => k w H' d ((s0c.trans s7).trans s')⟩
noncomputable abbrev s__law_share : Stmt := top 41
theorem sc__law_share : FnScope ["_law_house_here", "_law_totals", "_law_deed_here", "_law_amount_here"] ["_law_house_here", "_law_totals", "_law_deed_here"] (defScope s__law_share) := scF
theorem ok__law_share {ca : Ca} (D : DefAt K mg "_law_share" s__law_share) (T : Txt K mg ca) (G__law_left : FnAt P w K mg base CX0 5 "_law_left" ["_law_house_here", "_law_totals", "_law_y"] (spLeft)) (G__law_lowest : FnAt P w K mg base CX0 2 "_law_lowest" ["_law_top", "_law_bottom"] (spLowest2)) : FnAt P w K mg base CX0 6 "_law_share" ["_law_house_here", "_law_totals", "_law_deed_here"] (spShare2) := by
 refine D.ok sc__law_share (fun vs H Q E h => ?_) (fun _ _ _ _ _ _ us hl => match us, hl with | [_, _, _], _ => rfl) (fun f cdv A outer s H vs Q E hr h => ?_)
 ·obtain ⟨ah, pt, ps, t, i, dv, d, rfl, hA, hd, ok, hp, k⟩ := h; rfl
 ·obtain ⟨ah, pt, ps, t, i, dv, d, rfl, hA, hd, ok, hp, k⟩ := h
  have nd := sc__law_share.nd
  refine ⟨_, (pss_cons (ps_if (pt_cmpR op_eq (pixT (pv 2) pe_int) pe_str (nomark _)) (pss_one (ps_ret (pixT (pv 2) pe_int))) pss_nil)
   (pss_cons (ps_if (pt_cmpR op_eq (pixT (pv 2) pe_int) pe_str (nomark _)) (pss_one (ps_ret (pe_tup (pa_cons pe_int (pa_cons pe_int pa_nil))))) pss_nil)
   (pss_cons (ps_set (i := 3) nd rfl (Or.inl rfl) (pixT (pv 2) (pe_un un_neg pe_int)))
   (pss_cons (ps_if (pt_cmpR op_eq (pixT (pv 2) pe_int) pe_str (nomark _)) (pss_one (ps_set (i := 3) nd rfl (Or.inl rfl) (pfn G__law_left hr (pa_cons (pv 0) (pa_cons (pv 1) (pa_cons (pixT (pv 2) pe_int) pa_nil)))))) pss_nil)
   (pss_cons (ps_if (pt_cmpR op_eq (pixT (pv 3) pe_int) pe_int (nomark _)) (pss_one (ps_ret (pe_tup (pa_cons pe_int (pa_cons pe_int pa_nil))))) pss_nil)
   (pss_one (ps_ret (pfn G__law_lowest hr (pa_cons (pe_op op_mulB (pixT (pv 3) pe_int) (pixT (pe_dget (hu_of hr) (pv 1) (pixT (pv 2) pe_int) (fun _ _ => rfl)) pe_int)) (pa_cons (pe_op op_mulB (pixT (pv 3) pe_int) (pixT (pe_dget (hu_of hr) (pv 1) (pixT (pv 2) pe_int) (fun _ _ => rfl)) pe_int)) pa_nil)))))))))), ?_⟩
  have hi := hA.i17
  have ro := hA.ro
  cases d with
  | br z x r => cases hp
  | yr => cases hp
  | pt x y q =>
   obtain ⟨a, f, rfl, ha, hf⟩ := hd
   refine ⟨_, rfl, a, _, _, _, rfl, rfl, SqT.of ha, rfl, rfl, _, rfl, ?_⟩
   refine dec_true rfl ?_
   exact ⟨_, rfl, a, _, _, _, rfl, rfl, SqT.of ha, rfl, k _ _ (Same.refl _) hf⟩
  | al x y =>
   obtain ⟨a, rfl, ha⟩ := hd
   refine ⟨_, rfl, a, _, _, _, rfl, rfl, SqT.of ha, rfl, rfl, _, rfl, ?_⟩
   refine dec_false (by decide +kernel) ?_
   refine ⟨_, rfl, a, _, _, _, rfl, rfl, SqT.of ha, rfl, rfl, _, rfl, ?_⟩
   refine dec_true rfl ?_
   exact ⟨sz (by simp), fun p hp => k _ _ (Same.upd hp) (FrV.newOf (r := 1) rfl rfl)⟩
  | fl x y =>
   obtain ⟨a, rfl, ha⟩ := hd
   obtain ⟨hx, hy, hxy, hle⟩ := ok
   obtain ⟨m, hm⟩ := rmF_some hy
   have R := hA.int.room ro hm
   have hM := hA.int.ck ro hx
   rw [hm] at hle
   have hle : m - t y <= t x := hle
   have k : ∀ v H', Same H H' -> FrV H' v (((rmF ps y).getD 0 - t y) / t x) -> Q v H' := k
   rw [hm] at k
   have k : ∀ v H', Same H H' -> FrV H' v ((m - t y) / t x) -> Q v H' := k
   refine ⟨_, rfl, a, _, _, _, rfl, rfl, SqT.of ha, rfl, rfl, _, rfl, ?_⟩
   refine dec_false (by decide +kernel) ?_
   refine ⟨_, rfl, a, _, _, _, rfl, rfl, SqT.of ha, rfl, rfl, _, rfl, ?_⟩
   refine dec_false (by decide +kernel) ?_
   refine ⟨_, rfl, 1, rfl, a, _, _, _, rfl, rfl, SqT.of ha, rfl, ?_⟩
   refine ⟨_, rfl, a, _, _, _, rfl, rfl, SqT.of ha, rfl, rfl, _, rfl, ?_⟩
   refine dec_true rfl ?_
   refine ⟨_, rfl, _, rfl, _, rfl, a, _, _, _, rfl, rfl, SqT.of ha, rfl, ah, pt, ps, t, i, y, rfl, hA, ck_sub hy, fun v1 H1 s1 h1 => ?_⟩
   have e1 : lft ps t y = some (m - t y) := by unfold lft; rw [hm]; rfl
   rw [e1] at h1
   have h1 : FrV H1 v1 (m - t y) := h1
   have gM := R.2.2
   generalize m - t y = g at h1 gM k hle
   obtain ⟨c, rfl, hc⟩ := id h1
   refine ⟨_, rfl, c, _, _, _, rfl, rfl, SqT.of hc, rfl, rfl, _, rfl, ?_⟩
   refine ite2 (fun h => ?_) (fun h => ?_)
   ·have h : g.num = 0 := V.int.inj (of_decide_eq_true h)
    have h : g = 0 := Rat.num_eq_zero.mp h
    refine ⟨sz (by simp), fun p hp => k _ _ (s1.trans (Same.upd hp)) ?_⟩
    have e0 : g / t x = 0 := by rw [h, Rat.div_def, Rat.zero_mul]
    rw [e0]; exact FrV.newOf (r := 0) rfl rfl
   ·have h : g ≠ 0 := fun z => h (decide_eq_true (by rw [z]; rfl))
    have g0 : 0 < g := pos_of gM.1 h
    have x0 : 0 < t x := lt_le g0 hle
    have xn : 0 < (t x).num := npos x0
    have bg := isM_bd gM (by omega) (by decide)
    have bx := isM_bd hM (by omega) (by decide)
    obtain ⟨vx, dg, fx⟩ := (hA.to.same s1).get (ck_sub hx)
    obtain ⟨cx, rfl, hcx⟩ := fx
    have ha1 := s1 _ _ ha
    have gd := rat_den_pos g
    refine ⟨_, rfl, c, _, _, _, rfl, rfl, SqT.of hc, rfl, _, rfl, _, rfl, a, _, _, _, rfl, rfl, SqT.of ha1, rfl, pt, _, rfl, dg, cx, _, _, _, rfl, rfl, SqT.of hcx, rfl, _, _, rfl, rfl, mulOk_of 100 bg.num bx.den (by decide), _, rfl, c, _, _, _, rfl, rfl, SqT.of hc, rfl, _, rfl, _, rfl, a, _, _, _, rfl, rfl, SqT.of ha1, rfl, pt, _, rfl, dg, cx, _, _, _, rfl, rfl, SqT.of hcx, rfl, _, _, rfl, rfl, mulOk_of 100 bg.den bx.num (by decide), _, _, rfl, Int.mul_pos gd xn, ?_, fun v5 H5 s5 f5 => k _ _ (s1.trans s5) ?_⟩
    ·have n1 : ((g.den : Int)).natAbs < 2 ^ 100 := bg.den
     exact Nat.lt_of_lt_of_le (natAbs_mul_lt n1 bx.num) (pow_le (by decide))
    ·rw [div_eq _ _ (by omega)] at f5; exact f5
  | mv x y r =>
   obtain ⟨a, f, rfl, ha, hf⟩ := hd
   obtain ⟨hx, hy, hxy, g0, hle, gM, _⟩ := ok
   have hM := hA.int.ck ro hx
   have k : ∀ v H', Same H H' -> FrV H' v (r / t x) -> Q v H' := k
   refine ⟨_, rfl, a, _, _, _, rfl, rfl, SqT.of ha, rfl, rfl, _, rfl, ?_⟩
   refine dec_false (by decide +kernel) ?_
   refine ⟨_, rfl, a, _, _, _, rfl, rfl, SqT.of ha, rfl, rfl, _, rfl, ?_⟩
   refine dec_false (by decide +kernel) ?_
   refine ⟨_, rfl, 1, rfl, a, _, _, _, rfl, rfl, SqT.of ha, rfl, ?_⟩
   refine ⟨_, rfl, a, _, _, _, rfl, rfl, SqT.of ha, rfl, rfl, _, rfl, ?_⟩
   refine dec_false (by decide +kernel) ?_
   obtain ⟨c, rfl, hc⟩ := id hf
   have rn : 0 < r.num := npos g0
   refine ⟨_, rfl, c, _, _, _, rfl, rfl, SqT.of hc, rfl, rfl, _, rfl, ?_⟩
   refine dec_false (fun z => by have := V.int.inj z; omega) ?_
   have x0 : 0 < t x := lt_le g0 hle
   have xn : 0 < (t x).num := npos x0
   have bg := isM_bd gM (by omega) (by decide)
   have bx := isM_bd hM (by omega) (by decide)
   obtain ⟨vx, dg, fx⟩ := hA.to.get (ck_sub hx)
   obtain ⟨cx, rfl, hcx⟩ := fx
   have gd := rat_den_pos r
   refine ⟨_, rfl, c, _, _, _, rfl, rfl, SqT.of hc, rfl, _, rfl, _, rfl, a, _, _, _, rfl, rfl, SqT.of ha, rfl, pt, _, rfl, dg, cx, _, _, _, rfl, rfl, SqT.of hcx, rfl, _, _, rfl, rfl, mulOk_of 100 bg.num bx.den (by decide), _, rfl, c, _, _, _, rfl, rfl, SqT.of hc, rfl, _, rfl, _, rfl, a, _, _, _, rfl, rfl, SqT.of ha, rfl, pt, _, rfl, dg, cx, _, _, _, rfl, rfl, SqT.of hcx, rfl, _, _, rfl, rfl, mulOk_of 100 bg.den bx.num (by decide), _, _, rfl, Int.mul_pos gd xn, ?_, fun v5 H5 s5 f5 => k _ _ s5 ?_⟩
   ·have n1 : ((r.den : Int)).natAbs < 2 ^ 100 := bg.den
    exact Nat.lt_of_lt_of_le (natAbs_mul_lt n1 bx.num) (pow_le (by decide))
   ·rw [div_eq _ _ (by omega)] at f5; exact f5
noncomputable abbrev s__law_step : Stmt := top 42
theorem sc__law_step : FnScope ["_law_house_here", "_law_totals", "_law_year", "_law_deed_here", "_law_share_here", "_law_goes"] ["_law_house_here", "_law_totals", "_law_year", "_law_deed_here"] (defScope s__law_step) := scF
theorem ok__law_step {ca : Ca} (D : DefAt K mg "_law_step" s__law_step) (T : Txt K mg ca) (G__law_plus : FnAt P w K mg base CX0 3 "_law_plus" ["_law_one", "_law_other"] (sp2 4000 (· + ·))) (G__law_share : FnAt P w K mg base CX0 6 "_law_share" ["_law_house_here", "_law_totals", "_law_deed_here"] (spShare2)) (G__law_times : FnAt P w K mg base CX0 3 "_law_times" ["_law_one", "_law_other"] (spTimesW)) (G__law_minus : FnAt P w K mg base CX0 4 "_law_minus" ["_law_one", "_law_other"] (sp2 4000 (· - ·))) : FnAt P w K mg base CX0 7 "_law_step" ["_law_house_here", "_law_totals", "_law_year", "_law_deed_here"] (spStep2) := by
 refine D.ok sc__law_step (fun vs H Q E h => ?_) (fun _ _ _ _ _ _ us hl => match us, hl with | [_, _, _, _], _ => rfl) (fun f cdv A outer s H vs Q E hr h => ?_)
 ·obtain ⟨ah, pt, ps, t, i, n, dv, d, rfl, hA, hd, ok, hn, k⟩ := h; rfl
 ·obtain ⟨ah, pt, ps, t, i, n, dv, d, rfl, hA, hd, ok, hn, k⟩ := h
  have nd := sc__law_step.nd
  refine ⟨_, (pss_cons (ps_if (pt_cmpR op_eq (pixT (pv 3) pe_int) pe_str (nomark _)) (pss_cons (ps_dput (hu_of hr) (pv 1) (pixT (pv 3) pe_int) (pfn G__law_plus hr (pa_cons (pe_dget (hu_of hr) (pv 1) (pixT (pv 3) pe_int) (fun _ _ => rfl)) (pa_cons (pixT (pv 3) pe_int) pa_nil))) rfl)
   (pss_one (ps_ret (pe_tup (pa_cons pe_str (pa_cons (pe_tup (pa_cons (pixT (pv 3) pe_int) (pa_cons (pv 2) pa_nil))) (pa_cons (pixT (pv 3) pe_int) (pa_cons (pixT (pv 3) pe_int) pa_nil)))))))) pss_nil)
   (pss_cons (ps_set (i := 4) nd rfl (Or.inl rfl) (pfn G__law_share hr (pa_cons (pv 0) (pa_cons (pv 1) (pa_cons (pv 3) pa_nil)))))
   (pss_cons (ps_set (i := 5) nd rfl (Or.inl rfl) (pfn G__law_times hr (pa_cons (pe_dget (hu_of hr) (pv 1) (pixT (pv 3) pe_int) (fun _ _ => rfl)) (pa_cons (pv 4) pa_nil))))
   (pss_cons (ps_dput (hu_of hr) (pv 1) (pixT (pv 3) pe_int) (pfn G__law_minus hr (pa_cons (pe_dget (hu_of hr) (pv 1) (pixT (pv 3) pe_int) (fun _ _ => rfl)) (pa_cons (pv 5) pa_nil))) rfl)
   (pss_cons (ps_dput (hu_of hr) (pv 1) (pixT (pv 3) pe_int) (pfn G__law_plus hr (pa_cons (pe_dget (hu_of hr) (pv 1) (pixT (pv 3) pe_int) (fun _ _ => rfl)) (pa_cons (pv 5) pa_nil))) rfl)
   (pss_one (ps_ret (pe_tup (pa_cons pe_str (pa_cons (pixT (pv 3) pe_int) (pa_cons (pixT (pv 3) pe_int) (pa_cons (pv 4) pa_nil)))))))))))), ?_⟩
  have hi := hA.i17
  have ro := hA.ro
  obtain ⟨xs, hS, hP, hH, _, _⟩ := hA.hs
  obtain ⟨kv, ht, row⟩ := hA.to
  have l8 : kv.length <= 8 := by
   have h1 := row.lenO fun z hz => all_sub hz
   unfold allN at h1
   rw [List.length_map] at h1
   have := hH.len
   omega
  have bz' : ∀ z ∈ allN ps, Bd 100 (t z) := fun z hz => isM_bd (hA.int.sz z hz) (by omega) (by omega)
  have bz : ∀ z ∈ allN ps, Bd 4000 (t z) := fun z hz => (bz' z hz).mono (by decide)
  have get : ∀ {H1 : Hp} {kv1 : List (Key × V)} {t1 : Str -> Rat}, H1 pt = some (.dK kv1) -> RowAt H1 kv1 (all (allN ps) t1) -> ∀ {z : Str}, z ∈ allN ps -> ∃ v, DGet H1 pt (.str z) (some v) /\ FrV H1 v (t1 z) := fun {H1 kv1 t1} h1 r1 {z} hz => ToV.get ⟨_, h1, r1⟩ hz
  by_cases hb : isP d = true
  case neg =>
   cases d with
   | yr => exact absurd rfl hn
   | pt x y q => exact absurd rfl hb
   | al x y => exact absurd rfl hb
   | fl x y => exact absurd rfl hb
   | mv x y r => exact absurd rfl hb
   | br z x r =>
    obtain ⟨a, f, rfl, ha, hf⟩ := hd
    obtain ⟨hx, hz, h0, hM, hm⟩ := ok
    have hxa := ck_sub hx
    obtain ⟨u, dg, fu⟩ := get ht row hxa
    refine ⟨_, rfl, a, _, _, _, rfl, rfl, SqT.of ha, rfl, rfl, _, rfl, ?_⟩
    refine dec_true rfl ?_
    refine ⟨_, rfl, _, rfl, a, _, _, _, rfl, rfl, SqT.of ha, rfl, pt, u, rfl, dg, _, rfl, a, _, _, _, rfl, rfl, SqT.of ha, rfl, _, _, t x, r, rfl, fu, hf, bz x hxa, (isM_bd hM (by omega) (by decide)).mono (by decide), fun v1 H1 s1 f1 => ?_⟩
    have ht1 := s1 _ _ ht
    refine ⟨_, rfl, _, rfl, a, _, _, _, rfl, rfl, SqT.of (s1 _ _ ha), rfl, pt, upd H1 pt (.dK (putK kv (.inr x) v1)), rfl, DPut.k (k := .inr x) ht1 (sz (by omega)), ?_⟩
    have tu := tup_of (o := .dK (putK kv (.inr x) v1)) ht1 (fun _ z => nomatch z)
    have r1 := ((row.same fun _ _ g => g.same s1).put (z := x) f1).same fun v r g => g.tup tu
    rw [all_put hxa] at r1
    have ha2 := tu _ _ (s1 _ _ ha)
    have hf2 := (hf.same s1).tup tu
    have ht2 := upd_same (H := H1) (a := pt) (o := .dK (putK kv (.inr x) v1))
    have fr2 : ∀ c o, H c = some o -> c ≠ pt -> upd H1 pt (.dK (putK kv (.inr x) v1)) c = some o := fun c o e nn => by rw [upd_ne nn]; exact s1 _ _ e
    generalize upd H1 pt (.dK (putK kv (.inr x) v1)) = H2 at *
    refine ⟨_, rfl, a, _, _, _, rfl, rfl, SqT.of ha2, rfl, _, rfl, sz (by simp), fun p1 hp1 => ?_⟩
    have t1 := Same.upd (o := .tup [.str z, .int n]) hp1
    have ha3 := t1 _ _ ha2
    refine ⟨_, rfl, a, _, _, _, rfl, rfl, SqT.of ha3, rfl, _, rfl, a, _, _, _, rfl, rfl, SqT.of ha3, rfl, sz (by simp), fun p2 hp2 => ?_⟩
    have t2 := Same.upd (o := .tup [V.str "bring", .ref p1, .str x, f]) hp2
    have t12 := t1.trans t2
    refine k _ _ (fun c o e nn => t12 _ _ (fr2 c o e nn)) ⟨_, t12 _ _ ht2, r1.same fun _ _ g => g.same t12⟩ ?_
    exact ⟨p2, p1, f, rfl, upd_same, t2 _ _ upd_same, hf2.same t12⟩
  case pos =>
   obtain ⟨a, ys, x, y, rfl, ha, y0, y1, y2, est⟩ := DdV.ps (ps := ps) (t := t) hd hb
   have dok := d_ok hA.int ro hi n hn ok
   rw [est n] at k dok
   generalize hu : shD ps t d = q at k dok
   obtain ⟨⟨hx, hy, hxy, u0, u1, ud⟩, _, inT⟩ := dok
   have bx := bz x hx
   have bq : Bd 80 q := (Bd.share u0 u1 ud).1
   have bm : Bd 180 (t x * q) := (bz' x hx).mul bq
   have hkd : V.str (kdD d) ≠ V.str "bring" := fun e => by
    have := (kd_br.mp e).1
    rw [hb] at this; cases this
   refine ⟨_, rfl, a, _, _, _, rfl, rfl, SqT.of ha, y0, rfl, _, rfl, ?_⟩
   refine dec_false hkd ?_
   refine ⟨_, rfl, _, rfl, _, rfl, ah, pt, ps, t, i, _, d, rfl, hA, hd, ok, hb, fun v0 H0 s0 f0 => ?_⟩
   rw [hu] at f0
   have ha0 := s0 _ _ ha
   have ht0 := s0 _ _ ht
   have row0 := row.same fun _ _ g => g.same s0
   obtain ⟨u, dg, fu⟩ := get ht0 row0 hx
   refine ⟨_, rfl, _, rfl, a, _, _, _, rfl, rfl, SqT.of ha0, y1, pt, u, rfl, dg, _, rfl, _, _, t x, q, rfl, fu.rw bx, f0.rw (bq.mono (by decide)), fun v1 H1 s1 f1 => ?_⟩
   have ht1 := s1 _ _ ht0
   have row1 := row0.same fun _ _ g => g.same s1
   have ha1 := s1 _ _ ha0
   obtain ⟨u1', dg1, fu1⟩ := get ht1 row1 hx
   refine ⟨_, rfl, _, rfl, a, _, _, _, rfl, rfl, SqT.of ha1, y1, pt, u1', rfl, dg1, _, rfl, _, _, t x, t x * q, rfl, fu1, f1, bx, bm.mono (by decide), fun v2 H2 s2 f2 => ?_⟩
   have ht2 := s2 _ _ ht1
   have ha2 := s2 _ _ ha1
   refine ⟨_, rfl, _, rfl, a, _, _, _, rfl, rfl, SqT.of ha2, y1, pt, upd H2 pt (.dK (putK kv (.inr x) v2)), rfl, DPut.k (k := .inr x) ht2 (sz (by omega)), ?_⟩
   have tu3 : ∀ b ys, H2 b = some (.tup ys) -> upd H2 pt (.dK (putK kv (.inr x) v2)) b = some (.tup ys) := tup_of ht2 (fun _ z => nomatch z)
   have row3 := ((row1.same fun _ _ g => g.same s2).put (z := x) f2).same fun v r g => g.tup tu3
   rw [all_put hx] at row3
   have f13 := (f1.same s2).tup tu3
   have f03 := ((f0.same s1).same s2).tup tu3
   have ha3 := tu3 _ _ ha2
   have ht3 := upd_same (H := H2) (a := pt) (o := .dK (putK kv (.inr x) v2))
   have k3 : ∀ c o, H c = some o -> c ≠ pt -> upd H2 pt (.dK (putK kv (.inr x) v2)) c = some o := fun c o e nn => by rw [upd_ne nn]; exact s2 _ _ (s1 _ _ (s0 _ _ e))
   have len3 := length_putK kv (.inr x) v2
   generalize upd H2 pt (.dK (putK kv (.inr x) v2)) = H3 at *
   generalize putK kv (.inr x) v2 = kv3 at *
   obtain ⟨u3, dg3, fu3⟩ := get ht3 row3 hy
   have ey : (if y = x then t x - t x * q else t y) = t y := if_neg fun e => hxy e.symm
   rw [ey] at fu3
   refine ⟨_, rfl, _, rfl, a, _, _, _, rfl, rfl, SqT.of ha3, y2, pt, u3, rfl, dg3, _, rfl, _, _, t y, t x * q, rfl, fu3, f13, bz y hy, bm.mono (by decide), fun v4 H4 s4 f4 => ?_⟩
   have ht4 := s4 _ _ ht3
   refine ⟨_, rfl, _, rfl, a, _, _, _, rfl, rfl, SqT.of (s4 _ _ ha3), y2, pt, upd H4 pt (.dK (putK kv3 (.inr y) v4)), rfl, DPut.k (k := .inr y) ht4 (sz (by omega)), ?_⟩
   have tu5 := tup_of (o := .dK (putK kv3 (.inr y) v4)) ht4 (fun _ z => nomatch z)
   have row5 := ((row3.same fun _ _ g => g.same s4).put (z := y) f4).same fun v r g => g.tup tu5
   rw [all_put hy] at row5
   have ef : (fun z => if z = y then t y + t x * q else if z = x then t x - t x * q else t z) = stT (.ps x y q) t := rfl
   rw [ef] at row5
   have ha5 := tu5 _ _ (s4 _ _ ha3)
   have f05 := (f03.same s4).tup tu5
   have ht5 := upd_same (H := H4) (a := pt) (o := .dK (putK kv3 (.inr y) v4))
   have k5 : ∀ c o, H c = some o -> c ≠ pt -> upd H4 pt (.dK (putK kv3 (.inr y) v4)) c = some o := fun c o e nn => by rw [upd_ne nn]; exact s4 _ _ (k3 c o e nn)
   generalize upd H4 pt (.dK (putK kv3 (.inr y) v4)) = H5 at *
   refine ⟨_, rfl, a, _, _, _, rfl, rfl, SqT.of ha5, y1, _, rfl, a, _, _, _, rfl, rfl, SqT.of ha5, y2, _, rfl, sz (by simp), fun p hp => ?_⟩
   have tp := Same.upd (o := .tup [V.str "pass", .str x, .str y, v0]) hp
   exact k _ _ (fun c o e nn => tp _ _ (k5 c o e nn)) ⟨_, tp _ _ ht5, row5.same fun _ _ g => g.same tp⟩ ⟨p, v0, rfl, upd_same, f05.same tp⟩
noncomputable abbrev s__law_script : Stmt := top 43
theorem sc__law_script : FnScope ["_law_house_here", "_law_totals", "_law_names_here", "_law_year", "_law_cells", "_law_deeds", "_law_steps", "_law_k", "_law_deed_here"] ["_law_house_here", "_law_totals", "_law_names_here", "_law_year", "_law_cells"] (defScope s__law_script) := scF
theorem ok__law_script {ca : Ca} (D : DefAt K mg "_law_script" s__law_script) (T : Txt K mg ca) (G__law_deed : FnAt P w K mg base CX0 7 "_law_deed" ["_law_house_here", "_law_totals", "_law_names_here", "_law_one", "_law_other"] (spDeed2)) (G__law_step : FnAt P w K mg base CX0 7 "_law_step" ["_law_house_here", "_law_totals", "_law_year", "_law_deed_here"] (spStep2)) : FnAt P w K mg base CX0 8 "_law_script" ["_law_house_here", "_law_totals", "_law_names_here", "_law_year", "_law_cells"] (spScript2) := by
 refine D.ok sc__law_script (fun vs H Q E h => ?_) (fun _ _ _ _ _ _ us hl => match us, hl with | [_, _, _, _, _], _ => rfl) (fun f cdv A outer s H vs Q E hr h => ?_)
 ·obtain ⟨ah, pt, an, ac, ps, L, n, ms, rfl, hA, hN, hk, hM, h36, k⟩ := h; rfl
 ·obtain ⟨ah, pt, an, ac, ps, L, n, ms, rfl, hA, hN, hk, hM, h36, k⟩ := h
  have nd := sc__law_script.nd
  refine ⟨_, (pss_cons (ps_set (i := 5) nd rfl (Or.inl rfl) (pe_lst pa_nil))
   (pss_cons (ps_set (i := 6) nd rfl (Or.inl rfl) (pe_lst pa_nil))
   (pss_cons (ps_for PassesOwn.never rfl (pi_range3 (by rfl) T.z_range (pa_cons pe_int (pa_cons (pe_op op_sub (pe_callB (call_len' (K := K) rfl) (by rfl) T.z_len PySem.boot_len (pa_cons (pv 4) pa_nil)) pe_int) (pa_cons pe_int pa_nil)))) (pg_name (i := 7) nd rfl (Or.inl rfl)) (pss_cons (ps_set (i := 8) nd rfl (Or.inl rfl) (pfn G__law_deed hr (pa_cons (pv 0) (pa_cons (pv 1) (pa_cons (pv 2) (pa_cons (pixL (pv 4) (pv 7)) (pa_cons (pixL (pv 4) (pe_op op_add (pv 7) pe_int)) pa_nil)))))))
   (pss_cons (ps_expr (pe_bm PySem.F.plainAttrs_list PySem.F.slot_list_append PySem.F.type_list_append mt_append (pv 5) (pa_cons (pv 8) pa_nil)))
   (pss_one (ps_if (pt_cmpR op_eq (pixT (pv 8) pe_int) pe_str (nomark _)) (pss_one (ps_set (i := 3) nd rfl (Or.inl rfl) (pe_op op_add (pv 3) pe_int))) (pss_one (ps_expr (pe_bm PySem.F.plainAttrs_list PySem.F.slot_list_append PySem.F.type_list_append mt_append (pv 6) (pa_cons (pfn G__law_step hr (pa_cons (pv 0) (pa_cons (pv 1) (pa_cons (pv 3) (pa_cons (pv 8) pa_nil))))) pa_nil)))))))))
   (pss_one (ps_ret (pe_tup (pa_cons (pv 5) (pa_cons (pv 6) (pa_cons (pv 3) pa_nil))))))))), ?_⟩
  have ro := hA.ro
  have hNm := hN
  obtain ⟨hN, L9, nd', lay⟩ := hN
  obtain ⟨hxs, hS, hP, hH, _, h2⟩ := hA.hs
  obtain ⟨kv0, ht0, row0⟩ := hA.to
  have mlen : (ms.map V.int).length = ms.length := List.length_map ..
  refine ⟨sz (by simp), fun pd hpd => ?_⟩
  have td := Same.upd (o := .lst []) hpd
  refine ⟨sz (by simp), fun pS hpS => ?_⟩
  have tS := Same.upd (o := .lst []) hpS
  have tdS := td.trans tS
  have n1 : pd ≠ pS := fun e => by rw [<- e, upd_same] at hpS; cases hpS
  have hpS0 : H pS = none := td.free hpS
  have n2 : pd ≠ pt := (ne_of_none ht0 hpd).symm
  have n3 : pS ≠ pt := (ne_of_none ht0 hpS0).symm
  have hpd0 : upd (upd H pd (.lst [])) pS (.lst []) pd = some (.lst []) := tS _ _ upd_same
  refine ⟨_, rfl, _, _, rfl, .inl ⟨_, SqL.of (tdS _ _ hM), rfl⟩, _, _, rfl, rfl, 0, _, 2, rfl, ⟨by decide, by decide, by rw [mlen]; omega, by rw [mlen]; omega, by decide, by decide⟩, ?_⟩
  refine for_rangeS (fun j σ H2 => ∃ (yr : Int) (v7 v8 : Option V) (ys xs : List V) (ss : List Stp), σ = [some (.ref ah), some (.ref pt), some (.ref an), some (.int yr), some (.ref ac), some (.ref pd), some (.ref pS), v7, v8] /\ (∀ c o, H c = some o -> c ≠ pt -> H2 c = some o) /\ H2 pd = some (.lst ys) /\ ys.length <= j /\ H2 pS = some (.lst xs) /\ Paired (StV H2) xs ss /\ (∀ s ∈ ss, OkS (allN ps) s) /\ (∀ s ∈ ss, OkQ s) /\ ss.length <= j /\ ToV H2 pt ps (tot ss) /\ InT ps (tot ss) j) ⟨n, none, none, [], [], [], rfl, fun c o e _ => tdS _ _ e, hpd0, Nat.le_refl _, upd_same, .nil, (fun _ z => nomatch z), (fun _ z => nomatch z), Nat.le_refl _, hA.to.same tdS, hA.int⟩ ?_ ?_
  ·rintro j σ H2 hj ⟨yr, v7, v8, ys, xs, ss, rfl, fr, hpd2, hyl, hpS2, hP2, hO, hQ, hsl, hT, hI⟩
   have hj2 : 2 * j + 1 < ms.length := by
    have hj : j < rngN 0 ((((ms.map V.int).length : Nat) : Int) - 1) 2 := hj
    unfold rngN at hj
    rw [mlen] at hj
    split at hj <;> omega
   have j17 : j <= 17 := by omega
   have lk : ∀ {c : Addr} {l : List V}, H c = some (.lst l) -> H2 c = some (.lst l) := fun {c l} e => fr _ _ e (ne_of e ht0 (by intro z; cases z))
   have tk : ∀ (c : Addr) (l : List V), H c = some (.tup l) -> H2 c = some (.tup l) := fun c l e => fr _ _ e (ne_of e ht0 (by intro z; cases z))
   have at2 : At H2 ah pt ps (tot ss) j := ⟨hA.hs.keep tk fun _ e => lk e, hT, hI, j17⟩
   have hM2 := lk hM
   obtain ⟨d0, hd0⟩ : ∃ d0, ms[2 * j]? = some d0 := ⟨_, List.getElem?_eq_getElem (by omega)⟩
   obtain ⟨d1, hd1⟩ : ∃ d1, ms[2 * j + 1]? = some d1 := ⟨_, List.getElem?_eq_getElem hj2⟩
   have e0 : atI (ms.map V.int) (0 + (j : Int) * 2) = some (.int d0) := by
    have e : (0 + (j : Int) * 2) = ((2 * j : Nat) : Int) := by omega
    rw [e]
    refine atI_nat ?_
    rw [List.getElem?_map, hd0]; rfl
   have e1 : atI (ms.map V.int) (0 + (j : Int) * 2 + 1) = some (.int d1) := by
    have e : (0 + (j : Int) * 2 + 1) = ((2 * j + 1 : Nat) : Int) := by omega
    rw [e]
    refine atI_nat ?_
    rw [List.getElem?_map, hd1]; rfl
   refine ⟨_, rfl, _, rfl, _, rfl, _, rfl, _, rfl, ac, _, _, _, rfl, rfl, SqL.of hM2, e0, _, rfl, _, rfl, _, _, rfl, rfl, ac, _, _, _, rfl, rfl, SqL.of hM2, e1, ah, pt, an, ps, tot ss, j, L, d0, d1, rfl, at2, ⟨lk hN, L9, nd', lay⟩, hk, fun dw H7 d s7 dv7 ok => ?_⟩
   have hpd7 := s7 _ _ hpd2
   refine ⟨_, rfl, .inl ⟨rfl, _, SqL.of hpd7⟩, _, rfl, pd, _, _, rfl, rfl, hpd7, sz (by omega), ?_⟩
   have tu := tup_of (o := .lst (ys ++ [dw])) hpd7 (fun _ z => nomatch z)
   have at7 := at2.same s7
   have at8 : At (upd H7 pd (.lst (ys ++ [dw]))) ah pt ps (tot ss) j := by
    refine ⟨at7.hs.keep tu fun l e => ?_, ?_, hI, j17⟩
    ·rw [upd_ne fun z => ?_]
     ·exact e
     ·have := s7 _ _ (lk hS)
      rw [z] at this
      exact ne_of_none hS hpd z
    ·obtain ⟨kv, g1, g2⟩ := at7.to
     exact ⟨kv, by rw [upd_ne n2.symm]; exact g1, g2.same fun _ _ f => f.tup tu⟩
   have dv8 := dv7.tup tu
   have fr8 : ∀ c o, H c = some o -> c ≠ pt -> upd H7 pd (.lst (ys ++ [dw])) c = some o := fun c o e nn => by rw [upd_ne (ne_of_none e hpd)]; exact s7 _ _ (fr c o e nn)
   have hpd8 := upd_same (H := H7) (a := pd) (o := .lst (ys ++ [dw]))
   have hpS8 : upd H7 pd (.lst (ys ++ [dw])) pS = some (.lst xs) := by rw [upd_ne n1.symm]; exact s7 _ _ hpS2
   have hP8 : Paired (StV (upd H7 pd (.lst (ys ++ [dw])))) xs ss := Paired.mapP hP2 fun _ _ f => (f.same s7).tup tu
   have hyl8 : (ys ++ [dw]).length <= j + 1 := by
    rw [List.length_append]
    show ys.length + 1 <= j + 1
    omega
   generalize upd H7 pd (.lst (ys ++ [dw])) = H8 at *
   generalize ys ++ [dw] = ys8 at *
   obtain ⟨da, dys, rfl, hda, ed0⟩ := dv8.kd
   refine ⟨_, rfl, da, _, _, _, rfl, rfl, SqT.of hda, ed0, rfl, _, rfl, ?_⟩
   by_cases hyr : d = .yr
   ·refine dec_true (kd_yr.mpr hyr) ?_
    refine ⟨_, rfl, _, _, rfl, rfl, ?_⟩
    exact ⟨_, _, _, ys8, xs, ss, rfl, fr8, hpd8, hyl8, hpS8, hP8, hO, hQ, by omega, at8.to, hI.nx⟩
   ·refine dec_false (fun z => hyr (kd_yr.mp z)) ?_
    have dok := d_ok hI ro j17 yr hyr ok
    obtain ⟨ok1, ok2, ok3⟩ := dok
    have xl : xs.length <= j := by rw [hP8.length]; exact hsl
    refine ⟨_, rfl, .inl ⟨rfl, _, SqL.of hpS8⟩, _, rfl, _, rfl, _, rfl, _, rfl, ah, pt, ps, tot ss, j, yr, _, d, rfl, at8, dv8, ok, hyr, fun v9 H9 k9 to9 st9 => ?_⟩
    have hpS9 := k9 _ _ hpS8 n3
    refine ⟨pS, _, _, rfl, rfl, hpS9, sz (by omega), ?_⟩
    have tu9 := tup_of (o := .lst (xs ++ [v9])) hpS9 (fun _ z => nomatch z)
    obtain ⟨kv8, g8, _⟩ := at8.to
    have tk9 : ∀ (c : Addr) (l : List V), H8 c = some (.tup l) -> H9 c = some (.tup l) := fun c l e => k9 _ _ e (ne_of e g8 (by intro z; cases z))
    rw [<- tot_snoc ok1] at to9 ok3
    refine ⟨_, _, _, ys8, xs ++ [v9], ss ++ [stD ps (tot ss) yr d], rfl, fun c o e nn => by rw [upd_ne (ne_of_none e hpS0)]; exact k9 _ _ (fr8 c o e nn) nn, by rw [upd_ne n1]; exact k9 _ _ hpd8 n2, hyl8, upd_same, ?_, ?_, ?_, ?_, ?_, ok3⟩
    ·exact Paired.snoc (Paired.mapP hP8 fun _ _ f => (f.tup tk9).tup tu9) (st9.tup tu9)
    ·intro s hs
     rcases List.mem_append.mp hs with e | e
     ·exact hO s e
     ·rw [List.mem_singleton.mp e]; exact ok1
    ·intro s hs
     rcases List.mem_append.mp hs with e | e
     ·exact hQ s e
     ·rw [List.mem_singleton.mp e]; exact ok2
    ·rw [List.length_append]
     show ss.length + 1 <= j + 1
     omega
    ·obtain ⟨kv, g1, g2⟩ := to9
     exact ⟨kv, by rw [upd_ne n3.symm]; exact g1, g2.same fun _ _ f => f.tup tu9⟩
  ·rintro σ H2 ⟨yr, v7, v8, ys, xs, ss, rfl, fr, hpd2, hyl, hpS2, hP2, hO, hQ, hsl, hT, hI⟩
   have hr : rngN 0 ((((ms.map V.int).length : Nat) : Int) - 1) 2 <= 18 := by
    unfold rngN
    rw [mlen]
    split <;> omega
   have hsl : ss.length <= rngN 0 ((((ms.map V.int).length : Nat) : Int) - 1) 2 := hsl
   have hI : InT ps (tot ss) (rngN 0 ((((ms.map V.int).length : Nat) : Int) - 1) 2) := hI
   refine ⟨_, rfl, _, rfl, _, rfl, sz (by simp), fun r hr' => ?_⟩
   have tr := Same.upd (o := .tup [.ref pd, .ref pS, .int yr]) hr'
   exact k r pd pS yr _ xs ss (fun c o e nn => tr _ _ (fr c o e nn)) upd_same (tr _ _ hpS2) (steps_same hP2 tr) hO hQ (by omega) (hT.same tr) fun z hz => isM_bd (hI.sz z hz) (by omega) (by omega)
noncomputable abbrev s__law_all : Stmt := top 44
theorem sc__law_all : FnScope ["_law_shares", "_law_found", "_law_share_here"] ["_law_shares"] (defScope s__law_all) := scF
theorem ok__law_all {ca : Ca} (D : DefAt K mg "_law_all" s__law_all) (T : Txt K mg ca) (G__law_plus : FnAt P w K mg base CX0 3 "_law_plus" ["_law_one", "_law_other"] (sp2 4000 (· + ·))) : FnAt P w K mg base CX0 4 "_law_all" ["_law_shares"] (spAllF K) := by
 refine D.ok sc__law_all (fun vs H Q E h => ?_) (fun _ _ _ _ _ _ us hl => match us, hl with | [_], _ => rfl) (fun f cdv A outer s H vs Q E hr h => ?_)
 ·obtain ⟨a, xs, rs, rfl, hS, hP, hB, hT, k⟩ := h; rfl
 ·obtain ⟨a, xs, rs, rfl, hS, hP, hB, hT, k⟩ := h
  have nd := sc__law_all.nd
  refine ⟨_, (pss_cons (ps_set (i := 1) nd rfl (Or.inl rfl) (pe_tup (pa_cons pe_int (pa_cons pe_int pa_nil))))
   (pss_cons (ps_for PassesOwn.never rfl (pi_list' (K := K) rfl (pv 0)) (pg_name (i := 2) nd rfl (Or.inl rfl)) (pss_one (ps_set (i := 1) nd rfl (Or.inl rfl) (pfn G__law_plus hr (pa_cons (pv 1) (pa_cons (pv 2) pa_nil))))))
   (pss_one (ps_ret (pv 1))))), ?_⟩
  refine ⟨sz (by simp), fun p0 hp0 => ?_⟩
  have hl : xs.length = rs.length := hP.length
  refine ⟨_, rfl, a, rfl, ⟨_, (Same.upd hp0).seq hS⟩, ?_⟩
  refine for_list (xs := xs) (fun i σ H1 => ∃ v2 : Option V, ∃ w1 : V, σ = [some (.ref a), some w1, v2] /\ Same H H1 /\ FrV H1 w1 (sumQ (rs.take i))) ⟨none, .ref p0, rfl, Same.upd hp0, FrV.newOf rfl rfl⟩ ?_ ?_ ?_
  ·rintro i σ H1 hi ⟨v2, w1, rfl, s1, h1⟩
   exact s1.seq hS
  ·rintro i x σ H1 hx ⟨v2, w1, rfl, s1, h1⟩
   obtain ⟨r, hr, fr⟩ := paired_get hP hx
   have hi : i < rs.length := (List.getElem?_eq_some_iff.mp hr).1
   refine ⟨_, rfl, _, rfl, _, _, _, _, rfl, h1, fr.same s1, hT i (by omega), hB r (List.mem_of_getElem? hr), fun v H2 s2 h2 => ?_⟩
   refine ⟨_, _, rfl, s1.trans s2, ?_⟩
   rw [sumQ_take hr]; exact h2
  ·rintro σ H1 ⟨v2, w1, rfl, s1, h1⟩
   rw [hl, List.take_length] at h1
   exact ⟨_, rfl, k _ _ s1 h1⟩
noncomputable abbrev s__law_forth_right : Stmt := top 45
theorem sc__law_forth_right : FnScope ["_law_names_here", "_law_steps", "_law_brings", "_law_said", "_law_k", "_law_ends"] ["_law_names_here", "_law_steps", "_law_brings"] (defScope s__law_forth_right) := scF
theorem ok__law_forth_right {ca : Ca} (D : DefAt K mg "_law_forth_right" s__law_forth_right) (T : Txt K mg ca) (G_brought : FnAt P w K mg base CX0 5 "brought" ["names", "steps"] (spBrought K)) (G_forth : FnAt P w K mg base CX0 6 "forth" ["names", "steps", "k"] (spForth K)) (G__law_all : FnAt P w K mg base CX0 4 "_law_all" ["_law_shares"] (spAllF K)) : FnAt P w K mg base CX0 7 "_law_forth_right" ["_law_names_here", "_law_steps", "_law_brings"] (spForthR K) := by
 refine D.ok sc__law_forth_right (fun vs H Q E h => ?_) (fun _ _ _ _ _ _ us hl => match us, hl with | [_, _, _], _ => rfl) (fun f cdv A outer s H vs Q E hr h => ?_)
 ·obtain ⟨an, as, ab, L, xs, ss, rfl, hD, k⟩ := h; rfl
 ·obtain ⟨an, as, ab, L, xs, ss, rfl, hD, k⟩ := h
  have nd := sc__law_forth_right.nd
  refine ⟨_, (pss_cons (ps_set (i := 3) nd rfl (Or.inl rfl) (pfn G_brought hr (pa_cons (pv 0) (pa_cons (pv 1) pa_nil))))
   (pss_cons (ps_for PassesOwn.never rfl (pi_range1 (by rfl) T.z_range (pa_cons (pe_callB (call_len' (K := K) rfl) (by rfl) T.z_len PySem.boot_len (pa_cons (pv 2) pa_nil)) pa_nil)) (pg_name (i := 4) nd rfl (Or.inl rfl)) (pss_cons (ps_set (i := 5) nd rfl (Or.inr rfl) (pfn G_forth hr (pa_cons (pe_callTy (call_list_of' (K := K) rfl) (by rfl) T.z_list bt_list (pa_cons (pv 0) pa_nil)) (pa_cons (pe_callTy (call_list_of' (K := K) rfl) (by rfl) T.z_list bt_list (pa_cons (pv 1) pa_nil)) (pa_cons (pv 4) pa_nil)))))
   (pss_cons (ps_if (PW.pt (pw_or (pt_not (pt_val (pe_callB (call_isi' (K := K) rfl) (by rfl) T.z_isinstance bt_isinstance (pa_cons (pv 5) (pa_cons (pe_bltn (v := .ty "dict") (by rfl) T.z_dict bt_dict rfl) pa_nil))))) (pw_or (pt_cmpR (op_neD' (K := K) rfl hr) (pfn G__law_all hr (pa_cons (pe_callTy (call_list_vals rfl) (by rfl) T.z_list bt_list (pa_cons (pe_bm0' (K := K) rfl PySem.F.plainAttrs_dict PySem.F.slot_dict_values PySem.F.type_dict_values mt_vals (pv 5)) pa_nil)) pa_nil)) (pe_tup (pa_cons pe_int (pa_cons pe_int pa_nil))) (nomark _)) (pw_or1 (pt_cmpR (op_neR (K := K) rfl hr) (pv 5) (pixT (pixL (pv 3) (pv 4)) pe_int) (nomark _)))))) (pss_one (ps_ret pe_non)) pss_nil)
   (pss_one (ps_if (pt_cmpR (op_neD' (K := K) rfl hr) (pe_thaw (pe_comp ["_law_name"] ["_law_names_here", "_law_ends"] [0, 5] rfl (by rfl) (pi_keys (pv 5)) (fun _ _ _ _ => (pg_name (i := 0) (show List.Nodup (["_law_name", "_law_names_here", "_law_ends"] : List Str) from by decide) rfl (Or.inl rfl))) (fun _ _ _ _ => (pif_one (PW.pt (pw_or (pt_cmpR (op_notIn_seq' (K := K) rfl) (pv 0) (pv 1) (by rfl)) (pw_or1 (pt_cmpR op_lt (pixT (pe_dget (hu_of hr) (pv 2) (pv 0) (fun _ _ => rfl)) pe_int) pe_int (nomark _))))))) (fun _ _ _ _ => (pv 0)))) (pe_lst pa_nil) (nomark _)) (pss_one (ps_ret pe_non)) pss_nil)))))
   (pss_one (ps_ret (pe_comp ["_law_entry"] [] [] rfl (by rfl) (pi_list' (K := K) rfl (pv 3)) (fun _ _ _ _ => (pg_name (i := 0) (show List.Nodup (["_law_entry"] : List Str) from by decide) rfl (Or.inl rfl))) (fun _ _ _ _ => pif_none) (fun _ _ _ _ => (pixT (pv 0) pe_int))))))), ?_⟩
  have h18 := hD.len
  have bl := brIx_len 0 ss
  have bl2 := brL_len ss
  have ibl : ((brIx 0 ss).map fun n => V.int (n : Nat)).length = (brL ss).length := by rw [List.length_map]; exact bl
  refine ⟨_, rfl, _, rfl, an, as, L, xs, ss, rfl, SqL.of hD.nm, hD.nd, hD.l8, SqL.of hD.st, hD.pd, hD.ok, by omega, fun p H1 ys tds hp s1 h1 hB hm hnd hfr => ?_⟩
  have hD1 := hD.same s1
  have hyl : ys.length = (brL ss).length := by rw [hB.length, <- hm, List.length_map]
  refine ⟨_, rfl, _, _, rfl, .inl ⟨_, SqL.of hD1.br, rfl⟩, _, rfl, by rw [ibl]; omega, by rw [ibl]; omega, ?_⟩
  refine for_range (fun i σ H2 => ∃ (v4 v5 : Option V), σ = [some (.ref an), some (.ref as), some (.ref ab), some (.ref p), v4, v5] /\ Same H1 H2) ⟨none, none, rfl, Same.refl _⟩ ?_ ?_
  ·rintro i σ H2 hi ⟨v4, v5, rfl, s2⟩
   have hi : i < (brL ss).length := by
    have hi : i < ((((brIx 0 ss).map fun n => V.int (n : Nat)).length : Nat) : Int).toNat := hi
    rw [ibl] at hi; simpa using hi
   obtain ⟨b, hb⟩ : ∃ b, (brL ss)[i]? = some b := ⟨_, List.getElem?_eq_getElem hi⟩
   obtain ⟨yv, hyv⟩ : ∃ yv, ys[i]? = some yv := ⟨_, List.getElem?_eq_getElem (by omega)⟩
   obtain ⟨bd, hbd, ta, tl, tf, kv', rfl, q1, q2, q3, q4, q5⟩ := paired_get hB hyv
   have ebd : bd.1 = b := by
    have h1 : (tds.map (·.1))[i]? = some bd.1 := by rw [List.getElem?_map, hbd]; rfl
    rw [hm, hb] at h1
    exact (Option.some.inj h1).symm
   rw [ebd] at q5
   have hat : atI ys (0 + (i : Int)) = some (.ref ta) := by rw [Int.zero_add]; exact atI_nat hyv
   obtain ⟨n, x0, hx0, eg⟩ := brL_mem hD.ok b (List.mem_of_getElem? hb)
   have hOn : ∀ s ∈ ss.drop n, OkS L s := fun s hs => hD.ok s (List.mem_of_mem_drop hs)
   have G := back_good hD.nd hOn
   have P0 := prodD_pos (ss.drop n)
   have B16 := prod_bd hOn (by rw [List.length_drop]; omega) (k := 16) (by decide)
   have gp : ∀ z, IsM (prodD (ss.drop n)) 1 (b.g z) := fun z => by rw [eg]; exact G.part x0 hx0 z
   have hD2 := hD1.same s2
   refine ⟨_, rfl, an, _, rfl, .inl (SqL.of hD2.nm), fun l1 hl1 => ?_⟩
   have t1 := Same.upd (o := .lst (L.map V.str)) hl1
   refine ⟨_, rfl, as, _, rfl, .inl (SqL.of (t1 _ _ hD2.st)), fun l2 hl2 => ?_⟩
   have t2 := Same.upd (o := .lst xs) hl2
   have t12 := t1.trans t2
   refine ⟨_, rfl, l1, l2, L, xs, ss, i, b, (by show [V.ref l1, V.ref l2, V.int (0 + (i : Int))] = _; rw [Int.zero_add]), SqL.of (t2 _ _ upd_same), hD.nd, hD.l8, SqL.of upd_same, steps_same hD2.pd t12, hD.ok, by omega, hb, fun d H7 kvs hd s7 h7 r7 => ?_⟩
   have s17 := s2.trans (t12.trans s7)
   have hd1 : H1 d = none := s2.free (t12.free hd)
   have lk : kvs.length <= L.length := r7.len fun z hz => G.sup x0 hx0 z (by rw [<- eg]; exact hz)
   have l8 := hD.l8
   have tyd : tyS H7 (.ref d) = some "dict" := by show tyH (H7 d) = _; rw [h7]; rfl
   refine ⟨_, rfl, _, _, _, _, rfl, tyOf_of tyd, kit_tt (by decide) (by decide), _, rfl, ?_⟩
   refine iteF ?_
   refine ⟨_, rfl, .inr (.inr (.inl ⟨rfl, .inl ⟨_, h7⟩⟩)), d, _, rfl, rfl, h7, rfl, fun pv hpv => ?_⟩
   have tw := Same.upd (o := valsO pv d) hpv
   refine ⟨pv, d, _, rfl, upd_same, tw _ _ h7, rfl, fun qs hqs l hl => ?_⟩
   have hqs : qs = kvs.map fun kv => (kV kv.1, kv.2) := hqs
   have eqs : qs.map (·.2) = kvs.map (·.2) := by rw [hqs, List.map_map]; rfl
   rw [eqs]
   have tl' := tw.trans (Same.upd (o := .lst (kvs.map (·.2))) hl)
   refine ⟨l, kvs.map (·.2), (nms kvs).map b.g, rfl, SqL.of upd_same, Paired.mapP r7.vals (fun _ _ g => g.same tl'), fun r hr => ?_, fun j hj => ?_, fun u4 H8 s8 f8 => ?_⟩
   ·obtain ⟨y, _, rfl⟩ := List.mem_map.mp hr
    exact (((gp y).mono (j := 16) (by decide)).bd P0 (by decide) B16).mono (by decide)
   ·rw [<- List.map_take]
    have := (sumL_isM gp ((nms kvs).take j)).mono (j := 16) (by rw [List.length_take, nms_len]; omega)
    exact (this.bd P0 (by decide) B16).mono (by decide)
   have es : sumQ ((nms kvs).map b.g) = 1 := by
    show sumL (nms kvs) b.g = 1
    rw [sumL_sub b.g hD.nd (nms_nodup r7.nodup r7.keys) (fun z hz => G.sup x0 hx0 z (by rw [<- eg]; exact op_some.mp ((r7.iff z).mp hz))) (fun z _ hz => (r7.iff z).mpr (op_some.mpr hz)), eg]
    exact G.all x0 hx0
   rw [es] at f8
   refine ⟨sz (by simp), fun q0 hq0 => ?_⟩
   have t0 := Same.upd (o := .tup [.int 1, .int 1]) hq0
   refine ⟨_, _, (f8.same t0).rep, rep_pq (SqT.of upd_same), pq_depth _ _, _, rfl, ?_⟩
   have e0 : PyData.eqv (pq (1 : Rat).num (1 : Rat).den) (pq 1 1) = true := by rw [eqv_pq]; decide +kernel
   rw [e0]
   refine iteF ?_
   have s79 := tl'.trans (s8.trans t0)
   have s19 := s17.trans s79
   have h79 := s79 _ _ h7
   have r79 := r7.same fun _ _ g => g.same s79
   generalize upd H8 q0 (.tup [.int 1, .int 1]) = H9 at *
   refine ⟨_, rfl, _, rfl, _, rfl, p, _, _, _, rfl, rfl, SqL.of (s19 _ _ h1), hat, ta, _, _, _, rfl, rfl, SqT.of (s19 _ _ q1), rfl, hits_row h79 (s19 _ _ q4) r79 (q5.same fun _ _ g => g.same s19), _, rfl, ?_⟩
   refine iteF ?_
   refine ⟨d, _, h79, rfl, ?_⟩
   refine ⟨_, rfl, d, _, rfl, h79, rfl, fun o qs2 hqs2 => fun D hDD => ?_⟩
   have hqs2 : qs2 = kvs.map fun kv => (kV kv.1, kv.2) := hqs2
   subst hqs2
   have nDd : D ≠ d := fun e => by rw [e, upd_same] at hDD; cases hDD
   have hD0 : H9 D = none := by rw [upd_ne nDd] at hDD; exact hDD
   have hN9 := s19 _ _ hD1.nm
   have nNd : an ≠ d := ne_of hN9 h79 (by intro z; cases z)
   refine block_keys (fun j σ' H' => ∃ (v : Option V), σ' = [v, some (.ref an), some (.ref d)] /\ H' d = some (.frz o (.dK kvs)) /\ (∀ c ob, H9 c = some ob -> c ≠ d -> H' c = some ob) /\ H' D = some (.lst [])) ⟨none, rfl, by rw [upd_ne nDd.symm, upd_same], fun c ob e nn => by rw [upd_ne (ne_of_none e hD0), upd_ne nn]; exact e, upd_same⟩ ?_ ?_ ?_
   ·rintro j σ' H' ⟨_, _, h, _⟩
    exact h
   ·rintro j k' w' σ' H' hk ⟨v, rfl, hfz, keep, hd'⟩
    obtain ⟨kvi, hki, ek⟩ := kv_get hk
    have hval := valV_get r79.nodup hki
    obtain ⟨z, r, hz, hg, fr, _, _⟩ := r79.at hki
    obtain ⟨rfl, rfl⟩ := Prod.mk.inj ek
    obtain ⟨k0, w0⟩ := kvi
    have hz : k0 = .inr z := hz
    subst hz
    obtain ⟨er, rne⟩ := op_at hg
    have rpos : 0 < r := pos_of (by rw [<- er]; exact (gp z).1) rne
    have hzL : z ∈ L := G.sup x0 hx0 z (by rw [<- eg, er]; exact rne)
    obtain ⟨cz, rfl, hcz⟩ := fr
    have hcz' := keep _ _ hcz (ne_of hcz h79 (by intro z; cases z))
    refine ⟨_, rfl, _, rfl, an, _, rfl, .inl (SqL.of (keep _ _ hN9 nNd)), rfl, flat_strs L, _, rfl, ?_⟩
    have e2 : (!inV (.str z) (L.map V.str)) = false := by rw [inV_str, decide_eq_true hzL]; rfl
    show if (!inV (V.str z) (L.map V.str)) = true then _ else _
    rw [e2]
    refine iteF ?_
    refine ⟨_, rfl, _, rfl, d, _, rfl, .inl ⟨kvs, .inr z, .inr ⟨o, hfz⟩, rfl, hval.symm⟩, cz, _, _, _, rfl, rfl, SqT.of hcz', rfl, _, _, rfl, rfl, _, rfl, ?_⟩
    refine dec_false (fun h => ?_) ?_
    ·have := npos rpos
     have h : r.num < 1 := h
     omega
    exact ⟨_, rfl, hfz, keep, hd'⟩
   ·rintro σ' H' ⟨v, rfl, hfz, keep, hd'⟩
    refine ⟨o, _, hfz, ?_⟩
    have kp2 : Same H9 (upd H' d (.dK kvs)) := fun c ob e => by
     by_cases z : c = d
     ·subst z; rw [upd_same]; rw [h79] at e; exact e
     ·rw [upd_ne z]; exact keep c ob e z
    have hDl : upd H' d (.dK kvs) D = some (.lst []) := by rw [upd_ne nDd]; exact hd'
    generalize upd H' d (.dK kvs) = H10 at *
    refine ⟨sz (by simp), fun l9 hl9 => ?_⟩
    have t9 := Same.upd (o := .lst []) hl9
    refine ⟨_, _, repL (SqL.of (t9 _ _ hDl)) reps0, repL (SqL.of upd_same) reps0, by decide, _, rfl, ?_⟩
    refine iteF ?_
    exact ⟨_, _, rfl, s19.trans (kp2.trans t9)⟩
  ·rintro σ H2 ⟨v4, v5, rfl, s2⟩
   refine ⟨_, rfl, p, rfl, ⟨_, SqL.of (s2 _ _ h1)⟩, fun D hDD => ?_⟩
   refine block_list (xs := ys) (fun j σ' H' => ∃ (v : Option V), σ' = [v] /\ Same H2 H' /\ H' D = some (.lst (((tds.map (·.2)).take j).map V.ref))) ⟨none, rfl, Same.upd hDD, upd_same⟩ ?_ ?_ ?_
   ·rintro j σ' H' hj ⟨v, rfl, s3, hd⟩
    exact SqL.of (s3 _ _ (s2 _ _ h1))
   ·rintro j y σ' H' hy ⟨v, rfl, s3, hd⟩
    obtain ⟨bd, hbd, ta, tl, tf, kv', rfl, q1, q2, q3, q4, q5⟩ := paired_get hB hy
    have hj : j < ys.length := (List.getElem?_eq_some_iff.mp hy).1
    have h2 : (tds.map (·.2))[j]? = some bd.2 := by rw [List.getElem?_map, hbd]; rfl
    refine ⟨_, rfl, ta, _, _, _, rfl, rfl, SqT.of (s3 _ _ (s2 _ _ q1)), rfl, _, hd, ?_, _, rfl, s3.updD hDD, ?_⟩
    ·rw [List.length_map, List.length_take]; exact sz (by omega)
    ·rw [upd_same, List.take_add_one, h2, List.map_append]; rfl
   ·rintro σ' H' ⟨v, rfl, s3, hd⟩
    have e : ys.length = (tds.map (·.2)).length := by rw [List.length_map, hB.length]
    rw [e, List.take_length] at hd
    have s13 := s2.trans s3
    exact k D H' (s1.trans s13) ⟨_, hd, Paired.mapP (tds_ends hB hm) fun _ _ f => f.same s13⟩
noncomputable abbrev s__law_back_right : Stmt := top 46
theorem sc__law_back_right : FnScope ["_law_names_here", "_law_steps", "_law_brings", "_law_ends", "_law_totals", "_law_name", "_law_found", "_law_due", "_law_k", "_law_there"] ["_law_names_here", "_law_steps", "_law_brings", "_law_ends", "_law_totals"] (defScope s__law_back_right) := scF
theorem ok__law_back_right {ca : Ca} (D : DefAt K mg "_law_back_right" s__law_back_right) (T : Txt K mg ca) (G_back : FnAt P w K mg base CX0 6 "back" ["names", "steps", "place"] (spBack K)) (G__law_times : FnAt P w K mg base CX0 3 "_law_times" ["_law_one", "_law_other"] (spTimesW)) (G__law_lowest : FnAt P w K mg base CX0 2 "_law_lowest" ["_law_top", "_law_bottom"] (spLowest2)) (G__law_all : FnAt P w K mg base CX0 4 "_law_all" ["_law_shares"] (spAllF K)) : FnAt P w K mg base CX0 7 "_law_back_right" ["_law_names_here", "_law_steps", "_law_brings", "_law_ends", "_law_totals"] (spBackR K) := by
 refine D.ok sc__law_back_right (fun vs H Q E h => ?_) (fun _ _ _ _ _ _ us hl => match us, hl with | [_, _, _, _, _], _ => rfl) (fun f cdv A outer s H vs Q E hr h => ?_)
 ·obtain ⟨an, as, ab, ae, pt, ps, xs, ss, rfl, hD, hE, hT, bT, k⟩ := h; rfl
 ·obtain ⟨an, as, ab, ae, pt, ps, xs, ss, rfl, hD, hE, hT, bT, k⟩ := h
  have nd := sc__law_back_right.nd
  refine ⟨_, (pss_cons (ps_for PassesOwn.never rfl (pi_list' (K := K) rfl (pv 0)) (pg_name (i := 5) nd rfl (Or.inl rfl)) (pss_cons (ps_set (i := 6) nd rfl (Or.inl rfl) (pfn G_back hr (pa_cons (pe_callTy (call_list_of' (K := K) rfl) (by rfl) T.z_list bt_list (pa_cons (pv 0) pa_nil)) (pa_cons (pe_callTy (call_list_of' (K := K) rfl) (by rfl) T.z_list bt_list (pa_cons (pv 1) pa_nil)) (pa_cons (pv 5) pa_nil)))))
   (pss_cons (ps_set (i := 7) nd rfl (Or.inl rfl) (pe_lst pa_nil))
   (pss_cons (ps_for PassesOwn.never rfl (pi_range1 (by rfl) T.z_range (pa_cons (pe_callB (call_len' (K := K) rfl) (by rfl) T.z_len PySem.boot_len (pa_cons (pv 2) pa_nil)) pa_nil)) (pg_name (i := 8) nd rfl (Or.inl rfl)) (pss_one (ps_if (pt_cmp (pc_din (hu_of hr) (pv 5) (pixL (pv 3) (pv 8)))) (pss_cons (ps_set (i := 9) nd rfl (Or.inl rfl) (pfn G__law_times hr (pa_cons (pixT (pixL (pv 1) (pixL (pv 2) (pv 8))) pe_int) (pa_cons (pe_dget (hu_of hr) (pixL (pv 3) (pv 8)) (pv 5) (fun _ _ => rfl)) pa_nil))))
   (pss_one (ps_expr (pe_bm PySem.F.plainAttrs_list PySem.F.slot_list_append PySem.F.type_list_append mt_append (pv 7) (pa_cons (pe_tup (pa_cons (pv 8) (pa_cons (pfn G__law_lowest hr (pa_cons (pe_op op_mulB (pixT (pv 9) pe_int) (pixT (pe_dget (hu_of hr) (pv 4) (pv 5) (fun _ _ => rfl)) pe_int)) (pa_cons (pe_op op_mulB (pixT (pv 9) pe_int) (pixT (pe_dget (hu_of hr) (pv 4) (pv 5) (fun _ _ => rfl)) pe_int)) pa_nil))) pa_nil))) pa_nil))))) pss_nil)))
   (pss_cons (ps_if (PW.pt (pw_or (pt_not (pt_val (pe_callB (call_isi' (K := K) rfl) (by rfl) T.z_isinstance bt_isinstance (pa_cons (pv 6) (pa_cons (pe_bltn (v := .ty "list") (by rfl) T.z_list bt_list rfl) pa_nil))))) (pw_or1 (pt_cmpR (op_neD' (K := K) rfl hr) (pv 6) (pv 7) (nomark _))))) (pss_one (ps_ret pe_bl)) pss_nil)
   (pss_one (ps_if (PW.pt (pw_and (pt_cmpR (op_neD' (K := K) rfl hr) (pv 6) (pe_lst pa_nil) (nomark _)) (pw_and1 (pt_cmpR (op_neD' (K := K) rfl hr) (pfn G__law_all hr (pa_cons (pe_comp ["_law_k", "_law_share_here"] [] [] rfl (by rfl) (pi_list' (K := K) rfl (pv 6)) (fun _ _ _ _ => (pg_tup' (K := K) (n := 2) (by rfl) (by rfl) (pgs_cons (pg_name (i := 0) (show List.Nodup (["_law_k", "_law_share_here"] : List Str) from by decide) rfl (Or.inl rfl) (hf := Or.inr (by rfl))) (pgs_cons (pg_name (i := 1) (show List.Nodup (["_law_k", "_law_share_here"] : List Str) from by decide) rfl (Or.inl rfl) (hf := Or.inr (by rfl))) pgs_nil)))) (fun _ _ _ _ => pif_none) (fun _ _ _ _ => (pv 1))) pa_nil)) (pe_tup (pa_cons pe_int (pa_cons pe_int pa_nil))) (nomark _))))) (pss_one (ps_ret pe_bl)) pss_nil)))))))
   (pss_one (ps_ret pe_bl))), ?_⟩
  have h18 := hD.len
  have bl := brIx_len 0 ss
  have bl2 := brL_len ss
  have ibl : ((brIx 0 ss).map fun n => V.int (n : Nat)).length = (brL ss).length := by rw [List.length_map]; exact bl
  refine ⟨_, rfl, an, rfl, ⟨_, SqL.of hD.nm⟩, ?_⟩
  refine for_list (xs := (allN ps).map V.str) (fun i σ H1 => ∃ (v5 v6 v7 v8 v9 : Option V), σ = [some (.ref an), some (.ref as), some (.ref ab), some (.ref ae), some (.ref pt), v5, v6, v7, v8, v9] /\ Same H H1) ⟨none, none, none, none, none, rfl, Same.refl _⟩ ?_ ?_ ?_
  ·rintro i σ H1 hi ⟨v5, v6, v7, v8, v9, rfl, s1⟩
   exact SqL.of (s1 _ _ hD.nm)
  ·rintro i pv σ H1 hpv ⟨v5, v6, v7, v8, v9, rfl, s1⟩
   obtain ⟨pl, rfl, hpl⟩ := str_get hpv
   have hplA : pl ∈ allN ps := List.mem_of_getElem? hpl
   have hD1 := hD.same s1
   refine ⟨_, rfl, an, _, rfl, .inl (SqL.of hD1.nm), fun l1 hl1 => ?_⟩
   have t1 := Same.upd (o := .lst ((allN ps).map V.str)) hl1
   refine ⟨_, rfl, as, _, rfl, .inl (SqL.of (t1 _ _ hD1.st)), fun l2 hl2 => ?_⟩
   have t2 := Same.upd (o := .lst xs) hl2
   have t12 := t1.trans t2
   refine ⟨_, rfl, l1, l2, allN ps, xs, ss, pl, rfl, SqL.of (t2 _ _ upd_same), hD.nd, hD.l8, SqL.of upd_same, steps_same hD1.pd t12, hD.ok, hD.oq, by omega, fun pf H2 zs hpf s2 h2 hZ => ?_⟩
   have s02 := s1.trans (t12.trans s2)
   let rs : List Rat := rsOf pl ss
   have rsl : rs.length = (brL ss).length := List.length_map ..
   have hZ : Paired (PrV H2) zs ((nz rs rs.length).map fun k => (k, rs.getD k 0 / sumQ rs)) := hZ
   have P0 : 0 < 159739999685311463424 * prodD ss := Nat.mul_pos (by decide) (prodD_pos ss)
   have aok := amt_ok hD.nd hD.ok hD.oq pl
   have B64 := amt_bd hD.ok (show ss.length <= 32 by omega) (k := 64000) (Nat.le_refl _)
   have hrs : ∀ r ∈ rs, IsM (159739999685311463424 * prodD ss) 1000 r := fun r hr => by
    obtain ⟨b, hb, rfl⟩ := List.mem_map.mp hr
    exact aok b hb
   have eT : tot ss pl = sumQ rs := rfl
   have bT' : Bd 100 (sumQ rs) := by rw [<- eT]; exact bT pl hplA
   have hS64 : IsM (159739999685311463424 * prodD ss) 64000 (sumQ rs) := (sum_isM hrs).mono (by omega)
   refine ⟨sz (by simp), fun pu hpu => ?_⟩
   have tu0 := Same.upd (o := .lst []) hpu
   have s03 := s02.trans tu0
   have h23 := tu0 _ _ h2
   have hZ3 := Paired.mapP hZ fun _ _ f => f.same tu0
   have npu : pu ≠ pf := (ne_of_none h2 hpu).symm
   have hu3 := upd_same (H := H2) (a := pu) (o := .lst [])
   have hpu0 : H pu = none := s02.free hpu
   generalize upd H2 pu (.lst []) = H3 at *
   have hD3 := hD.same s03
   refine ⟨_, rfl, _, _, rfl, .inl ⟨_, SqL.of hD3.br, rfl⟩, _, rfl, by rw [ibl]; omega, by rw [ibl]; omega, ?_⟩
   refine for_range (fun j σ H4 => ∃ (v8 v9 : Option V) (ws : List V), σ = [some (.ref an), some (.ref as), some (.ref ab), some (.ref ae), some (.ref pt), some (.str pl), some (.ref pf), some (.ref pu), v8, v9] /\ (∀ c o, H3 c = some o -> c ≠ pu -> H4 c = some o) /\ H4 pu = some (.lst ws) /\ Paired (PrV H4) ws ((nz rs j).map fun k => (k, rs.getD k 0 / sumQ rs))) ⟨_, _, [], rfl, fun c o e _ => e, hu3, .nil⟩ ?_ ?_
   ·rintro j σ H4 hj ⟨v8, v9, ws, rfl, fr, h4, hW⟩
    have hj : j < (brL ss).length := by
     have hj : j < ((((brIx 0 ss).map fun n => V.int (n : Nat)).length : Nat) : Int).toNat := hj
     rw [ibl] at hj; simpa using hj
    have frH : Same H H4 := fun c o e => fr _ _ (s03 _ _ e) (ne_of_none e hpu0)
    have hD4 := hD.same frH
    obtain ⟨ds, hds, hEd⟩ := hE.same frH
    obtain ⟨n, hn⟩ : ∃ n, (brIx 0 ss)[j]? = some n := ⟨_, List.getElem?_eq_getElem (by rw [bl]; exact hj)⟩
    obtain ⟨z, yr, x0, q, hsn⟩ := brIx_at hn
    have hbj := brL_at (o := 0) hn (by rw [Nat.sub_zero]; exact hsn)
    rw [Nat.sub_zero] at hbj
    obtain ⟨d, hdj⟩ : ∃ d, ds[j]? = some d := ⟨_, List.getElem?_eq_getElem (by rw [hEd.length]; exact hj)⟩
    obtain ⟨b, hb, kvs, hk1, hk2⟩ := paired_get hEd hdj
    rw [hbj] at hb
    cases hb
    have hk2 : RowAt H4 kvs (op (back (ss.drop (n + 1)) x0)) := hk2
    have hrj : rs[j]? = some (q * back (ss.drop (n + 1)) x0 pl) := by
     show (rsOf pl ss)[j]? = _
     unfold rsOf
     rw [List.getElem?_map, hbj]; rfl
    have ej := getD_at hrj
    have qpos : 0 < q := (hD.oq _ (List.mem_of_getElem? hsn)).1
    have hate : atI (ds.map V.ref) (0 + (j : Int)) = some (.ref d) := by
     rw [Int.zero_add]
     refine atI_nat ?_
     rw [List.getElem?_map, hdj]; rfl
    have zl : ws.length <= 64 := by
     have := hW.length
     rw [List.length_map] at this
     have := nz_len rs j
     omega
    obtain ⟨n', x', hx', eg'⟩ := brL_mem hD.ok _ (List.mem_of_getElem? hbj)
    have eg' : back (ss.drop (n + 1)) x0 = back (ss.drop n') x' := eg'
    refine ⟨_, rfl, _, rfl, _, rfl, ae, _, _, _, rfl, rfl, SqL.of hds, hate, d, _, rfl, DGet.k (k := .inr pl) hk1, _, rfl, ?_⟩
    generalize back (ss.drop (n + 1)) x0 = g at *
    by_cases hg : g pl = 0
    ·have ev : valV kvs (.inr pl) = none := hk2.not pl (by unfold op; rw [if_pos hg])
     rw [ev]
     refine iteF ?_
     refine ⟨_, _, ws, rfl, fr, h4, ?_⟩
     rw [nz_succ_zero (by rw [ej, hg, Rat.mul_zero])]
     exact hW
    ·obtain ⟨w0, ev, fr0⟩ := hk2.has pl (g pl) (by unfold op; rw [if_neg hg])
     have dg : DGet H4 d (.str pl) (some w0) := by
      have gg := DGet.k (k := .inr pl) hk1
      rw [ev] at gg; exact gg
     rw [ev]
     refine iteT ?_
     have hrM := hrs _ (List.mem_of_getElem? hrj)
     have hne : q * g pl ≠ 0 := fun zz => (Rat.mul_eq_zero.mp zz).elim (fun e => by rw [e] at qpos; exact absurd qpos (by decide)) hg
     have S0 := sum_pos hrs (List.mem_of_getElem? hrj) hne
     have Sn := npos S0
     have hxs : xs.length = ss.length := hD.pd.length
     obtain ⟨sv0, hsv⟩ : ∃ y, xs[n]? = some y := ⟨_, List.getElem?_eq_getElem (by have := (List.getElem?_eq_some_iff.mp hsn).1; omega)⟩
     obtain ⟨st, hst, sv⟩ := paired_get hD4.pd hsv
     rw [hsn] at hst
     cases hst
     obtain ⟨sa, sl, sf, rfl, hsa, hsl, hsf⟩ := sv
     have atb : atI ((brIx 0 ss).map fun n => V.int (n : Nat)) (0 + (j : Int)) = some (.int (n : Nat)) := by
      rw [Int.zero_add]
      refine atI_nat ?_
      rw [List.getElem?_map, hn]; rfl
     obtain ⟨_, qM⟩ := hD.oq _ (List.mem_of_getElem? hsn)
     have bq : Bd 4000 q := (qM.bd (n := 100) (by decide) (by decide) (by decide)).mono (by decide)
     have hOn : ∀ s ∈ ss.drop n', OkS (allN ps) s := fun s hs => hD.ok s (List.mem_of_mem_drop hs)
     have bgp : Bd 4000 (g pl) := by
      have G := back_good hD.nd hOn
      have B := prod_bd hOn (by rw [List.length_drop]; omega) (k := 1) (by decide)
      rw [eg']
      exact ((G.part x' hx' pl).bd (prodD_pos _) (by decide) B).mono (by decide)
     refine ⟨_, rfl, _, rfl, _, rfl, ab, _, _, _, rfl, rfl, SqL.of hD4.br, atb, as, _, _, _, rfl, rfl, SqL.of hD4.st, atI_nat hsv, sa, _, _, _, rfl, rfl, SqT.of hsa, rfl, _, rfl, _, rfl, ae, _, _, _, rfl, rfl, SqL.of hds, hate, _, rfl, d, w0, rfl, dg, _, _, q, g pl, rfl, hsf.rw bq, fr0.rw bgp, fun w9 H9 s9 f9 => ?_⟩
     have h49 := s9 _ _ h4
     obtain ⟨vt, dgt, ft⟩ := (hT.same (Same.trans frH s9)).get hplA
     rw [eT] at ft
     obtain ⟨ct, rfl, hct⟩ := ft
     obtain ⟨c9, rfl, hc9⟩ := id f9
     have br : Bd 2700 (q * g pl) := hrM.bd P0 (by decide) (amt_bd hD.ok (show ss.length <= 32 by omega) (by decide))
     have rd := rat_den_pos (q * g pl)
     refine ⟨_, rfl, .inl ⟨rfl, _, SqL.of h49⟩, _, rfl, _, rfl, c9, _, _, _, rfl, rfl, SqT.of hc9, rfl, _, rfl, _, rfl, pt, _, rfl, dgt, ct, _, _, _, rfl, rfl, SqT.of hct, rfl, _, _, rfl, rfl, mulOk_of 2700 br.num (bT'.mono (by decide)).den (by decide), _, rfl, c9, _, _, _, rfl, rfl, SqT.of hc9, rfl, _, rfl, _, rfl, pt, _, rfl, dgt, ct, _, _, _, rfl, rfl, SqT.of hct, rfl, _, _, rfl, rfl, mulOk_of 2700 br.den (bT'.mono (by decide)).num (by decide), _, _, rfl, Int.mul_pos rd Sn, ?_, fun w5 H5 s5 f5 => ⟨sz (by simp), fun t6 ht6 => ?_⟩⟩
     ·have n1 : (((q * g pl).den : Int)).natAbs < 2 ^ 2700 := br.den
      exact Nat.lt_of_lt_of_le (natAbs_mul_lt n1 (bT'.mono (show 100 <= 2700 by decide)).num) (pow_le (by decide))
     rw [div_eq _ _ (by omega)] at f5
     have t6' := Same.upd (o := .tup [.int (0 + (j : Int)), w5]) ht6
     have s46 := s9.trans (s5.trans t6')
     have h46 := s46 _ _ h4
     refine ⟨pu, _, _, rfl, rfl, h46, sz (by omega), ?_⟩
     have tuu := tup_of (o := .lst (ws ++ [.ref t6])) h46 (fun _ z => nomatch z)
     refine ⟨_, _, ws ++ [.ref t6], rfl, fun c o e nn => by rw [upd_ne nn]; exact s46 _ _ (fr c o e nn), upd_same, ?_⟩
     rw [nz_succ_pos (by rw [ej]; exact hne), List.map_append]
     refine Paired.snoc (Paired.mapP hW fun _ _ f => (f.same s46).tup tuu) ⟨t6, w5, rfl, ?_, ?_⟩
     ·have ek : V.int (0 + (j : Int)) = V.int ((j : Nat) : Int) := by rw [Int.zero_add]
      show _ = some (HO.tup [V.int ((j : Nat) : Int), w5])
      rw [<- ek]; exact tuu _ _ upd_same
     ·show FrV _ _ (rs.getD j 0 / sumQ rs)
      rw [ej]; exact (f5.same t6').tup tuu
   ·rintro σ H4 ⟨v8, v9, ws, rfl, fr, h4, hW⟩
    have ejl : ((((brIx 0 ss).map fun n => V.int (n : Nat)).length : Nat) : Int).toNat = rs.length := by rw [ibl, rsl]; simp
    rw [ejl] at hW
    have frH : Same H H4 := fun c o e => fr _ _ (s03 _ _ e) (ne_of_none e hpu0)
    have h24 := fr _ _ h23 npu.symm
    have kT : ∀ c m, H3 c = some (.tup m) -> H4 c = some (.tup m) := fun c m e => fr _ _ e (ne_of e hu3 (by intro z; cases z))
    have hZ4 := Paired.mapP hZ3 fun _ _ f => f.tup kT
    generalize hms : ((nz rs rs.length).map fun k => (k, rs.getD k 0 / sumQ rs)) = ms at hZ4 hW
    have r1 : RepD K H4 (.list (ms.map dPr)) (.ref pf) := repL (SqL.of h24) (rep_prs hZ4)
    have r2 : RepD K H4 (.list (ms.map dPr)) (.ref pu) := repL (SqL.of h4) (rep_prs hW)
    have tyf : tyS H4 (.ref pf) = some "list" := by show tyH (H4 pf) = _; rw [h24]; rfl
    refine ⟨_, rfl, _, _, _, _, rfl, tyOf_of tyf, kit_tt (by decide) (by decide), _, rfl, ?_⟩
    refine iteF ?_
    refine ⟨_, rfl, _, rfl, _, _, r1, r2, prs_depth _, _, rfl, ?_⟩
    rw [PySem.SeqAt.eqv_refl _ r1.lay]
    refine iteF ?_
    refine ⟨_, rfl, sz (by simp), fun l9 hl9 => ?_⟩
    have t9 := Same.upd (o := .lst []) hl9
    have r19 : RepD K (upd H4 l9 (.lst [])) (.list (ms.map dPr)) (.ref pf) := repL (SqL.of (t9 _ _ h24)) (rep_prs (Paired.mapP hZ4 fun _ _ f => f.same t9))
    refine ⟨_, _, r19, repL (SqL.of upd_same) reps0, prs_depth _, _, rfl, ?_⟩
    rw [prs_nil]
    have s09 := frH.trans t9
    have h29 := t9 _ _ h24
    have hZ9 := Paired.mapP hZ4 fun _ _ f => f.same t9
    generalize upd H4 l9 (.lst []) = H9 at *
    cases hme : ms.isEmpty with
    | true =>
     refine iteF ?_
     refine iteF ?_
     exact ⟨_, _, _, _, _, rfl, s09⟩
    | false =>
     refine iteT ?_
     have zlm : zs.length = ms.length := hZ9.length
     have mlr : ms.length <= 18 := by
      rw [<- hms, List.length_map]
      have := nz_len rs rs.length
      omega
     refine ⟨_, rfl, pf, rfl, ⟨_, SqL.of h29⟩, fun D hDD => ?_⟩
     refine block_list (xs := zs) (fun j σ' H' => ∃ (v0 v1 : Option V) (us : List V), σ' = [v0, v1] /\ Same H9 H' /\ H' D = some (.lst us) /\ Paired (FrV H') us ((ms.take j).map (·.2))) ⟨none, none, [], rfl, Same.upd hDD, upd_same, .nil⟩ ?_ ?_ ?_
     ·rintro j σ' H' hj ⟨v0, v1, us, rfl, s10, hd, hU⟩
      exact SqL.of (s10 _ _ h29)
     ·rintro j y σ' H' hy ⟨v0, v1, us, rfl, s10, hd, hU⟩
      obtain ⟨m, hm, t, f, rfl, ht, ff⟩ := paired_get hZ9 hy
      have hj : j < zs.length := (List.getElem?_eq_some_iff.mp hy).1
      refine ⟨t, _, rfl, SqT.of (s10 _ _ ht), rfl, _, _, rfl, _, _, rfl, rfl, ?_⟩
      have ul : us.length <= 18 := by rw [hU.length, List.length_map, List.length_take]; omega
      refine ⟨_, rfl, _, hd, sz (by omega), ?_⟩
      have tu := tup_of (o := .lst (us ++ [f])) hd (fun _ z => nomatch z)
      refine ⟨_, _, us ++ [f], rfl, s10.updD hDD, upd_same, ?_⟩
      rw [List.take_add_one, hm, List.map_append]
      exact Paired.snoc (Paired.mapP hU fun _ _ f => f.tup tu) ((ff.same s10).tup tu)
     ·rintro σ' H' ⟨v0, v1, us, rfl, s10, hd, hU⟩
      rw [zlm, List.take_length] at hU
      have em : ms.map (·.2) = (nz rs rs.length).map fun k => rs.getD k 0 / sumQ rs := by rw [<- hms, List.map_map]; rfl
      rw [em] at hU
      have hnz : nz rs rs.length ≠ [] := fun e => by
       rw [e] at hms
       rw [<- hms] at hme; cases hme
      obtain ⟨k0, hk0⟩ := List.exists_mem_of_ne_nil _ hnz
      have hmem := List.mem_filter.mp hk0
      have hkl : k0 < rs.length := List.mem_range.mp hmem.1
      have hr0 : rs.getD k0 0 ≠ 0 := by simpa using hmem.2
      have hrk : rs[k0]? = some (rs.getD k0 0) := by rw [List.getD_eq_getElem?_getD, List.getElem?_eq_getElem hkl]; rfl
      have S0 := sum_pos hrs (List.mem_of_getElem? hrk) hr0
      have Sne : sumQ rs ≠ 0 := fun e => by rw [e] at S0; exact absurd S0 (by decide)
      have hval : ∀ k ∈ nz rs rs.length, IsM (159739999685311463424 * prodD ss) 1000 (rs.getD k 0) := fun k hk => by
       have hm := List.mem_filter.mp hk
       have hkl : k < rs.length := List.mem_range.mp hm.1
       have : rs[k]? = some (rs.getD k 0) := by rw [List.getD_eq_getElem?_getD, List.getElem?_eq_getElem hkl]; rfl
       exact hrs _ (List.mem_of_getElem? this)
      have hsum : ∀ l : List Nat, (∀ k ∈ l, k ∈ nz rs rs.length) -> l.length <= 18 -> Bd 4000 (sumQ (l.map fun k => rs.getD k 0 / sumQ rs)) := fun l hl hll => by
       rw [sum_div]
       have h1 := sum_isM (rs := l.map fun k => rs.getD k 0) (P := 159739999685311463424 * prodD ss) (N := 1000) fun r hr => by
        obtain ⟨k, hk, rfl⟩ := List.mem_map.mp hr
        exact hval k (hl k hk)
       have h2 := h1.mono (j := 64000) (by rw [List.length_map]; omega)
       exact (over_bd P0 h2 hS64 Sne B64 B64).mono (by decide)
      have nl : (nz rs rs.length).length <= 18 := by have := nz_len rs rs.length; omega
      refine ⟨D, us, _, rfl, SqL.of hd, hU, fun r hr => ?_, fun j hj => ?_, fun v11 H11 s11 f11 => ?_⟩
      ·obtain ⟨k, hk, rfl⟩ := List.mem_map.mp hr
       have h2 := (hval k hk).mono (j := 64000) (by decide)
       exact (over_bd P0 h2 hS64 Sne B64 B64).mono (by decide)
      ·rw [<- List.map_take]
       exact hsum _ (fun k hk => List.mem_of_mem_take hk) (by rw [List.length_take]; omega)
      have e1 : sumQ ((nz rs rs.length).map fun k => rs.getD k 0 / sumQ rs) = 1 := by
       rw [sum_div, nz_sum _ (Nat.le_refl _), List.take_length, Rat.div_def]
       exact Rat.mul_inv_cancel _ Sne
      rw [e1] at f11
      refine ⟨sz (by simp), fun q0 hq0 => ?_⟩
      have t0 := Same.upd (o := .tup [.int 1, .int 1]) hq0
      refine ⟨_, _, (f11.same t0).rep, rep_pq (SqT.of upd_same), pq_depth _ _, _, rfl, ?_⟩
      have e0 : PyData.eqv (pq (1 : Rat).num (1 : Rat).den) (pq 1 1) = true := by rw [eqv_pq]; decide +kernel
      rw [e0]
      refine iteF ?_
      exact ⟨_, _, _, _, _, rfl, s09.trans (s10.trans (s11.trans t0))⟩
  ·rintro σ H1 ⟨v5, v6, v7, v8, v9, rfl, s1⟩
   exact k _ s1
noncomputable abbrev s__law_next : Stmt := top 47
theorem sc__law_next : FnScope ["_law_shares", "_law_step_here", "_law_found", "_law_stays", "_law_goes"] ["_law_shares", "_law_step_here"] (defScope s__law_next) := scF
theorem ok__law_next {ca : Ca} (D : DefAt K mg "_law_next" s__law_next) (T : Txt K mg ca) (G__law_times : FnAt P w K mg base CX0 3 "_law_times" ["_law_one", "_law_other"] (spTimesW)) (G__law_minus : FnAt P w K mg base CX0 4 "_law_minus" ["_law_one", "_law_other"] (sp2 4000 (· - ·))) (G__law_under : FnAt P w K mg base CX0 1 "_law_under" ["_law_one", "_law_other"] (spUnder)) : FnAt P w K mg base CX0 5 "_law_next" ["_law_shares", "_law_step_here"] (spBehindStep) := by
 refine D.ok sc__law_next (fun vs H Q E h => ?_) (fun _ _ _ _ _ _ us hl => match us, hl with | [_, _], _ => rfl) (fun f cdv A outer s H vs Q E hr h => ?_)
 ·obtain ⟨a, st, s', L, kv, v, P, rfl, ha, hst, ok, hrow, P0, hM, hB, h8, k⟩ := h; rfl
 ·obtain ⟨a, st, s', L, kv, v, P, rfl, ha, hst, ok, hrow, P0, hM, hB, h8, k⟩ := h
  have nd := sc__law_next.nd
  refine ⟨_, (pss_cons (ps_set (i := 2) nd rfl (Or.inl rfl) (pe_callTy call_dictK (by rfl) T.z_dict bt_dict (pa_cons (pv 0) pa_nil)))
   (pss_cons (ps_if (PW.pt (pw_or (pt_cmpR op_eq (pixT (pv 1) pe_int) pe_str (nomark _)) (pw_or1 (pt_cmp (pc_dnotin (hu_of hr) (pixT (pv 1) pe_int) (pv 0)))))) (pss_one (ps_ret (pv 2))) pss_nil)
   (pss_cons (ps_expr (pe_dpop1 (pv 2) (pixT (pv 1) pe_int) ⟨by rfl, by rfl, by rfl, by rfl⟩))
   (pss_cons (ps_set (i := 3) nd rfl (Or.inl rfl) (pfn G__law_times hr (pa_cons (pe_dget (hu_of hr) (pv 0) (pixT (pv 1) pe_int) (fun _ _ => rfl)) (pa_cons (pfn G__law_minus hr (pa_cons (pe_tup (pa_cons pe_int (pa_cons pe_int pa_nil))) (pa_cons (pixT (pv 1) pe_int) pa_nil))) pa_nil))))
   (pss_cons (ps_set (i := 4) nd rfl (Or.inl rfl) (pfn G__law_times hr (pa_cons (pe_dget (hu_of hr) (pv 0) (pixT (pv 1) pe_int) (fun _ _ => rfl)) (pa_cons (pixT (pv 1) pe_int) pa_nil))))
   (pss_cons (ps_if (pt_cmpR op_gt (pixT (pv 3) pe_int) pe_int (nomark _)) (pss_one (ps_dput (hu_of hr) (pv 2) (pixT (pv 1) pe_int) (pv 3) rfl)) pss_nil)
   (pss_cons (ps_if (PW.pt (pw_and (pt_cmpR op_gt (pixT (pv 4) pe_int) pe_int (nomark _)) (pw_and1 (PW.pt (pw_or (pt_cmp (pc_dnotin (hu_of hr) (pixT (pv 1) pe_int) (pv 2))) (pw_or1 (pt_val (pfn G__law_under hr (pa_cons (pe_dget (hu_of hr) (pv 2) (pixT (pv 1) pe_int) (fun _ _ => rfl)) (pa_cons (pv 4) pa_nil)))))))))) (pss_one (ps_dput (hu_of hr) (pv 2) (pixT (pv 1) pe_int) (pv 4) rfl)) pss_nil)
   (pss_one (ps_ret (pv 2)))))))))), ?_⟩
  have D0 : 0 < P * dnS s' := Nat.mul_pos P0 (dnS_pos s')
  refine ⟨_, rfl, a, kv, rfl, ha, fun pf hpf => ?_⟩
  have tp := Same.upd (o := .dK kv) hpf
  have hrow1 : RowAt (upd H pf (.dK kv)) kv (op v) := hrow.same fun _ _ g => g.same tp
  cases s' with
  | br z yr x q =>
   obtain ⟨b0, l0, f0, eb, hb0, _, _⟩ := hst
   have eb : st = b0 := V.ref.inj eb
   subst eb
   refine ⟨_, rfl, st, _, _, _, rfl, rfl, SqT.of (tp _ _ hb0), rfl, rfl, _, rfl, ?_⟩
   refine dec_true rfl ?_
   refine iteT ?_
   exact ⟨_, rfl, k pf _ kv hpf tp upd_same hrow1⟩
  | ps x y t =>
   obtain ⟨hx0, hy0, hxy, t0, tle, td⟩ := id ok
   have bs := Bd.share t0 tle td
   obtain ⟨b0, f0, eb, hb0, ff0⟩ := hst
   have eb : st = b0 := V.ref.inj eb
   subst eb
   have hb1 := tp _ _ hb0
   refine ⟨_, rfl, st, _, _, _, rfl, rfl, SqT.of hb1, rfl, rfl, _, rfl, ?_⟩
   refine dec_false (by decide +kernel) ?_
   cases q : op v x with
   | none =>
    have vx : v x = 0 := by
     unfold op at q
     split at q
     ·rename_i z; exact z
     ·cases q
    refine ⟨_, rfl, st, _, _, _, rfl, rfl, SqT.of hb1, rfl, _, rfl, a, none, rfl, ?_, _, rfl, ?_⟩
    ·have g := DGet.k (k := .inr x) (tp _ _ ha)
     rw [hrow.not x q] at g; exact g
    refine iteT ?_
    refine ⟨_, rfl, k pf _ kv hpf tp upd_same ?_⟩
    show RowAt _ kv (op (gm x y t v))
    rw [gm_zero vx (hM y).1]; exact hrow1
   | some rx =>
    obtain ⟨wx, hwx, fwx⟩ := hrow.has x rx q
    have erx : rx = v x := by
     unfold op at q
     split at q
     ·cases q
     ·exact (Option.some.inj q).symm
    subst erx
    refine ⟨_, rfl, st, _, _, _, rfl, rfl, SqT.of hb1, rfl, _, rfl, a, some wx, rfl, ?_, _, rfl, ?_⟩
    ·have g := DGet.k (k := .inr x) (tp _ _ ha)
     rw [hwx] at g; exact g
    refine iteF ?_
    have hpf1 := upd_same (H := H) (a := pf) (o := .dK kv)
    refine ⟨_, rfl, pf, rfl, .inl ⟨kv, .inl hpf1⟩, _, rfl, st, _, _, _, rfl, rfl, SqT.of hb1, rfl, kv, .inr x, wx, hpf1, rfl, hwx, ?_⟩
    have tu := tup_of (o := .dK (dropK kv (.inr x))) hpf1 (fun _ z => nomatch z)
    have row2 : RowAt (upd (upd H pf (.dK kv)) pf (.dK (dropK kv (.inr x)))) (dropK kv (.inr x)) (op fun z => if z = x then 0 else v z) := (hrow1.drop x).same fun _ _ g => g.tup tu
    have s2 : Same H (upd (upd H pf (.dK kv)) pf (.dK (dropK kv (.inr x)))) := tp.updD hpf
    have hpf2 := upd_same (H := upd H pf (.dK kv)) (a := pf) (o := .dK (dropK kv (.inr x)))
    have len2 : (dropK kv (.inr x)).length <= 8 := Nat.le_trans (dropK_le _ _) h8
    generalize upd (upd H pf (.dK kv)) pf (.dK (dropK kv (.inr x))) = H2 at *
    generalize dropK kv (.inr x) = kv2 at *
    have dgx : ∀ {H' : Hp}, Same H H' -> DGet H' a (.str x) (some wx) := fun {H'} s => by
     have g := DGet.k (k := .inr x) (s _ _ ha)
     rw [hwx] at g; exact g
    have bx : Bd 2700 (v x) := ((hM x).up t.den).bd D0 (by decide) (by have hB : 16 * (P * t.den) < 2 ^ 2700 := hB; show 1 * (P * t.den) < _; omega)
    have hst1 := (hM x).mulR t0 tle
    have hgo := (hM x).mulL t0 tle
    have B16 : 16 * (P * t.den) < 2 ^ 2700 := hB
    have bst : Bd 2700 (v x * (1 - t)) := hst1.bd D0 (by decide) (by show 1 * (P * t.den) < _; omega)
    have bgo : Bd 2700 (v x * t) := hgo.bd D0 (by decide) (by show 1 * (P * t.den) < _; omega)
    have by' : Bd 2700 (v y) := ((hM y).up t.den).bd D0 (by decide) (by show 1 * (P * t.den) < _; omega)
    refine ⟨_, rfl, _, rfl, st, _, _, _, rfl, rfl, SqT.of (s2 _ _ hb0), rfl, a, wx, rfl, dgx s2, sz (by simp), fun p3 hp3 => ?_⟩
    have t3 := Same.upd (o := .tup [.int 1, .int 1]) hp3
    have s3 := s2.trans t3
    refine ⟨_, rfl, st, _, _, _, rfl, rfl, SqT.of (s3 _ _ hb0), rfl, _, _, 1, t, rfl, FrV.newOf rfl rfl, ff0.same s3, ⟨by decide, by decide⟩, bs.1.mono (by decide), fun v4 H4 s4 f4 => ?_⟩
    have s04 := s3.trans s4
    refine ⟨_, _, v x, 1 - t, rfl, (fwx.same s04).rw (bx.mono (by decide)), f4.rw (bs.2.mono (by decide)), fun v5 H5 s5 f5 => ?_⟩
    have s05 := s04.trans s5
    refine ⟨_, rfl, _, rfl, st, _, _, _, rfl, rfl, SqT.of (s05 _ _ hb0), rfl, a, wx, rfl, dgx s05, _, rfl, st, _, _, _, rfl, rfl, SqT.of (s05 _ _ hb0), rfl, _, _, v x, t, rfl, (fwx.same s05).rw (bx.mono (by decide)), (ff0.same s05).rw (bs.1.mono (by decide)), fun v6 H6 s6 f6 => ?_⟩
    have s26 := t3.trans (s4.trans (s5.trans s6))
    have s06 := s2.trans s26
    have f56 := f5.same s6
    have hpf6 := s26 _ _ hpf2
    have row6 := row2.same fun _ _ g => g.same s26
    obtain ⟨c5, rfl, hc5⟩ := id f56
    obtain ⟨c6, rfl, hc6⟩ := id f6
    refine ⟨_, rfl, c5, _, _, _, rfl, rfl, SqT.of hc5, rfl, _, _, rfl, rfl, _, rfl, ?_⟩
    refine' by_key1 (C := fun (Hy : Hp) => Same H Hy /\ FrV Hy (.ref c6) (v x * t) /\ ∃ kv', Hy pf = some (.dK kv') /\ kv'.length <= 9 /\ RowAt Hy kv' (op (rse (fun z => if z = x then 0 else v z) x (v x * (1 - t))))) (fun key => ?go) ?body
    case go =>
     refine ite2 (fun h => ?_) (fun h => ?_)
     ·have h : (0 : Int) < (v x * (1 - t)).num := of_decide_eq_true h
      have h : 0 < v x * (1 - t) := posn h
      refine ⟨_, rfl, _, rfl, _, rfl, st, _, _, _, rfl, rfl, SqT.of (s06 _ _ hb0), rfl, pf, upd H6 pf (.dK (putK kv2 (.inr x) (.ref c5))), rfl, DPut.k (k := .inr x) hpf6 (sz (by omega)), ?_⟩
      have tu6 := tup_of (o := .dK (putK kv2 (.inr x) (.ref c5))) hpf6 (fun _ z => nomatch z)
      have row7 := (row6.put (z := x) f56).same fun _ _ g => g.tup tu6
      rw [rse_op (v := fun z => if z = x then 0 else v z) (by rw [if_pos rfl]; exact h) (by rw [if_pos rfl]; exact Rat.le_refl)] at row7
      have sy : Same H (upd H6 pf (.dK (putK kv2 (.inr x) (.ref c5)))) := s06.updD hpf
      have fy := f6.tup tu6
      have hy7 := upd_same (H := H6) (a := pf) (o := .dK (putK kv2 (.inr x) (.ref c5)))
      have ly := length_putK kv2 (.inr x) (.ref c5)
      generalize upd H6 pf (.dK (putK kv2 (.inr x) (.ref c5))) = Hy at sy fy hy7 row7 ⊢
      exact key Hy ⟨sy, fy, _, hy7, by omega, row7⟩
     ·have h : ¬ (0 : Rat) < v x * (1 - t) := fun z => h (decide_eq_true (npos z))
      refine key H6 ⟨s06, f6, kv2, hpf6, by omega, ?_⟩
      rw [rse_not (v := fun z => if z = x then 0 else v z) (by rw [if_pos rfl]; exact h)]
      exact row6
    case body =>
     rintro Hy ⟨sy, fy, kv', hy7, l7, row7⟩
     obtain ⟨c6', ec, hc6⟩ := id fy
     have ec : c6 = c6' := V.ref.inj ec
     subst ec
     have hby := sy _ _ hb0
     have egm := next_gm (v := v) (t := t) hxy hst1.1
     have gy : rse (fun z => if z = x then 0 else v z) x (v x * (1 - t)) y = v y := by
      unfold rse
      rw [if_neg hxy.symm]
      show (if y = x then 0 else v y) = v y
      rw [if_neg hxy.symm]
     have fin : ¬ v y < v x * t -> Q (.ref pf) Hy := fun h => by
      refine k pf Hy kv' hpf sy hy7 ?_
      show RowAt Hy kv' (op (gm x y t v))
      rw [<- egm, rse_not (by rw [gy]; exact h)]; exact row7
     have put : v y < v x * t -> Q (.ref pf) (upd Hy pf (.dK (putK kv' (.inr y) (.ref c6)))) := fun h => by
      refine k pf _ _ hpf (sy.updD hpf) upd_same ?_
      show RowAt _ _ (op (gm x y t v))
      rw [<- egm, <- rse_op (by rw [gy]; exact h) (by rw [gy]; exact (hM y).1)]
      exact (row7.put (z := y) fy).same fun _ _ g => g.tup (tup_of hy7 (fun _ z => nomatch z))
     have dp := DPut.k (k := .inr y) (v := .ref c6) hy7 (sz (by omega))
     refine ⟨_, rfl, c6, _, _, _, rfl, rfl, SqT.of hc6, rfl, _, _, rfl, rfl, _, rfl, ?_⟩
     refine ite2 (fun h => ?_) (fun h => iteF ⟨_, rfl, fin fun z => h (decide_eq_true (npos (lt_of_le (hM y).1 z)))⟩)
     have h : (0 : Int) < (v x * t).num := of_decide_eq_true h
     have h : 0 < v x * t := posn h
     cases q2 : op (rse (fun z => if z = x then 0 else v z) x (v x * (1 - t))) y with
     | none =>
      have vy : v y = 0 := by
       rw [<- gy]
       unfold op at q2
       split at q2
       ·rename_i z; exact z
       ·cases q2
      refine ⟨_, rfl, st, _, _, _, rfl, rfl, SqT.of hby, rfl, _, rfl, pf, none, rfl, ?_, _, rfl, ?_⟩
      ·have g := DGet.k (k := .inr y) hy7
       rw [row7.not y q2] at g; exact g
      refine iteT ?_
      refine iteT ?_
      refine ⟨_, rfl, _, rfl, _, rfl, st, _, _, _, rfl, rfl, SqT.of hby, rfl, pf, _, rfl, dp, ?_⟩
      exact ⟨_, rfl, put (by rw [vy]; exact h)⟩
     | some ry =>
      obtain ⟨wy, hwy, fwy⟩ := row7.has y ry q2
      have ery : ry = v y := by
       rw [<- gy]
       unfold op at q2
       split at q2
       ·cases q2
       ·exact (Option.some.inj q2).symm
      subst ery
      have dgy : DGet Hy pf (.str y) (some wy) := by
       have g := DGet.k (k := .inr y) hy7
       rw [hwy] at g; exact g
      refine ⟨_, rfl, st, _, _, _, rfl, rfl, SqT.of hby, rfl, _, rfl, pf, some wy, rfl, dgy, _, rfl, ?_⟩
      refine iteF ?_
      refine ⟨_, rfl, _, rfl, st, _, _, _, rfl, rfl, SqT.of hby, rfl, pf, wy, rfl, dgy, _, rfl, _, _, v y, v x * t, rfl, fwy, fy, by'.mono (by decide), bgo.mono (by decide), _, rfl, ?_⟩
      refine ite2 (fun h2 => ?_) (fun h2 => ⟨_, rfl, fin fun z => h2 (decide_eq_true z)⟩)
      have h2 : v y < v x * t := of_decide_eq_true h2
      refine ⟨_, rfl, _, rfl, _, rfl, st, _, _, _, rfl, rfl, SqT.of hby, rfl, pf, _, rfl, dp, ?_⟩
      exact ⟨_, rfl, put h2⟩
noncomputable abbrev s__law_along : Stmt := top 48
theorem sc__law_along : FnScope ["_law_way", "_law_steps", "_law_share_here", "_law_k", "_law_step_here"] ["_law_way", "_law_steps"] (defScope s__law_along) := scF
theorem ok__law_along {ca : Ca} (D : DefAt K mg "_law_along" s__law_along) (T : Txt K mg ca) (G__law_times : FnAt P w K mg base CX0 3 "_law_times" ["_law_one", "_law_other"] (spTimesW)) (G__law_minus : FnAt P w K mg base CX0 4 "_law_minus" ["_law_one", "_law_other"] (sp2 4000 (· - ·))) : FnAt P w K mg base CX0 5 "_law_along" ["_law_way", "_law_steps"] (spAlong K) := by
 refine D.ok sc__law_along (fun vs H Q E h => ?_) (fun _ _ _ _ _ _ us hl => match us, hl with | [_, _], _ => rfl) (fun f cdv A outer s H vs Q E hr h => ?_)
 ·obtain ⟨pw, al, L, ys, sr, x, W, rfl, hW, hl, hP, hO, h18, way, k⟩ := h; rfl
 ·obtain ⟨pw, al, L, ys, sr, x, W, rfl, hW, hl, hP, hO, h18, way, k⟩ := h
  have nd := sc__law_along.nd
  refine ⟨_, (pss_cons (ps_set (i := 2) nd rfl (Or.inl rfl) (pe_tup (pa_cons pe_int (pa_cons pe_int pa_nil))))
   (pss_cons (ps_for PassesOwn.never rfl (pi_range1 (by rfl) T.z_range (pa_cons (pe_callB (call_len' (K := K) rfl) (by rfl) T.z_len PySem.boot_len (pa_cons (pv 1) pa_nil)) pa_nil)) (pg_name (i := 3) nd rfl (Or.inl rfl)) (pss_cons (ps_set (i := 4) nd rfl (Or.inl rfl) (pixL (pv 1) (pv 3)))
   (pss_one (ps_if (PW.pt (pw_and (pt_cmpR op_eq (pixT (pv 4) pe_int) pe_str (nomark _)) (pw_and1 (pt_cmpR op_eq (pixL (pv 0) (pv 3)) (pixT (pv 4) pe_int) (nomark _))))) (pss_one (ps_if (pt_cmpR op_eq (pixL (pv 0) (pe_op op_add (pv 3) pe_int)) (pixT (pv 4) pe_int) (nomark _)) (pss_one (ps_set (i := 2) nd rfl (Or.inl rfl) (pfn G__law_times hr (pa_cons (pv 2) (pa_cons (pfn G__law_minus hr (pa_cons (pe_tup (pa_cons pe_int (pa_cons pe_int pa_nil))) (pa_cons (pixT (pv 4) pe_int) pa_nil))) pa_nil))))) (pss_one (ps_if (pt_cmpR op_eq (pixL (pv 0) (pe_op op_add (pv 3) pe_int)) (pixT (pv 4) pe_int) (nomark _)) (pss_one (ps_set (i := 2) nd rfl (Or.inl rfl) (pfn G__law_times hr (pa_cons (pv 2) (pa_cons (pixT (pv 4) pe_int) pa_nil))))) (pss_one (ps_ret pe_non)))))) (pss_one (ps_if (pt_cmpR op_ne (pixL (pv 0) (pe_op op_add (pv 3) pe_int)) (pixL (pv 0) (pv 3)) (nomark _)) (pss_one (ps_ret pe_non)) pss_nil))))))
   (pss_one (ps_ret (pv 2))))), ?_⟩
  have hlen : ys.length = sr.length := hP.length
  have wl := way.len
  have wm : (W.map V.str).length = W.length := List.length_map ..
  refine ⟨sz (by simp), fun p0 hp0 => ?_⟩
  have t0 := Same.upd (o := .tup [.int 1, .int 1]) hp0
  refine ⟨_, rfl, _, _, rfl, .inl ⟨_, SqL.of (t0 _ _ hl), rfl⟩, _, rfl, by omega, by omega, ?_⟩
  refine for_range (fun j σ H1 => ∃ (w : V) (v3 v4 : Option V), σ = [some (.ref pw), some (.ref al), some w, v3, v4] /\ Same H H1 /\ FrV H1 w (shr sr W j)) ⟨_, none, none, rfl, t0, FrV.newOf rfl rfl⟩ ?_ ?_
  ·rintro j σ H1 hj ⟨w1, v3, v4, rfl, s1, f1⟩
   have hj : j < sr.length := by
    have hj : j < ((ys.length : Nat) : Int).toNat := hj
    rw [hlen] at hj; simpa using hj
   obtain ⟨yv, hyv⟩ : ∃ yv, ys[j]? = some yv := ⟨_, List.getElem?_eq_getElem (by omega)⟩
   obtain ⟨st, hst, sv⟩ := paired_get hP hyv
   have okst := hO st (List.mem_of_getElem? hst)
   have leg := way.leg j st hst
   have es := shr_succ (W := W) hst
   have hat : atI ys (0 + (j : Int)) = some yv := by rw [Int.zero_add]; exact atI_nat hyv
   have ata : atI (W.map V.str) (0 + (j : Int)) = some (.str (nth W j)) := by rw [Int.zero_add]; exact atI_nat (nth_at (by omega))
   have atb : atI (W.map V.str) (0 + (j : Int) + 1) = some (.str (nth W (j + 1))) := by
    have e : (0 + (j : Int) + 1) = ((j + 1 : Nat) : Int) := by omega
    rw [e]; exact atI_nat (nth_at (by omega))
   have hw1 := s1 _ _ hW
   have bd := shr_bd hO (by omega) W (Nat.le_of_lt hj)
   refine ⟨_, rfl, _, rfl, al, _, _, _, rfl, rfl, SqL.of (s1 _ _ hl), hat, ?_⟩
   generalize nth W j = a at leg es ata
   generalize nth W (j + 1) = b at leg es atb
   have fin : pt st a b = 1 -> b = a -> ∃ (w : V) (v3 v4 : Option V), [some (V.ref pw), some (.ref al), some w1, some (.int (0 + (j : Int))), some yv] = [some (.ref pw), some (.ref al), some w, v3, v4] /\ Same H H1 /\ FrV H1 w (shr sr W (j + 1)) := fun e _ => ⟨w1, _, _, rfl, s1, by rw [es, e, Rat.mul_one]; exact f1⟩
   have skip : b = a -> (!decide (V.str b = V.str a)) = false := fun e => by rw [e]; simp
   cases st with
   | br z yr x' q =>
    obtain ⟨b0, l0, f0, rfl, hb0, _, _⟩ := sv
    have leg : b = a := leg
    refine ⟨_, rfl, b0, _, _, _, rfl, rfl, SqT.of (s1 _ _ hb0), rfl, rfl, _, rfl, ?_⟩
    refine dec_false (by decide +kernel) ?_
    refine iteF ?_
    refine ⟨_, rfl, _, rfl, _, _, rfl, rfl, pw, _, _, _, rfl, rfl, SqL.of hw1, atb, _, rfl, _, rfl, pw, _, _, _, rfl, rfl, SqL.of hw1, ata, rfl, _, rfl, ?_⟩
    rw [skip leg]
    exact iteF (fin rfl leg)
   | ps x' y' u =>
    obtain ⟨b0, f0, rfl, hb0, ff0⟩ := sv
    obtain ⟨_, _, hxy, u0, u1, ud⟩ := okst
    have bs := Bd.share u0 u1 ud
    have hb1 := s1 _ _ hb0
    have lg : if a = x' then b = a \/ b = y' else b = a := leg
    refine ⟨_, rfl, b0, _, _, _, rfl, rfl, SqT.of hb1, rfl, rfl, _, rfl, ?_⟩
    refine dec_true rfl ?_
    refine ⟨_, rfl, _, rfl, pw, _, _, _, rfl, rfl, SqL.of hw1, ata, _, rfl, b0, _, _, _, rfl, rfl, SqT.of hb1, rfl, rfl, _, rfl, ?_⟩
    by_cases e : a = x'
    case neg =>
     rw [if_neg e] at lg
     refine dec_false (fun z => e (V.str.inj z)) ?_
     refine ⟨_, rfl, _, rfl, _, _, rfl, rfl, pw, _, _, _, rfl, rfl, SqL.of hw1, atb, _, rfl, _, rfl, pw, _, _, _, rfl, rfl, SqL.of hw1, ata, rfl, _, rfl, ?_⟩
     rw [skip lg]
     refine iteF (fin ?_ lg)
     show (if a = x' then (if b = a then 1 - u else u) else 1) = 1
     rw [if_neg e]
    case pos =>
     rw [if_pos e] at lg
     refine dec_true (by rw [e]) ?_
     refine ⟨_, rfl, _, rfl, _, _, rfl, rfl, pw, _, _, _, rfl, rfl, SqL.of hw1, atb, _, rfl, b0, _, _, _, rfl, rfl, SqT.of hb1, rfl, rfl, _, rfl, ?_⟩
     by_cases e2 : b = x'
     ·refine dec_true (by rw [e2]) ?_
      refine ⟨_, rfl, sz (by simp), fun p3 hp3 => ?_⟩
      have t3 := Same.upd (o := .tup [.int 1, .int 1]) hp3
      refine ⟨_, rfl, b0, _, _, _, rfl, rfl, SqT.of (t3 _ _ hb1), rfl, _, _, 1, u, rfl, FrV.newOf rfl rfl, (ff0.same s1).same t3, ⟨by decide, by decide⟩, bs.1.mono (by decide), fun v4' H4 s4 f4 => ?_⟩
      have s14 := t3.trans s4
      refine ⟨_, _, shr sr W j, 1 - u, rfl, (f1.same s14).rw (bd.2.mono (by decide)), f4.rw (bs.2.mono (by decide)), fun v5 H5 s5 f5 => ?_⟩
      refine ⟨v5, _, _, rfl, s1.trans (s14.trans s5), ?_⟩
      have ep : pt (.ps x' y' u) a b = 1 - u := by
       show (if a = x' then (if b = a then 1 - u else u) else 1) = 1 - u
       rw [if_pos e, if_pos (e2.trans e.symm)]
      rw [es, ep]; exact f5
     ·have eb : b = y' := lg.resolve_left fun z => e2 (z.trans e)
      refine dec_false (fun z => e2 (V.str.inj z)) ?_
      refine ⟨_, rfl, _, rfl, _, _, rfl, rfl, pw, _, _, _, rfl, rfl, SqL.of hw1, atb, _, rfl, b0, _, _, _, rfl, rfl, SqT.of hb1, rfl, rfl, _, rfl, ?_⟩
      refine dec_true (by rw [eb]) ?_
      refine ⟨_, rfl, _, rfl, b0, _, _, _, rfl, rfl, SqT.of hb1, rfl, _, _, shr sr W j, u, rfl, f1.rw (bd.2.mono (by decide)), (ff0.same s1).rw (bs.1.mono (by decide)), fun v5 H5 s5 f5 => ?_⟩
      refine ⟨v5, _, _, rfl, s1.trans s5, ?_⟩
      have ep : pt (.ps x' y' u) a b = u := by
       show (if a = x' then (if b = a then 1 - u else u) else 1) = u
       rw [if_pos e, if_neg fun z => e2 (z.trans e)]
      rw [es, ep]; exact f5
  ·rintro σ H1 ⟨w1, v3, v4, rfl, s1, f1⟩
   have ej : ((ys.length : Nat) : Int).toNat = sr.length := by rw [hlen]; simp
   rw [ej] at f1
   exact ⟨_, rfl, k _ _ s1 f1⟩
noncomputable abbrev s__law_ways_right : Stmt := top 49
theorem sc__law_ways_right : FnScope ["_law_names_here", "_law_steps", "_law_brings", "_law_k", "_law_later", "_law_shares", "_law_due", "_law_step_here", "_law_name", "_law_found"] ["_law_names_here", "_law_steps", "_law_brings", "_law_k"] (defScope s__law_ways_right) := scF
theorem ok__law_ways_right {ca : Ca} (D : DefAt K mg "_law_ways_right" s__law_ways_right) (T : Txt K mg ca) (G__law_next : FnAt P w K mg base CX0 5 "_law_next" ["_law_shares", "_law_step_here"] (spBehindStep)) (G_greatest_shares : FnAt P w K mg base CX0 5 "greatest_shares" ["steps", "k"] (spGreatest K)) (G_greatest_way : FnAt P w K mg base CX0 6 "greatest_way" ["steps", "k", "place"] (spGWay K)) (G__law_along : FnAt P w K mg base CX0 5 "_law_along" ["_law_way", "_law_steps"] (spAlong K)) : FnAt P w K mg base CX0 7 "_law_ways_right" ["_law_names_here", "_law_steps", "_law_brings", "_law_k"] (spWaysR K) := by
 refine D.ok sc__law_ways_right (fun vs H Q E h => ?_) (fun _ _ _ _ _ _ us hl => match us, hl with | [_, _, _, _], _ => rfl) (fun f cdv A outer s H vs Q E hr h => ?_)
 ·obtain ⟨an, as, ab, L, xs, ss, kk, n, rfl, hD, hkn, k⟩ := h; rfl
 ·obtain ⟨an, as, ab, L, xs, ss, kk, n, rfl, hD, hkn, k⟩ := h
  have nd := sc__law_ways_right.nd
  refine ⟨_, (pss_cons (ps_set (i := 4) nd rfl (Or.inl rfl) (pe_slice (sl_list' (K := K) rfl) (pv 1) (po_some (pe_op op_add (pixL (pv 2) (pv 3)) pe_int)) po_none))
   (pss_cons (ps_set (i := 5) nd rfl (Or.inl rfl) (pe_disp (pps_cons (pixT (pixL (pv 1) (pixL (pv 2) (pv 3))) pe_int) (pe_tup (pa_cons pe_int (pa_cons pe_int pa_nil))) pps_nil) rfl rfl (List.cons_ne_nil _ _) (Nat.le_of_ble_eq_true rfl)))
   (pss_cons (ps_set (i := 6) nd rfl (Or.inl rfl) (pe_lst (pa_cons (pv 5) pa_nil)))
   (pss_cons (ps_for PassesOwn.never rfl (pi_list' (K := K) rfl (pv 4)) (pg_name (i := 7) nd rfl (Or.inl rfl)) (pss_cons (ps_set (i := 5) nd rfl (Or.inl rfl) (pfn G__law_next hr (pa_cons (pv 5) (pa_cons (pv 7) pa_nil))))
   (pss_one (ps_expr (pe_bm PySem.F.plainAttrs_list PySem.F.slot_list_append PySem.F.type_list_append mt_append (pv 6) (pa_cons (pv 5) pa_nil))))))
   (pss_cons (ps_if (pt_cmpR (op_neL (K := K) rfl hr) (pfn G_greatest_shares hr (pa_cons (pe_callTy (call_list_of' (K := K) rfl) (by rfl) T.z_list bt_list (pa_cons (pv 1) pa_nil)) (pa_cons (pv 3) pa_nil))) (pv 6) (nomark _)) (pss_one (ps_ret pe_bl)) pss_nil)
   (pss_cons (ps_for PassesOwn.never rfl (pi_list' (K := K) rfl (pv 0)) (pg_name (i := 8) nd rfl (Or.inl rfl)) (pss_cons (ps_set (i := 9) nd rfl (Or.inl rfl) (pfn G_greatest_way hr (pa_cons (pe_callTy (call_list_of' (K := K) rfl) (by rfl) T.z_list bt_list (pa_cons (pv 1) pa_nil)) (pa_cons (pv 3) (pa_cons (pv 8) pa_nil)))))
   (pss_one (ps_if (pt_cmp (pc_dnotin (hu_of hr) (pv 8) (pv 5))) (pss_one (ps_if (pt_cmpR op_notN (pv 9) pe_non (nomark _)) (pss_one (ps_ret pe_bl)) pss_nil)) (pss_one (ps_if (PW.pt (pw_or (pt_not (pt_val (pe_callB (call_isi' (K := K) rfl) (by rfl) T.z_isinstance bt_isinstance (pa_cons (pv 9) (pa_cons (pe_bltn (v := .ty "tuple") (by rfl) T.z_tuple bt_tuple rfl) pa_nil))))) (pw_or (pt_cmpR op_ne (pe_callB (call_len' (K := K) rfl) (by rfl) T.z_len PySem.boot_len (pa_cons (pv 9) pa_nil)) pe_int (nomark _)) (pw_or1 (pt_not (pt_val (pe_callB (call_isi' (K := K) rfl) (by rfl) T.z_isinstance bt_isinstance (pa_cons (pixT (pv 9) pe_int) (pa_cons (pe_bltn (v := .ty "list") (by rfl) T.z_list bt_list rfl) pa_nil))))))))) (pss_one (ps_ret pe_bl)) (pss_one (ps_if (PW.pt (pw_or (pt_cmpR op_ne (pe_callB (call_len' (K := K) rfl) (by rfl) T.z_len PySem.boot_len (pa_cons (pixT (pv 9) pe_int) pa_nil)) (pe_op op_add (pe_callB (call_len' (K := K) rfl) (by rfl) T.z_len PySem.boot_len (pa_cons (pv 4) pa_nil)) pe_int) (nomark _)) (pw_or (pt_cmpR op_ne (pixL (pixT (pv 9) pe_int) pe_int) (pixT (pixL (pv 1) (pixL (pv 2) (pv 3))) pe_int) (nomark _)) (pw_or1 (pt_cmpR op_ne (pixL (pixT (pv 9) pe_int) (pe_un un_neg pe_int)) (pv 8) (nomark _)))))) (pss_one (ps_ret pe_bl)) (pss_one (ps_if (PW.pt (pw_or (pt_cmpR (op_neD' (K := K) rfl hr) (pixT (pv 9) pe_int) (pe_dget (hu_of hr) (pv 5) (pv 8) (fun _ _ => rfl)) (nomark _)) (pw_or1 (pt_cmpR (op_neD' (K := K) rfl hr) (pfn G__law_along hr (pa_cons (pixT (pv 9) pe_int) (pa_cons (pv 4) pa_nil))) (pe_dget (hu_of hr) (pv 5) (pv 8) (fun _ _ => rfl)) (nomark _))))) (pss_one (ps_ret pe_bl)) pss_nil))))))))))
   (pss_one (ps_ret pe_bl)))))))), ?_⟩
  have h18 := hD.len
  have h8 := hD.l8
  obtain ⟨z, yr, x, q, hsn⟩ := brIx_at hkn
  have hns : n < ss.length := (List.getElem?_eq_some_iff.mp hsn).1
  have hxs : xs.length = ss.length := hD.pd.length
  have ok := hD.ok _ (List.mem_of_getElem? hsn)
  let sr := ss.drop (n + 1)
  have hrl : sr.length = ss.length - (n + 1) := List.length_drop
  have hOr : ∀ s ∈ sr, OkS L s := fun s hs => hD.ok s (List.mem_of_mem_drop hs)
  have atb : atI ((brIx 0 ss).map fun n => V.int (n : Nat)) ((kk : Nat) : Int) = some (.int (n : Nat)) := atI_nat (by rw [List.getElem?_map, hkn]; rfl)
  obtain ⟨y, hy⟩ : ∃ y, xs[n]? = some y := ⟨_, List.getElem?_eq_getElem (by omega)⟩
  obtain ⟨st, hst, sv⟩ := paired_get hD.pd hy
  rw [hsn] at hst
  cases hst
  obtain ⟨sa, l, f, rfl, hsa, hl, hf⟩ := sv
  refine ⟨_, rfl, _, rfl, _, rfl, ab, _, _, _, rfl, rfl, SqL.of hD.br, atb, _, _, rfl, rfl, _, rfl, as, _, rfl, SqL.of hD.st, fun l6 hl6 => ?_⟩
  have ecut : cutV xs (some (((n : Nat) : Int) + 1)) none = xs.drop (n + 1) := by
   have e : (((n : Nat) : Int) + 1) = ((n + 1 : Nat) : Int) := by omega
   rw [e]; exact cutd_from xs (by omega)
  rw [ecut]
  have t6 := Same.upd (o := .lst (xs.drop (n + 1))) hl6
  have e6 := upd_same (H := H) (a := l6) (o := .lst (xs.drop (n + 1)))
  generalize upd H l6 (.lst (xs.drop (n + 1))) = H0 at *
  have hD0 := hD.same t6
  intro d hd
  have ud := Same.upd (o := .dK []) hd
  refine ⟨_, rfl, _, rfl, _, rfl, ab, _, _, _, rfl, rfl, SqL.of (ud _ _ hD0.br), atb, as, _, _, _, rfl, rfl, SqL.of (ud _ _ hD0.st), atI_nat hy, sa, _, _, _, rfl, rfl, SqT.of (ud _ _ (t6 _ _ hsa)), rfl, sz (by simp), fun f1 hf1 => ?_⟩
  have nqf : d ≠ f1 := fun e => by rw [<- e, upd_same] at hf1; cases hf1
  refine ⟨by rw [upd_ne nqf, upd_same], [(.inr x, .ref f1)], rfl, by simp, ?_⟩
  have t3 := (ud.trans (Same.upd (o := .tup [.int 1, .int 1]) hf1)).updD (o := .dK (mergeK [] [(.inr x, .ref f1)])) hd
  have ff : FrV (upd (upd (upd H0 d (.dK [])) f1 (.tup [.int 1, .int 1])) d (.dK (mergeK [] [(.inr x, .ref f1)]))) (.ref f1) 1 := ⟨f1, rfl, by rw [upd_ne nqf.symm, upd_same]; rfl⟩
  have row0 := RowAt.unit x ff
  have hd3 : upd (upd (upd H0 d (.dK [])) f1 (.tup [.int 1, .int 1])) d (.dK (mergeK [] [(.inr x, .ref f1)])) d = some (.dK (mergeK [] [(.inr x, .ref f1)])) := upd_same
  generalize upd (upd (upd H0 d (.dK [])) f1 (.tup [.int 1, .int 1])) d (.dK (mergeK [] [(.inr x, .ref f1)])) = H3 at *
  refine ⟨_, rfl, sz (by simp), fun p hp => ?_⟩
  have t4 := Same.upd (o := .lst [.ref d]) hp
  have s03 := t6.trans t3
  have s04 := s03.trans t4
  have hp0 : H p = none := s03.free hp
  have e64 : upd H3 p (.lst [.ref d]) l6 = some (.lst (xs.drop (n + 1))) := t4 _ _ (t3 _ _ e6)
  have n6 : l6 ≠ p := ne_of_none (t3 _ _ e6) hp
  have hPd := Paired.drop hD.pd (n + 1)
  refine ⟨_, rfl, l6, rfl, ⟨_, SqL.of e64⟩, ?_⟩
  refine for_list (xs := xs.drop (n + 1)) (fun j σ H4 => ∃ (v7 : Option V) (dl : Addr) (kvl : List (Key × V)) (ys : List V) (tds : List ((Str -> Rat) × Addr)), σ = [some (.ref an), some (.ref as), some (.ref ab), some (.int (kk : Nat)), some (.ref l6), some (.ref dl), some (.ref p), v7, none, none] /\ Same H H4 /\ H4 l6 = some (.lst (xs.drop (n + 1))) /\ H4 p = some (.lst ys) /\ Paired (GrV H4) ys tds /\ tds.map (·.1) = gmL sr x (j + 1) /\ H4 dl = some (.dK kvl) /\ RowAt H4 kvl (op (gmN sr (dlt x) j))) ⟨none, d, _, [.ref d], [(dlt x, d)], rfl, s04, e64, upd_same, .cons ⟨rfl, _, t4 _ _ hd3, row0.same fun _ _ g => g.same t4⟩ .nil, rfl, t4 _ _ hd3, row0.same fun _ _ g => g.same t4⟩ ?_ ?_ ?_
  ·rintro j σ H4 hj ⟨v7, dl, kvl, ys, tds, rfl, s4, h6, hp4, hB, hm, hdl, rdl⟩
   exact SqL.of h6
  ·rintro j w σ H4 hxj ⟨v7, dl, kvl, ys, tds, rfl, s4, h6, hp4, hB, hm, hdl, rdl⟩
   obtain ⟨st, hstj, sv⟩ := paired_get hPd hxj
   have hstj : sr[j]? = some st := hstj
   have hj : j < sr.length := (List.getElem?_eq_some_iff.mp hstj).1
   have okst := hOr st (List.mem_of_getElem? hstj)
   have tl : tds.length = j + 1 := by
    have := congrArg List.length hm
    unfold gmL at this
    rwa [List.length_map, List.length_map, List.length_range] at this
   have yl : ys.length = j + 1 := hB.length.trans tl
   obtain ⟨gM, gS⟩ := gmN_ok hOr ok.1 j (by omega)
   have P0 := prodD_pos (sr.take j)
   have hOj : ∀ s ∈ sr.take j, OkS L s := fun s hs => hOr s (List.mem_of_mem_take hs)
   have B16 := prod_bd hOj (by rw [List.length_take]; omega) (k := 16) (by decide)
   have hB' : 16 * (prodD (sr.take j) * dnS st) < 2 ^ 2700 := by
    have h3 : 16 * prodD (sr.take j) * dnS st < 2 ^ 2600 * 2 ^ 76 := Nat.mul_lt_mul_of_lt_of_le B16 (dnS_le okst) (Nat.two_pow_pos _)
    rw [<- Nat.pow_add, Nat.mul_assoc] at h3
    exact Nat.lt_of_lt_of_le h3 (pow_le (by decide))
   have lk : kvl.length <= 8 := Nat.le_trans (rdl.len gS) h8
   have ar : ∃ b, w = .ref b := by
    cases st with
    | br _ _ _ _ => obtain ⟨b, _, _, e, _⟩ := sv; exact ⟨b, e⟩
    | ps _ _ _ => obtain ⟨b, _, e, _⟩ := sv; exact ⟨b, e⟩
   obtain ⟨b, rfl⟩ := ar
   refine ⟨_, rfl, _, rfl, dl, b, st, L, kvl, gmN sr (dlt x) j, prodD (sr.take j), rfl, hdl, sv.same s4, okst, rdl, P0, gM, hB', lk, fun d' H5 kv5 hd' s5 h5 r5 => ?_⟩
   have hp5 := s5 _ _ hp4
   refine ⟨_, rfl, .inl ⟨rfl, _, SqL.of hp5⟩, _, rfl, p, _, _, rfl, rfl, hp5, sz (by omega), ?_⟩
   have tu := tup_of (o := .lst (ys ++ [.ref d'])) hp5 (fun _ z => nomatch z)
   have dk : ∀ c kvs, H5 c = some (.dK kvs) -> upd H5 p (.lst (ys ++ [.ref d'])) c = some (.dK kvs) := fun c kvs e => by
    rw [upd_ne (ne_of e hp5 (by intro z; cases z))]; exact e
   have r5' : RowAt (upd H5 p (.lst (ys ++ [.ref d']))) kv5 (op (gmN sr (dlt x) (j + 1))) := by
    rw [gmN_succ hstj]; exact r5.same fun v r g => g.tup tu
   refine ⟨_, d', kv5, ys ++ [.ref d'], tds ++ [(gmN sr (dlt x) (j + 1), d')], rfl, (s4.trans s5).updD hp0, ?_, upd_same, ?_, ?_, dk _ _ h5, r5'⟩
   ·rw [upd_ne n6]; exact s5 _ _ h6
   ·exact Paired.snoc (Paired.mapP hB fun _ bd b => (b.same s5).keep tu (dk bd.2)) ⟨rfl, kv5, dk _ _ h5, r5'⟩
   ·rw [List.map_append, hm]
    unfold gmL
    rw [List.range_succ (n := j + 1), List.map_append]; rfl
  ·rintro σ H4 ⟨v7, dl, kvl, ys, tds, rfl, s4, h6, hp4, hB, hm, hdl, rdl⟩
   have el : (xs.drop (n + 1)).length = sr.length := by rw [List.length_drop]; omega
   rw [el] at hm rdl
   have hD4 := hD.same s4
   refine ⟨_, rfl, as, _, rfl, .inl (SqL.of hD4.st), fun l7 hl7 => ?_⟩
   have t7 := Same.upd (o := .lst xs) hl7
   refine ⟨_, rfl, l7, L, xs, ss, kk, n, z, yr, x, q, rfl, h8, SqL.of upd_same, steps_same hD4.pd t7, hD.ok, by omega, hkn, hsn, fun p8 H8 ys8 tds8 hp8 s8 h8' hB8 hm8 hnd8 hfr8 => ?_⟩
   have s48 := t7.trans s8
   have s08 := s4.trans s48
   have el8 : ss.length - n = sr.length + 1 := by omega
   rw [el8] at hm8
   have hal : AlL K H8 (.ref p8) (.ref p) := ⟨p8, p, ys8, ys, rfl, rfl, SqL.of h8', SqL.of (s48 _ _ hp4), al_grs hB8 (Paired.mapP hB fun _ _ g => g.same s48) (hm8.trans hm.symm)⟩
   refine ⟨_, rfl, hal, _, rfl, ?_⟩
   refine iteF ?_
   have hN8 := s08 _ _ hD.nm
   have hdl8 := s48 _ _ hdl
   have rdl8 := rdl.same fun _ _ g => g.same s48
   have h68 := s48 _ _ h6
   refine ⟨_, rfl, an, rfl, ⟨_, SqL.of hN8⟩, ?_⟩
   refine for_list (xs := L.map V.str) (fun i σ H9 => ∃ (v8 v9 : Option V), σ = [some (.ref an), some (.ref as), some (.ref ab), some (.int (kk : Nat)), some (.ref l6), some (.ref dl), some (.ref p), v7, v8, v9] /\ Same H8 H9) ⟨_, _, rfl, Same.refl _⟩ ?_ ?_ ?_
   ·rintro i σ H9 hi ⟨v8, v9, rfl, s9⟩
    exact SqL.of (s9 _ _ hN8)
   ·rintro i pv σ H9 hpv ⟨v8, v9, rfl, s9⟩
    obtain ⟨pl, rfl, hpl⟩ := str_get hpv
    have s09 := s08.trans s9
    have hD9 := hD.same s09
    refine ⟨_, rfl, as, _, rfl, .inl (SqL.of hD9.st), fun l10 hl10 => ?_⟩
    have t10 := Same.upd (o := .lst xs) hl10
    refine ⟨_, rfl, _, rfl, l10, L, xs, ss, kk, n, x, pl, rfl, ⟨h8, SqL.of upd_same, steps_same hD9.pd t10, hD.ok, by omega, z, yr, q, hsn⟩, hkn, fun g0 H14 s14 => ?_, fun gn v14 H14 pw s14 hF hpw => ?_⟩
    ·have g0 : gmN sr (dlt x) sr.length pl = 0 := g0
     have s814 := s9.trans (t10.trans s14)
     have dg : DGet H14 dl (.str pl) none := by
      have g := DGet.k (k := .inr pl) (s814 _ _ hdl8)
      rw [rdl8.not pl (by unfold op; rw [if_pos g0])] at g; exact g
     refine ⟨_, rfl, _, rfl, dl, none, rfl, dg, _, rfl, ?_⟩
     refine iteT ?_
     refine ⟨_, rfl, rfl, _, rfl, ?_⟩
     refine ite2 (fun h => absurd h (by show ¬ (!decide (V.non = V.non)) = true; simp)) (fun _ => ?_)
     exact ⟨_, _, rfl, s814⟩
    ·have gn : gmN sr (dlt x) sr.length pl ≠ 0 := gn
     have s814 := s9.trans (t10.trans s14)
     have s014 := s08.trans s814
     obtain ⟨wx, hwx, fwx⟩ := rdl8.has pl (gmN sr (dlt x) sr.length pl) (by unfold op; rw [if_neg gn])
     have dgs : ∀ {H' : Hp}, Same H8 H' -> DGet H' dl (.str pl) (some wx) := fun {H'} s => by
      have g := DGet.k (k := .inr pl) (s _ _ hdl8)
      rw [hwx] at g; exact g
     obtain ⟨t, fv, W, rfl, ht, hpw', hfv, way, hlast, hshr⟩ := hF
     have way : Way sr x W := way
     have hlast : nth W sr.length = pl := hlast
     have hshr : shr sr W sr.length = gmN sr (dlt x) sr.length pl := hshr
     have hfv : FrV H14 fv (gmN sr (dlt x) sr.length pl) := hfv
     have wl := way.len
     have wm : (W.map V.str).length = W.length := List.length_map ..
     have lastW : atI (W.map V.str) (-1) = some (.str pl) := by rw [<- hlast]; exact Way.last (K := K) way
     have at0 : atI (W.map V.str) 0 = some (.str x) := by
      have := nth_at (W := W) (j := 0) (by omega)
      rw [way.first] at this
      exact atI_nat (j := 0) this
     have hD14 := hD.same s014
     have h614 := s814 _ _ h68
     have hsa14 := s014 _ _ hsa
     have tyt : tyS H14 (.ref t) = some "tuple" := by show tyH (H14 t) = _; rw [ht]; rfl
     have tyw : tyS H14 (.ref pw) = some "list" := by show tyH (H14 pw) = _; rw [hpw']; rfl
     refine ⟨_, rfl, _, rfl, dl, some wx, rfl, dgs s814, _, rfl, ?_⟩
     refine iteF ?_
     refine ⟨_, rfl, _, _, _, _, rfl, tyOf_of tyt, kit_tt (by decide) (by decide), _, rfl, ?_⟩
     refine iteF ?_
     refine ⟨_, rfl, _, _, rfl, .inr ⟨_, SqT.of ht, rfl⟩, rfl, _, rfl, ?_⟩
     refine iteF ?_
     refine ⟨_, rfl, t, _, _, _, rfl, rfl, SqT.of ht, rfl, _, _, _, _, rfl, tyOf_of tyw, kit_tt (by decide) (by decide), _, rfl, ?_⟩
     refine iteF ?_
     refine ⟨_, rfl, t, _, _, _, rfl, rfl, SqT.of ht, rfl, _, _, rfl, .inl ⟨_, SqL.of hpw', rfl⟩, _, rfl, _, _, rfl, .inl ⟨_, SqL.of h614, rfl⟩, _, _, rfl, rfl, rfl, _, rfl, ?_⟩
     have e1 : (!decide (V.int (((W.map V.str).length : Nat) : Int) = V.int ((((xs.drop (n + 1)).length : Nat) : Int) + 1))) = false := by
      have e : (((W.map V.str).length : Nat) : Int) = (((xs.drop (n + 1)).length : Nat) : Int) + 1 := by rw [wm, el]; omega
      rw [e]; simp
     refine ite2 (fun h => absurd (e1.symm.trans h) (by decide)) (fun _ => ?_)
     refine ⟨_, rfl, t, _, _, _, rfl, rfl, SqT.of ht, rfl, pw, _, _, _, rfl, rfl, SqL.of hpw', at0, _, rfl, _, rfl, _, rfl, ab, _, _, _, rfl, rfl, SqL.of hD14.br, atb, as, _, _, _, rfl, rfl, SqL.of hD14.st, atI_nat hy, sa, _, _, _, rfl, rfl, SqT.of hsa14, rfl, rfl, _, rfl, ?_⟩
     have e2 : ∀ z : Str, (!decide (V.str z = V.str z)) = false := fun z => by simp
     refine ite2 (fun h => absurd ((e2 x).symm.trans h) (by decide)) (fun _ => ?_)
     refine ⟨_, rfl, t, _, _, _, rfl, rfl, SqT.of ht, rfl, 1, rfl, pw, _, _, _, rfl, rfl, SqL.of hpw', lastW, _, rfl, rfl, _, rfl, ?_⟩
     refine ite2 (fun h => absurd ((e2 pl).symm.trans h) (by decide)) (fun _ => ?_)
     have fwx14 := fwx.same s814
     refine ⟨_, rfl, t, _, _, _, rfl, rfl, SqT.of ht, rfl, _, rfl, _, rfl, dl, wx, rfl, dgs s814, _, _, hfv.rep, fwx14.rep, pq_depth _ _, _, rfl, ?_⟩
     rw [eqv_pq, fq_dec, decide_eq_true rfl]
     refine iteF ?_
     refine ⟨_, rfl, t, _, _, _, rfl, rfl, SqT.of ht, rfl, _, rfl, pw, l6, L, _, sr, x, W, rfl, hpw', h614, steps_same hPd s014, hOr, by omega, way, fun v15 H15 s15 f15 => ?_⟩
     rw [hshr] at f15
     refine ⟨_, rfl, _, rfl, dl, wx, rfl, dgs (s814.trans s15), _, _, f15.rep, (fwx14.same s15).rep, pq_depth _ _, _, rfl, ?_⟩
     rw [eqv_pq, fq_dec, decide_eq_true rfl]
     refine iteF ?_
     exact ⟨_, _, rfl, s814.trans s15⟩
   ·rintro σ H9 ⟨v8, v9, rfl, s9⟩
    exact k _ (s08.trans s9)
noncomputable abbrev s_law : Stmt := top 50
theorem sc_law : FnScope ["_law_script_here", "_law_names_here", "_law_house_here", "_law_places", "_law_totals", "_law_name", "_law_year", "_law_deeds", "_law_steps", "_law_brings", "_law_ends", "_law_k"] ["_law_script_here"] (defScope s_law) := scF
theorem ok_law {ca : Ca} {f : Addr} {fd : FuncData} (D : Fun K "law" "law" s_law f fd) (T : Txt K mg ca) (G__law_names : FnAt P w K mg base CX0 1 "_law_names" ["_law_cell"] (spNm9)) (G__law_cell_at : FnAt P w K mg base CX0 1 "_law_cell_at" ["_law_script_here", "_law_k"] (spCell K)) (G__law_house : FnAt P w K mg base CX0 3 "_law_house" ["_law_cell", "_law_names_here"] (spHouse9)) (G__law_script : FnAt P w K mg base CX0 8 "_law_script" ["_law_house_here", "_law_totals", "_law_names_here", "_law_year", "_law_cells"] (spScript2)) (G__law_forth_right : FnAt P w K mg base CX0 7 "_law_forth_right" ["_law_names_here", "_law_steps", "_law_brings"] (spForthR K)) (G__law_back_right : FnAt P w K mg base CX0 7 "_law_back_right" ["_law_names_here", "_law_steps", "_law_brings", "_law_ends", "_law_totals"] (spBackR K)) (G__law_ways_right : FnAt P w K mg base CX0 7 "_law_ways_right" ["_law_names_here", "_law_steps", "_law_brings", "_law_k"] (spWaysR K)) : FnOk P w K mg base CX0 9 f fd ["_law_script_here"] (spLaw K) := by
 refine D.ok sc_law (fun vs H Q E h => ?_) (fun cdv A outer s H vs Q E hr h => ?_)
 ·obtain ⟨a, ns, rfl, hS, hlen, k⟩ := h; rfl
 ·obtain ⟨a, ns, rfl, hS, hlen, k⟩ := h
  have nd := sc_law.nd
  refine ⟨_, (pss_cons (ps_set (i := 1) nd rfl (Or.inl rfl) (pfn G__law_names hr (pa_cons (pfn G__law_cell_at hr (pa_cons (pv 0) (pa_cons pe_int pa_nil))) pa_nil)))
   (pss_cons (ps_set (i := 2) nd rfl (Or.inl rfl) (pfn G__law_house hr (pa_cons (pfn G__law_cell_at hr (pa_cons (pv 0) (pa_cons pe_int pa_nil))) (pa_cons (pv 1) pa_nil))))
   (pss_cons (ps_setcomp ["_law_place"] [] [] (i := 3) nd rfl rfl rfl (by rfl) (pi_list' (K := K) rfl (pv 2)) (fun _ _ _ _ => (pg_name (i := 0) (show List.Nodup (["_law_place"] : List Str) from by decide) rfl (Or.inl rfl))) (fun _ _ _ _ => pif_none) (fun _ _ _ _ => (pixT (pv 0) pe_int)))
   (pss_cons (ps_set (i := 4) nd rfl (Or.inl rfl) pe_dnewK)
   (pss_cons (ps_for PassesOwn.never rfl (pi_list' (K := K) rfl (pv 3)) (pg_name (i := 5) nd rfl (Or.inl rfl)) (pss_one (ps_dput (hu_of hr) (pv 4) (pv 5) (pe_tup (pa_cons pe_int (pa_cons pe_int pa_nil))) rfl)))
   (pss_cons (ps_set (i := 6) nd rfl (Or.inl rfl) (pe_op op_add pe_int (pe_op op_modN (pe_op op_fdivB (pfn G__law_cell_at hr (pa_cons (pv 0) (pa_cons pe_int pa_nil))) pe_int) pe_int)))
   (pss_cons (ps_asg (pfn G__law_script hr (pa_cons (pv 2) (pa_cons (pv 4) (pa_cons (pv 1) (pa_cons (pv 6) (pa_cons (pe_slice (sl_list' (K := K) rfl) (pv 0) (po_some pe_int) (po_some pe_int)) pa_nil)))))) (pg_tup rfl (pgs_cons (pg_name (i := 7) nd rfl (Or.inl rfl)) (pgs_cons (pg_name (i := 8) nd rfl (Or.inr rfl)) (pgs_cons (pg_name (i := 6) nd rfl (Or.inl rfl)) pgs_nil)))))
   (pss_cons (ps_setcomp ["_law_at"] ["_law_steps"] [8] (i := 9) nd rfl rfl rfl (by rfl) (pi_range1 (by rfl) T.z_range (pa_cons (pe_callB (call_len' (K := K) rfl) (by rfl) T.z_len PySem.boot_len (pa_cons (pv 8) pa_nil)) pa_nil)) (fun _ _ _ _ => (pg_name (i := 0) (show List.Nodup (["_law_at", "_law_steps"] : List Str) from by decide) rfl (Or.inl rfl))) (fun _ _ _ _ => (pif_one (pt_cmpR op_eq (pixT (pixL (pv 1) (pv 0)) pe_int) pe_str (nomark _)))) (fun _ _ _ _ => (pv 0)))
   (pss_cons (ps_set (i := 10) nd rfl (Or.inl rfl) (pfn G__law_forth_right hr (pa_cons (pv 3) (pa_cons (pv 8) (pa_cons (pv 9) pa_nil)))))
   (pss_cons (ps_if (PW.pt (pw_or (pt_cmpR op_isN (pv 10) pe_non (nomark _)) (pw_or1 (pt_not (pt_val (pfn G__law_back_right hr (pa_cons (pv 3) (pa_cons (pv 8) (pa_cons (pv 9) (pa_cons (pv 10) (pa_cons (pv 4) pa_nil))))))))))) (pss_one (ps_ret pe_bl)) pss_nil)
   (pss_cons (ps_for PassesOwn.never rfl (pi_range1 (by rfl) T.z_range (pa_cons (pe_callB (call_len' (K := K) rfl) (by rfl) T.z_len PySem.boot_len (pa_cons (pv 9) pa_nil)) pa_nil)) (pg_name (i := 11) nd rfl (Or.inl rfl)) (pss_one (ps_if (pt_not (pt_val (pfn G__law_ways_right hr (pa_cons (pv 3) (pa_cons (pv 8) (pa_cons (pv 9) (pa_cons (pv 11) pa_nil))))))) (pss_one (ps_ret pe_bl)) pss_nil)))
   (pss_one (ps_ret pe_bl))))))))))))), ?_⟩
  refine ⟨_, rfl, a, ns, 0, rfl, hS, by decide, fun c0 => ⟨c0, rfl, fun an H1 L s1 hN => ?_⟩⟩
  refine ⟨_, rfl, a, ns, 1, rfl, s1.seq hS, by decide, fun c1 => ⟨_, rfl, c1, an, L, rfl, hN, fun ph H2 hxs ps hph s2 h2 hP hH ro c2 sk => ?_⟩⟩
  have s02 := s1.trans s2
  have hlen : hxs.length = ps.length := hP.length
  have p8 := hH.len
  have hN2 : NmV H2 an L := ⟨s2 _ _ hN.1, hN.2⟩
  refine ⟨_, rfl, ph, rfl, ⟨_, SqL.of h2⟩, fun D hD => ?_⟩
  refine block_list (xs := hxs) (fun j σ' H' => ∃ (v : Option V), σ' = [v] /\ Same H2 H' /\ H' D = some (.lst ((allN (ps.take j)).map V.str))) ⟨none, rfl, Same.upd hD, upd_same⟩ ?_ ?_ ?_
  ·rintro j σ' H' hj ⟨v, rfl, s3, hd⟩
   exact SqL.of (s3 _ _ h2)
  ·rintro j y σ' H' hy ⟨v, rfl, s3, hd⟩
   obtain ⟨p, hp, pv⟩ := paired_get hP hy
   obtain ⟨b, ys, rfl, hb, _, e1⟩ := pv.at
   refine ⟨_, rfl, b, _, _, _, rfl, rfl, SqT.of (s3 _ _ hb), e1, _, hd, ?_, _, rfl, s3.updD hD, ?_⟩
   ·rw [List.length_map]
    unfold allN
    rw [List.length_map, List.length_take]
    exact sz (by omega)
   ·unfold allN
    rw [upd_same, take_one hp, List.map_append, List.map_append]; rfl
  rintro σ' H3 ⟨v, rfl, s3, hA3⟩
  rw [hlen, List.take_length] at hA3
  have al8 : (allN ps).length <= 8 := by unfold allN; rw [List.length_map]; exact p8
  intro pt hpt
  have tp := Same.upd (o := .dK []) hpt
  have s23 := s3.trans tp
  refine ⟨_, rfl, D, rfl, ⟨_, SqL.of (tp _ _ hA3)⟩, ?_⟩
  refine for_list (xs := (allN ps).map V.str) (fun i σ H4 => ∃ (v5 : Option V) (kv : List (Key × V)), σ = [some (.ref a), some (.ref an), some (.ref ph), some (.ref D), some (.ref pt), v5, none, none, none, none, none, none] /\ Same H3 H4 /\ H4 pt = some (.dK kv) /\ RowAt H4 kv (all ((allN ps).take i) fun _ => 0)) ⟨none, [], rfl, tp, upd_same, (by rw [List.take_zero]; exact (all_nil _) ▸ RowAt.nil _)⟩ ?_ ?_ ?_
  ·rintro i σ H4 hi ⟨v5, kv, rfl, s4, h4, row⟩
   exact SqL.of (s4 _ _ hA3)
  ·rintro i x σ H4 hx ⟨v5, kv, rfl, s4, h4, row⟩
   obtain ⟨nm, rfl, hnm⟩ := str_get hx
   have len : kv.length <= 8 := by
    have := row.lenO fun z hz => all_sub hz
    rw [List.length_take] at this
    omega
   refine ⟨sz (by simp), fun q hq => ?_⟩
   have tq := Same.upd (o := .tup [.int 0, .int 1]) hq
   have h4q := tq _ _ h4
   refine ⟨_, rfl, _, rfl, pt, upd (upd H4 q (.tup [.int 0, .int 1])) pt (.dK (putK kv (.inr nm) (.ref q))), rfl, DPut.k (k := .inr nm) h4q (sz (by omega)), ?_⟩
   refine ⟨_, putK kv (.inr nm) (.ref q), rfl, (s4.trans tq).updD hpt, upd_same, ?_⟩
   rw [take_one hnm, all_snoc]
   exact ((row.same fun _ _ g => g.same tq).put (z := nm) (r := 0) (FrV.newOf rfl rfl)).same fun v r g => g.tup (tup_of h4q (fun _ z => nomatch z))
  rintro σ H4 ⟨v5, kv, rfl, s4, h4, row⟩
  rw [List.length_map, List.take_length] at row
  have s24 := s3.trans s4
  have s04 := s02.trans s24
  refine ⟨_, rfl, a, ns, 1, rfl, s04.seq hS, by decide, fun c3 => ⟨_, _, rfl, rfl, ddv (by decide) (by decide), _, _, rfl, rfl, (show (150 : Int) ≠ 0 by decide), _, _, rfl, rfl, ?_⟩⟩
  obtain ⟨ms, ems, hms⟩ := cut36 ns
  refine ⟨_, rfl, _, rfl, _, rfl, _, rfl, _, rfl, 2, rfl, 38, rfl, a, _, rfl, s04.seq hS, fun q2 u2 => ?_⟩
  have t5 := Same.upd (o := .lst (cutV (ns.map V.int) (some 2) (some 38))) u2
  have e5 := upd_same (H := H4) (a := q2) (o := .lst (cutV (ns.map V.int) (some 2) (some 38)))
  rw [ems] at t5 e5 ⊢
  generalize upd H4 q2 (.lst (ms.map V.int)) = H5 at *
  have s25 := s24.trans t5
  have hs5 : HsV H5 ph ps := ⟨hxs, s25 _ _ h2, house_same hP s25, hH, ro, c2⟩
  have to5 : ToV H5 pt ps (fun _ => 0) := ⟨kv, t5 _ _ h4, row.same fun _ _ g => g.same t5⟩
  have hpt5 := t5 _ _ h4
  have hA5 := t5 _ _ (s4 _ _ hA3)
  refine ⟨ph, pt, an, q2, ps, L, _, ms, rfl, ⟨hs5, to5, InT.zero ro, by decide⟩, ⟨s25 _ _ hN2.1, hN.2⟩, sk, e5, hms, fun r pd pS y H6 xs ss fr6 hr6 hS6 hP6 hO hQ h18 to6 b6 => ?_⟩
  have hA6 := fr6 _ _ hA5 (ne_of hA5 hpt5 (by intro z; cases z))
  refine ⟨r, _, rfl, SqT.of hr6, rfl, _, _, rfl, _, _, rfl, _, _, rfl, rfl, ?_⟩
  have xl : xs.length = ss.length := hP6.length
  refine ⟨_, rfl, _, _, rfl, .inl ⟨_, SqL.of hS6, rfl⟩, _, rfl, by omega, by omega, fun D2 hD2 => ?_⟩
  refine block_range (fun j σ' H' => ∃ (v : Option V), σ' = [v, some (.ref pS)] /\ Same H6 H' /\ H' D2 = some (.lst ((brIx 0 (ss.take j)).map fun n => V.int (n : Nat)))) ⟨none, rfl, Same.upd hD2, upd_same⟩ ?_ ?_
  ·rintro j σ' H' hj ⟨v, rfl, s7, hd⟩
   have hj : j < ss.length := by
    have hj : j < ((xs.length : Nat) : Int).toNat := hj
    rw [xl] at hj; simpa using hj
   obtain ⟨yv, hyv⟩ : ∃ yv, xs[j]? = some yv := ⟨_, List.getElem?_eq_getElem (by omega)⟩
   obtain ⟨st, hst, sv⟩ := paired_get hP6 hyv
   have hat : atI xs (0 + (j : Int)) = some yv := by rw [Int.zero_add]; exact atI_nat hyv
   have et : ss.take (j + 1) = ss.take j ++ [st] := take_one hst
   have ltk : (ss.take j).length = j := by rw [List.length_take]; omega
   have hbl := brIx_len 0 (ss.take j)
   have hbl2 := brL_len (ss.take j)
   cases st with
   | br z' yr' x' q' =>
    obtain ⟨b, l, f, rfl, hb, _, _⟩ := sv
    refine ⟨_, rfl, _, rfl, pS, _, _, _, rfl, rfl, SqL.of (s7 _ _ hS6), hat, b, _, _, _, rfl, rfl, SqT.of (s7 _ _ hb), rfl, rfl, _, rfl, ?_⟩
    refine dec_true rfl ?_
    refine ⟨_, rfl, _, hd, by rw [List.length_map]; exact sz (by omega), _, rfl, s7.updD hD2, ?_⟩
    rw [upd_same, et, brIx_snoc, List.map_append]
    have e : V.int (0 + (j : Int)) = V.int ((0 + (ss.take j).length : Nat) : Int) := by
     rw [ltk, Int.zero_add, Nat.zero_add]
    rw [e]; rfl
   | ps x' y' u' =>
    obtain ⟨b, f, rfl, hb, _⟩ := sv
    refine ⟨_, rfl, _, rfl, pS, _, _, _, rfl, rfl, SqL.of (s7 _ _ hS6), hat, b, _, _, _, rfl, rfl, SqT.of (s7 _ _ hb), rfl, rfl, _, rfl, ?_⟩
    refine dec_false (by decide +kernel) ?_
    refine ⟨_, rfl, s7, ?_⟩
    rw [hd, et, brIx_snoc, List.map_append]
    show _ = some (HO.lst (_ ++ []))
    rw [List.append_nil]
  rintro σ' H7 ⟨v, rfl, s7, hB7⟩
  have hB7 : H7 D2 = some (.lst ((brIx 0 ss).map fun n => V.int (n : Nat))) := by
   have e : ((xs.length : Nat) : Int).toNat = ss.length := by rw [xl]; simp
   have hB7 : H7 D2 = some (.lst ((brIx 0 (ss.take ((xs.length : Nat) : Int).toNat)).map fun n => V.int (n : Nat))) := hB7
   rw [e, List.take_length] at hB7; exact hB7
  have hd7 : Hd K H7 D pS D2 (allN ps) xs ss := ⟨s7 _ _ hA6, hH.nd, al8, s7 _ _ hS6, steps_same hP6 s7, hO, hQ, h18, hB7⟩
  refine ⟨_, rfl, _, rfl, _, rfl, D, pS, D2, allN ps, xs, ss, rfl, hd7, fun pe H8 s8 hE => ?_⟩
  refine ⟨_, rfl, rfl, _, rfl, ?_⟩
  refine dec_false (by intro z; cases z) ?_
  refine ⟨_, rfl, _, rfl, _, rfl, _, rfl, _, rfl, D, pS, D2, pe, pt, ps, xs, ss, rfl, hd7.same s8, hE, (to6.same s7).same s8, b6, fun H9 s9 => ⟨_, rfl, ?_⟩⟩
  refine iteF ?_
  have hd9 := (hd7.same s8).same s9
  have ibl : ((brIx 0 ss).map fun n => V.int (n : Nat)).length = (brIx 0 ss).length := List.length_map ..
  have bl := brIx_len 0 ss
  have bl2 := brL_len ss
  refine ⟨_, rfl, _, _, rfl, .inl ⟨_, SqL.of hd9.br, rfl⟩, _, rfl, by rw [ibl]; omega, by rw [ibl]; omega, ?_⟩
  refine for_range (fun j σ H10 => ∃ (v11 : Option V), σ = [some (.ref a), some (.ref an), some (.ref ph), some (.ref D), some (.ref pt), v5, some (.int y), some (.ref pd), some (.ref pS), some (.ref D2), some (.ref pe), v11] /\ Same H9 H10) ⟨none, rfl, Same.refl _⟩ ?_ ?_
  ·rintro j σ H10 hj ⟨v11, rfl, s10⟩
   have hj : j < (brIx 0 ss).length := by
    have hj : j < ((((brIx 0 ss).map fun n => V.int (n : Nat)).length : Nat) : Int).toNat := hj
    rw [ibl] at hj; simpa using hj
   obtain ⟨n, hn⟩ : ∃ n, (brIx 0 ss)[j]? = some n := ⟨_, List.getElem?_eq_getElem hj⟩
   refine ⟨_, rfl, _, rfl, _, rfl, _, rfl, D, pS, D2, allN ps, xs, ss, j, n, (by show [V.ref D, V.ref pS, V.ref D2, V.int (0 + (j : Int))] = _; rw [Int.zero_add]), hd9.same s10, hn, fun H11 s11 => ⟨_, rfl, ?_⟩⟩
   refine iteF ?_
   exact ⟨_, rfl, s10.trans s11⟩
  ·rintro σ H10 ⟨v11, rfl, s10⟩
   exact k H10
end
end T62
namespace T62
open PySem L2 Tc
theorem all_mk {l : PySem.W.OpenLaw} {w : World} {K : PySem.W.Frag} {h : Heap} {mg : Str -> Option Value} {fa : Addr} (X : K.In h) (G : h.Ns mainGlobals mg) (hfa : mg "law" = some (.ref fa))
  {k_NoNumber : Addr}
  {f0 : Addr} {oc0 kV0 dc0 pm0 cd0 ct0 : Value} {od0 an0 : Option Addr} {sl0 : Array (Option Value)}
  {f1 : Addr} {oc1 kV1 dc1 pm1 cd1 ct1 : Value} {od1 an1 : Option Addr} {sl1 : Array (Option Value)}
  {f2 : Addr} {oc2 kV2 dc2 pm2 cd2 ct2 : Value} {od2 an2 : Option Addr} {sl2 : Array (Option Value)}
  {f3 : Addr} {oc3 kV3 dc3 pm3 cd3 ct3 : Value} {od3 an3 : Option Addr} {sl3 : Array (Option Value)}
  {f4 : Addr} {oc4 kV4 dc4 pm4 cd4 ct4 : Value} {od4 an4 : Option Addr} {sl4 : Array (Option Value)}
  {f5 : Addr} {oc5 kV5 dc5 pm5 cd5 ct5 : Value} {od5 an5 : Option Addr} {sl5 : Array (Option Value)}
  {f6 : Addr} {oc6 kV6 dc6 pm6 cd6 ct6 : Value} {od6 an6 : Option Addr} {sl6 : Array (Option Value)}
  {f7 : Addr} {oc7 kV7 dc7 pm7 cd7 ct7 : Value} {od7 an7 : Option Addr} {sl7 : Array (Option Value)}
  {f8 : Addr} {oc8 kV8 dc8 pm8 cd8 ct8 : Value} {od8 an8 : Option Addr} {sl8 : Array (Option Value)}
  {f9 : Addr} {oc9 kV9 dc9 pm9 cd9 ct9 : Value} {od9 an9 : Option Addr} {sl9 : Array (Option Value)}
  {f10 : Addr} {oc10 kV10 dc10 pm10 cd10 ct10 : Value} {od10 an10 : Option Addr} {sl10 : Array (Option Value)}
  {f11 : Addr} {oc11 kV11 dc11 pm11 cd11 ct11 : Value} {od11 an11 : Option Addr} {sl11 : Array (Option Value)}
  {f12 : Addr} {oc12 kV12 dc12 pm12 cd12 ct12 : Value} {od12 an12 : Option Addr} {sl12 : Array (Option Value)}
  {f13 : Addr} {oc13 kV13 dc13 pm13 cd13 ct13 : Value} {od13 an13 : Option Addr} {sl13 : Array (Option Value)}
  {f14 : Addr} {oc14 kV14 dc14 pm14 cd14 ct14 : Value} {od14 an14 : Option Addr} {sl14 : Array (Option Value)}
  {f15 : Addr} {oc15 kV15 dc15 pm15 cd15 ct15 : Value} {od15 an15 : Option Addr} {sl15 : Array (Option Value)}
  {f16 : Addr} {oc16 kV16 dc16 pm16 cd16 ct16 : Value} {od16 an16 : Option Addr} {sl16 : Array (Option Value)}
  {f17 : Addr} {oc17 kV17 dc17 pm17 cd17 ct17 : Value} {od17 an17 : Option Addr} {sl17 : Array (Option Value)}
  {f18 : Addr} {oc18 kV18 dc18 pm18 cd18 ct18 : Value} {od18 an18 : Option Addr} {sl18 : Array (Option Value)}
  {f19 : Addr} {oc19 kV19 dc19 pm19 cd19 ct19 : Value} {od19 an19 : Option Addr} {sl19 : Array (Option Value)}
  {f20 : Addr} {oc20 kV20 dc20 pm20 cd20 ct20 : Value} {od20 an20 : Option Addr} {sl20 : Array (Option Value)}
  {f21 : Addr} {oc21 kV21 dc21 pm21 cd21 ct21 : Value} {od21 an21 : Option Addr} {sl21 : Array (Option Value)}
  {f22 : Addr} {oc22 kV22 dc22 pm22 cd22 ct22 : Value} {od22 an22 : Option Addr} {sl22 : Array (Option Value)}
  {f23 : Addr} {oc23 kV23 dc23 pm23 cd23 ct23 : Value} {od23 an23 : Option Addr} {sl23 : Array (Option Value)}
  {f24 : Addr} {oc24 kV24 dc24 pm24 cd24 ct24 : Value} {od24 an24 : Option Addr} {sl24 : Array (Option Value)}
  {f25 : Addr} {oc25 kV25 dc25 pm25 cd25 ct25 : Value} {od25 an25 : Option Addr} {sl25 : Array (Option Value)}
  {f26 : Addr} {oc26 kV26 dc26 pm26 cd26 ct26 : Value} {od26 an26 : Option Addr} {sl26 : Array (Option Value)}
  {f27 : Addr} {oc27 kV27 dc27 pm27 cd27 ct27 : Value} {od27 an27 : Option Addr} {sl27 : Array (Option Value)}
  {f28 : Addr} {oc28 kV28 dc28 pm28 cd28 ct28 : Value} {od28 an28 : Option Addr} {sl28 : Array (Option Value)}
  {f29 : Addr} {oc29 kV29 dc29 pm29 cd29 ct29 : Value} {od29 an29 : Option Addr} {sl29 : Array (Option Value)}
  {f30 : Addr} {oc30 kV30 dc30 pm30 cd30 ct30 : Value} {od30 an30 : Option Addr} {sl30 : Array (Option Value)}
  {f31 : Addr} {oc31 kV31 dc31 pm31 cd31 ct31 : Value} {od31 an31 : Option Addr} {sl31 : Array (Option Value)}
  {f32 : Addr} {oc32 kV32 dc32 pm32 cd32 ct32 : Value} {od32 an32 : Option Addr} {sl32 : Array (Option Value)}
  {f33 : Addr} {oc33 kV33 dc33 pm33 cd33 ct33 : Value} {od33 an33 : Option Addr} {sl33 : Array (Option Value)}
  {f34 : Addr} {oc34 kV34 dc34 pm34 cd34 ct34 : Value} {od34 an34 : Option Addr} {sl34 : Array (Option Value)}
  {f35 : Addr} {oc35 kV35 dc35 pm35 cd35 ct35 : Value} {od35 an35 : Option Addr} {sl35 : Array (Option Value)}
  {f36 : Addr} {oc36 kV36 dc36 pm36 cd36 ct36 : Value} {od36 an36 : Option Addr} {sl36 : Array (Option Value)}
  {f37 : Addr} {oc37 kV37 dc37 pm37 cd37 ct37 : Value} {od37 an37 : Option Addr} {sl37 : Array (Option Value)}
  {f38 : Addr} {oc38 kV38 dc38 pm38 cd38 ct38 : Value} {od38 an38 : Option Addr} {sl38 : Array (Option Value)}
  {f39 : Addr} {oc39 kV39 dc39 pm39 cd39 ct39 : Value} {od39 an39 : Option Addr} {sl39 : Array (Option Value)}
  {f40 : Addr} {oc40 kV40 dc40 pm40 cd40 ct40 : Value} {od40 an40 : Option Addr} {sl40 : Array (Option Value)}
  {f41 : Addr} {oc41 kV41 dc41 pm41 cd41 ct41 : Value} {od41 an41 : Option Addr} {sl41 : Array (Option Value)}
  {f42 : Addr} {oc42 kV42 dc42 pm42 cd42 ct42 : Value} {od42 an42 : Option Addr} {sl42 : Array (Option Value)}
  (a0 : PySem.W.nsIn K mainGlobals "common_divisor" = some (some (.ref f0))) (l0 : K.lookup f0 = some ⟨oc0, od0, .func (PySem.W.fnOf "common_divisor" "common_divisor" (defArgs s_common_divisor) (defBody s_common_divisor) (defScope s_common_divisor) .none kV0 dc0 pm0 an0 cd0 ct0), sl0⟩) (c0 : PySem.W.codeIn K cd0 "common_divisor" = true) (k0 : PySem.W.keepIn K (.ref f0) = true)
  (a1 : PySem.W.nsIn K mainGlobals "plus" = some (some (.ref f1))) (l1 : K.lookup f1 = some ⟨oc1, od1, .func (PySem.W.fnOf "plus" "plus" (defArgs s_plus) (defBody s_plus) (defScope s_plus) .none kV1 dc1 pm1 an1 cd1 ct1), sl1⟩) (c1 : PySem.W.codeIn K cd1 "plus" = true) (k1 : PySem.W.keepIn K (.ref f1) = true)
  (a2 : PySem.W.nsIn K mainGlobals "minus" = some (some (.ref f2))) (l2 : K.lookup f2 = some ⟨oc2, od2, .func (PySem.W.fnOf "minus" "minus" (defArgs s_minus) (defBody s_minus) (defScope s_minus) .none kV2 dc2 pm2 an2 cd2 ct2), sl2⟩) (c2 : PySem.W.codeIn K cd2 "minus" = true) (k2 : PySem.W.keepIn K (.ref f2) = true)
  (a3 : PySem.W.nsIn K mainGlobals "times" = some (some (.ref f3))) (l3 : K.lookup f3 = some ⟨oc3, od3, .func (PySem.W.fnOf "times" "times" (defArgs s_times) (defBody s_times) (defScope s_times) .none kV3 dc3 pm3 an3 cd3 ct3), sl3⟩) (c3 : PySem.W.codeIn K cd3 "times" = true) (k3 : PySem.W.keepIn K (.ref f3) = true)
  (a4 : PySem.W.nsIn K mainGlobals "over" = some (some (.ref f4))) (l4 : K.lookup f4 = some ⟨oc4, od4, .func (PySem.W.fnOf "over" "over" (defArgs s_over) (defBody s_over) (defScope s_over) .none kV4 dc4 pm4 an4 cd4 ct4), sl4⟩) (c4 : PySem.W.codeIn K cd4 "over" = true) (k4 : PySem.W.keepIn K (.ref f4) = true)
  (a5 : PySem.W.nsIn K mainGlobals "under" = some (some (.ref f5))) (l5 : K.lookup f5 = some ⟨oc5, od5, .func (PySem.W.fnOf "under" "under" (defArgs s_under) (defBody s_under) (defScope s_under) .none kV5 dc5 pm5 an5 cd5 ct5), sl5⟩) (c5 : PySem.W.codeIn K cd5 "under" = true) (k5 : PySem.W.keepIn K (.ref f5) = true)
  (a6 : PySem.W.nsIn K mainGlobals "sum_of" = some (some (.ref f6))) (l6 : K.lookup f6 = some ⟨oc6, od6, .func (PySem.W.fnOf "sum_of" "sum_of" (defArgs s_sum_of) (defBody s_sum_of) (defScope s_sum_of) .none kV6 dc6 pm6 an6 cd6 ct6), sl6⟩) (c6 : PySem.W.codeIn K cd6 "sum_of" = true) (k6 : PySem.W.keepIn K (.ref f6) = true)
  (a7 : PySem.W.nsIn K mainGlobals "unmoved" = some (some (.ref f7))) (l7 : K.lookup f7 = some ⟨oc7, od7, .func (PySem.W.fnOf "unmoved" "unmoved" (defArgs s_unmoved) (defBody s_unmoved) (defScope s_unmoved) .none kV7 dc7 pm7 an7 cd7 ct7), sl7⟩) (c7 : PySem.W.codeIn K cd7 "unmoved" = true) (k7 : PySem.W.keepIn K (.ref f7) = true)
  (a8 : PySem.W.nsIn K mainGlobals "add_shares" = some (some (.ref f8))) (l8 : K.lookup f8 = some ⟨oc8, od8, .func (PySem.W.fnOf "add_shares" "add_shares" (defArgs s_add_shares) (defBody s_add_shares) (defScope s_add_shares) .none kV8 dc8 pm8 an8 cd8 ct8), sl8⟩) (c8 : PySem.W.codeIn K cd8 "add_shares" = true) (k8 : PySem.W.keepIn K (.ref f8) = true)
  (a9 : PySem.W.nsIn K mainGlobals "passed" = some (some (.ref f9))) (l9 : K.lookup f9 = some ⟨oc9, od9, .func (PySem.W.fnOf "passed" "passed" (defArgs s_passed) (defBody s_passed) (defScope s_passed) .none kV9 dc9 pm9 an9 cd9 ct9), sl9⟩) (c9 : PySem.W.codeIn K cd9 "passed" = true) (k9 : PySem.W.keepIn K (.ref f9) = true)
  (a10 : PySem.W.nsIn K mainGlobals "brought" = some (some (.ref f10))) (l10 : K.lookup f10 = some ⟨oc10, od10, .func (PySem.W.fnOf "brought" "brought" (defArgs s_brought) (defBody s_brought) (defScope s_brought) .none kV10 dc10 pm10 an10 cd10 ct10), sl10⟩) (c10 : PySem.W.codeIn K cd10 "brought" = true) (k10 : PySem.W.keepIn K (.ref f10) = true)
  (a11 : PySem.W.nsIn K mainGlobals "forth" = some (some (.ref f11))) (l11 : K.lookup f11 = some ⟨oc11, od11, .func (PySem.W.fnOf "forth" "forth" (defArgs s_forth) (defBody s_forth) (defScope s_forth) .none kV11 dc11 pm11 an11 cd11 ct11), sl11⟩) (c11 : PySem.W.codeIn K cd11 "forth" = true) (k11 : PySem.W.keepIn K (.ref f11) = true)
  (a12 : PySem.W.nsIn K mainGlobals "back" = some (some (.ref f12))) (l12 : K.lookup f12 = some ⟨oc12, od12, .func (PySem.W.fnOf "back" "back" (defArgs s_back) (defBody s_back) (defScope s_back) .none kV12 dc12 pm12 an12 cd12 ct12), sl12⟩) (c12 : PySem.W.codeIn K cd12 "back" = true) (k12 : PySem.W.keepIn K (.ref f12) = true)
  (a13 : PySem.W.nsIn K mainGlobals "bring_at" = some (some (.ref f13))) (l13 : K.lookup f13 = some ⟨oc13, od13, .func (PySem.W.fnOf "bring_at" "bring_at" (defArgs s_bring_at) (defBody s_bring_at) (defScope s_bring_at) .none kV13 dc13 pm13 an13 cd13 ct13), sl13⟩) (c13 : PySem.W.codeIn K cd13 "bring_at" = true) (k13 : PySem.W.keepIn K (.ref f13) = true)
  (a14 : PySem.W.nsIn K mainGlobals "raise_share" = some (some (.ref f14))) (l14 : K.lookup f14 = some ⟨oc14, od14, .func (PySem.W.fnOf "raise_share" "raise_share" (defArgs s_raise_share) (defBody s_raise_share) (defScope s_raise_share) .none kV14 dc14 pm14 an14 cd14 ct14), sl14⟩) (c14 : PySem.W.codeIn K cd14 "raise_share" = true) (k14 : PySem.W.keepIn K (.ref f14) = true)
  (a15 : PySem.W.nsIn K mainGlobals "behind_step" = some (some (.ref f15))) (l15 : K.lookup f15 = some ⟨oc15, od15, .func (PySem.W.fnOf "behind_step" "behind_step" (defArgs s_behind_step) (defBody s_behind_step) (defScope s_behind_step) .none kV15 dc15 pm15 an15 cd15 ct15), sl15⟩) (c15 : PySem.W.codeIn K cd15 "behind_step" = true) (k15 : PySem.W.keepIn K (.ref f15) = true)
  (a16 : PySem.W.nsIn K mainGlobals "greatest_shares" = some (some (.ref f16))) (l16 : K.lookup f16 = some ⟨oc16, od16, .func (PySem.W.fnOf "greatest_shares" "greatest_shares" (defArgs s_greatest_shares) (defBody s_greatest_shares) (defScope s_greatest_shares) .none kV16 dc16 pm16 an16 cd16 ct16), sl16⟩) (c16 : PySem.W.codeIn K cd16 "greatest_shares" = true) (k16 : PySem.W.keepIn K (.ref f16) = true)
  (a17 : PySem.W.nsIn K mainGlobals "place_ahead" = some (some (.ref f17))) (l17 : K.lookup f17 = some ⟨oc17, od17, .func (PySem.W.fnOf "place_ahead" "place_ahead" (defArgs s_place_ahead) (defBody s_place_ahead) (defScope s_place_ahead) .none kV17 dc17 pm17 an17 cd17 ct17), sl17⟩) (c17 : PySem.W.codeIn K cd17 "place_ahead" = true) (k17 : PySem.W.keepIn K (.ref f17) = true)
  (a18 : PySem.W.nsIn K mainGlobals "greatest_way" = some (some (.ref f18))) (l18 : K.lookup f18 = some ⟨oc18, od18, .func (PySem.W.fnOf "greatest_way" "greatest_way" (defArgs s_greatest_way) (defBody s_greatest_way) (defScope s_greatest_way) .none kV18 dc18 pm18 an18 cd18 ct18), sl18⟩) (c18 : PySem.W.codeIn K cd18 "greatest_way" = true) (k18 : PySem.W.keepIn K (.ref f18) = true)
  (a19 : PySem.W.nsIn K mainGlobals "_law_cell_at" = some (some (.ref f19))) (l19 : K.lookup f19 = some ⟨oc19, od19, .func (PySem.W.fnOf "_law_cell_at" "_law_cell_at" (defArgs s__law_cell_at) (defBody s__law_cell_at) (defScope s__law_cell_at) .none kV19 dc19 pm19 an19 cd19 ct19), sl19⟩) (c19 : PySem.W.codeIn K cd19 "_law_cell_at" = true) (k19 : PySem.W.keepIn K (.ref f19) = true)
  (a20 : PySem.W.nsIn K mainGlobals "_law_mixed" = some (some (.ref f20))) (l20 : K.lookup f20 = some ⟨oc20, od20, .func (PySem.W.fnOf "_law_mixed" "_law_mixed" (defArgs s__law_mixed) (defBody s__law_mixed) (defScope s__law_mixed) .none kV20 dc20 pm20 an20 cd20 ct20), sl20⟩) (c20 : PySem.W.codeIn K cd20 "_law_mixed" = true) (k20 : PySem.W.keepIn K (.ref f20) = true)
  (a21 : PySem.W.nsIn K mainGlobals "_law_divisor" = some (some (.ref f21))) (l21 : K.lookup f21 = some ⟨oc21, od21, .func (PySem.W.fnOf "_law_divisor" "_law_divisor" (defArgs s__law_divisor) (defBody s__law_divisor) (defScope s__law_divisor) .none kV21 dc21 pm21 an21 cd21 ct21), sl21⟩) (c21 : PySem.W.codeIn K cd21 "_law_divisor" = true) (k21 : PySem.W.keepIn K (.ref f21) = true)
  (a22 : PySem.W.nsIn K mainGlobals "_law_lowest" = some (some (.ref f22))) (l22 : K.lookup f22 = some ⟨oc22, od22, .func (PySem.W.fnOf "_law_lowest" "_law_lowest" (defArgs s__law_lowest) (defBody s__law_lowest) (defScope s__law_lowest) .none kV22 dc22 pm22 an22 cd22 ct22), sl22⟩) (c22 : PySem.W.codeIn K cd22 "_law_lowest" = true) (k22 : PySem.W.keepIn K (.ref f22) = true)
  (a23 : PySem.W.nsIn K mainGlobals "_law_plus" = some (some (.ref f23))) (l23 : K.lookup f23 = some ⟨oc23, od23, .func (PySem.W.fnOf "_law_plus" "_law_plus" (defArgs s__law_plus) (defBody s__law_plus) (defScope s__law_plus) .none kV23 dc23 pm23 an23 cd23 ct23), sl23⟩) (c23 : PySem.W.codeIn K cd23 "_law_plus" = true) (k23 : PySem.W.keepIn K (.ref f23) = true)
  (a24 : PySem.W.nsIn K mainGlobals "_law_minus" = some (some (.ref f24))) (l24 : K.lookup f24 = some ⟨oc24, od24, .func (PySem.W.fnOf "_law_minus" "_law_minus" (defArgs s__law_minus) (defBody s__law_minus) (defScope s__law_minus) .none kV24 dc24 pm24 an24 cd24 ct24), sl24⟩) (c24 : PySem.W.codeIn K cd24 "_law_minus" = true) (k24 : PySem.W.keepIn K (.ref f24) = true)
  (a25 : PySem.W.nsIn K mainGlobals "_law_times" = some (some (.ref f25))) (l25 : K.lookup f25 = some ⟨oc25, od25, .func (PySem.W.fnOf "_law_times" "_law_times" (defArgs s__law_times) (defBody s__law_times) (defScope s__law_times) .none kV25 dc25 pm25 an25 cd25 ct25), sl25⟩) (c25 : PySem.W.codeIn K cd25 "_law_times" = true) (k25 : PySem.W.keepIn K (.ref f25) = true)
  (a26 : PySem.W.nsIn K mainGlobals "_law_under" = some (some (.ref f26))) (l26 : K.lookup f26 = some ⟨oc26, od26, .func (PySem.W.fnOf "_law_under" "_law_under" (defArgs s__law_under) (defBody s__law_under) (defScope s__law_under) .none kV26 dc26 pm26 an26 cd26 ct26), sl26⟩) (c26 : PySem.W.codeIn K cd26 "_law_under" = true) (k26 : PySem.W.keepIn K (.ref f26) = true)
  (a27 : PySem.W.nsIn K mainGlobals "_law_names" = some (some (.ref f27))) (l27 : K.lookup f27 = some ⟨oc27, od27, .func (PySem.W.fnOf "_law_names" "_law_names" (defArgs s__law_names) (defBody s__law_names) (defScope s__law_names) .none kV27 dc27 pm27 an27 cd27 ct27), sl27⟩) (c27 : PySem.W.codeIn K cd27 "_law_names" = true) (k27 : PySem.W.keepIn K (.ref f27) = true)
  (a28 : PySem.W.nsIn K mainGlobals "_law_house" = some (some (.ref f28))) (l28 : K.lookup f28 = some ⟨oc28, od28, .func (PySem.W.fnOf "_law_house" "_law_house" (defArgs s__law_house) (defBody s__law_house) (defScope s__law_house) .none kV28 dc28 pm28 an28 cd28 ct28), sl28⟩) (c28 : PySem.W.codeIn K cd28 "_law_house" = true) (k28 : PySem.W.keepIn K (.ref f28) = true)
  (a29 : PySem.W.nsIn K mainGlobals "_law_left" = some (some (.ref f29))) (l29 : K.lookup f29 = some ⟨oc29, od29, .func (PySem.W.fnOf "_law_left" "_law_left" (defArgs s__law_left) (defBody s__law_left) (defScope s__law_left) .none kV29 dc29 pm29 an29 cd29 ct29), sl29⟩) (c29 : PySem.W.codeIn K cd29 "_law_left" = true) (k29 : PySem.W.keepIn K (.ref f29) = true)
  (a30 : PySem.W.nsIn K mainGlobals "_law_amount" = some (some (.ref f30))) (l30 : K.lookup f30 = some ⟨oc30, od30, .func (PySem.W.fnOf "_law_amount" "_law_amount" (defArgs s__law_amount) (defBody s__law_amount) (defScope s__law_amount) .none kV30 dc30 pm30 an30 cd30 ct30), sl30⟩) (c30 : PySem.W.codeIn K cd30 "_law_amount" = true) (k30 : PySem.W.keepIn K (.ref f30) = true)
  (a31 : PySem.W.nsIn K mainGlobals "_law_passed" = some (some (.ref f31))) (l31 : K.lookup f31 = some ⟨oc31, od31, .func (PySem.W.fnOf "_law_passed" "_law_passed" (defArgs s__law_passed) (defBody s__law_passed) (defScope s__law_passed) .none kV31 dc31 pm31 an31 cd31 ct31), sl31⟩) (c31 : PySem.W.codeIn K cd31 "_law_passed" = true) (k31 : PySem.W.keepIn K (.ref f31) = true)
  (a32 : PySem.W.nsIn K mainGlobals "_law_deed" = some (some (.ref f32))) (l32 : K.lookup f32 = some ⟨oc32, od32, .func (PySem.W.fnOf "_law_deed" "_law_deed" (defArgs s__law_deed) (defBody s__law_deed) (defScope s__law_deed) .none kV32 dc32 pm32 an32 cd32 ct32), sl32⟩) (c32 : PySem.W.codeIn K cd32 "_law_deed" = true) (k32 : PySem.W.keepIn K (.ref f32) = true)
  (a33 : PySem.W.nsIn K mainGlobals "_law_share" = some (some (.ref f33))) (l33 : K.lookup f33 = some ⟨oc33, od33, .func (PySem.W.fnOf "_law_share" "_law_share" (defArgs s__law_share) (defBody s__law_share) (defScope s__law_share) .none kV33 dc33 pm33 an33 cd33 ct33), sl33⟩) (c33 : PySem.W.codeIn K cd33 "_law_share" = true) (k33 : PySem.W.keepIn K (.ref f33) = true)
  (a34 : PySem.W.nsIn K mainGlobals "_law_step" = some (some (.ref f34))) (l34 : K.lookup f34 = some ⟨oc34, od34, .func (PySem.W.fnOf "_law_step" "_law_step" (defArgs s__law_step) (defBody s__law_step) (defScope s__law_step) .none kV34 dc34 pm34 an34 cd34 ct34), sl34⟩) (c34 : PySem.W.codeIn K cd34 "_law_step" = true) (k34 : PySem.W.keepIn K (.ref f34) = true)
  (a35 : PySem.W.nsIn K mainGlobals "_law_script" = some (some (.ref f35))) (l35 : K.lookup f35 = some ⟨oc35, od35, .func (PySem.W.fnOf "_law_script" "_law_script" (defArgs s__law_script) (defBody s__law_script) (defScope s__law_script) .none kV35 dc35 pm35 an35 cd35 ct35), sl35⟩) (c35 : PySem.W.codeIn K cd35 "_law_script" = true) (k35 : PySem.W.keepIn K (.ref f35) = true)
  (a36 : PySem.W.nsIn K mainGlobals "_law_all" = some (some (.ref f36))) (l36 : K.lookup f36 = some ⟨oc36, od36, .func (PySem.W.fnOf "_law_all" "_law_all" (defArgs s__law_all) (defBody s__law_all) (defScope s__law_all) .none kV36 dc36 pm36 an36 cd36 ct36), sl36⟩) (c36 : PySem.W.codeIn K cd36 "_law_all" = true) (k36 : PySem.W.keepIn K (.ref f36) = true)
  (a37 : PySem.W.nsIn K mainGlobals "_law_forth_right" = some (some (.ref f37))) (l37 : K.lookup f37 = some ⟨oc37, od37, .func (PySem.W.fnOf "_law_forth_right" "_law_forth_right" (defArgs s__law_forth_right) (defBody s__law_forth_right) (defScope s__law_forth_right) .none kV37 dc37 pm37 an37 cd37 ct37), sl37⟩) (c37 : PySem.W.codeIn K cd37 "_law_forth_right" = true) (k37 : PySem.W.keepIn K (.ref f37) = true)
  (a38 : PySem.W.nsIn K mainGlobals "_law_back_right" = some (some (.ref f38))) (l38 : K.lookup f38 = some ⟨oc38, od38, .func (PySem.W.fnOf "_law_back_right" "_law_back_right" (defArgs s__law_back_right) (defBody s__law_back_right) (defScope s__law_back_right) .none kV38 dc38 pm38 an38 cd38 ct38), sl38⟩) (c38 : PySem.W.codeIn K cd38 "_law_back_right" = true) (k38 : PySem.W.keepIn K (.ref f38) = true)
  (a39 : PySem.W.nsIn K mainGlobals "_law_next" = some (some (.ref f39))) (l39 : K.lookup f39 = some ⟨oc39, od39, .func (PySem.W.fnOf "_law_next" "_law_next" (defArgs s__law_next) (defBody s__law_next) (defScope s__law_next) .none kV39 dc39 pm39 an39 cd39 ct39), sl39⟩) (c39 : PySem.W.codeIn K cd39 "_law_next" = true) (k39 : PySem.W.keepIn K (.ref f39) = true)
  (a40 : PySem.W.nsIn K mainGlobals "_law_along" = some (some (.ref f40))) (l40 : K.lookup f40 = some ⟨oc40, od40, .func (PySem.W.fnOf "_law_along" "_law_along" (defArgs s__law_along) (defBody s__law_along) (defScope s__law_along) .none kV40 dc40 pm40 an40 cd40 ct40), sl40⟩) (c40 : PySem.W.codeIn K cd40 "_law_along" = true) (k40 : PySem.W.keepIn K (.ref f40) = true)
  (a41 : PySem.W.nsIn K mainGlobals "_law_ways_right" = some (some (.ref f41))) (l41 : K.lookup f41 = some ⟨oc41, od41, .func (PySem.W.fnOf "_law_ways_right" "_law_ways_right" (defArgs s__law_ways_right) (defBody s__law_ways_right) (defScope s__law_ways_right) .none kV41 dc41 pm41 an41 cd41 ct41), sl41⟩) (c41 : PySem.W.codeIn K cd41 "_law_ways_right" = true) (k41 : PySem.W.keepIn K (.ref f41) = true)
  (a42 : PySem.W.nsIn K mainGlobals "law" = some (some (.ref f42))) (l42 : K.lookup f42 = some ⟨oc42, od42, .func (PySem.W.fnOf "law" "law" (defArgs s_law) (defBody s_law) (defScope s_law) .none kV42 dc42 pm42 an42 cd42 ct42), sl42⟩) (c42 : PySem.W.codeIn K cd42 "law" = true) (k42 : PySem.W.keepIn K (.ref f42) = true)
  (z_abs : PySem.W.nsIn K mainGlobals "abs" = some none)
  (z_dict : PySem.W.nsIn K mainGlobals "dict" = some none)
  (z_enumerate : PySem.W.nsIn K mainGlobals "enumerate" = some none)
  (z_int : PySem.W.nsIn K mainGlobals "int" = some none)
  (z_isinstance : PySem.W.nsIn K mainGlobals "isinstance" = some none)
  (z_len : PySem.W.nsIn K mainGlobals "len" = some none)
  (z_list : PySem.W.nsIn K mainGlobals "list" = some none)
  (z_range : PySem.W.nsIn K mainGlobals "range" = some none)
  (z_reversed : PySem.W.nsIn K mainGlobals "reversed" = some none)
  (z_tuple : PySem.W.nsIn K mainGlobals "tuple" = some none)
  (y_NoNumber : PySem.W.nsIn K mainGlobals "NoNumber" = some (some (.ref k_NoNumber)))
  (e_NoNumber : PySem.W.excIn K k_NoNumber [.type "ValueError", .type "Exception", .type "BaseException", .type "object"] "ValueError.__new__" = true)
  (x_NoNumber : ExcK K k_NoNumber)
  (i_NoNumber_NoNumber : PySem.W.kitOne K (.ref k_NoNumber) (.ref k_NoNumber) = some true)
  (m_NoNumber_NoNumber : PySem.W.exmOne K (.ref k_NoNumber) (.ref k_NoNumber) = some true)
  : ∃ fd : FuncData, (∀ (s : Shared) (v : Value), BindsTo s fd ⟨[v], []⟩ [("_law_script_here", v)]) /\ ∀ base : Heap, K.In base -> base.Ns mainGlobals mg -> FnOk l.prog w K mg base CX0 9 fa fd ["_law_script_here"] (spLaw K) := by
 have T : Txt K mg (⟨k_NoNumber⟩ : Ca) := ⟨PySem.W.mg_none_of X G z_abs, PySem.W.mg_none_of X G z_dict, PySem.W.mg_none_of X G z_enumerate, PySem.W.mg_none_of X G z_int, PySem.W.mg_none_of X G z_isinstance, PySem.W.mg_none_of X G z_len, PySem.W.mg_none_of X G z_list, PySem.W.mg_none_of X G z_range, PySem.W.mg_none_of X G z_reversed, PySem.W.mg_none_of X G z_tuple, PySem.W.mg_of X G y_NoNumber, e_NoNumber, x_NoNumber, i_NoNumber_NoNumber, m_NoNumber_NoNumber⟩
 have D_common_divisor : DefAt K mg "common_divisor" s_common_divisor := DefAt.mk' X G a0 l0 c0 k0
 have D_plus : DefAt K mg "plus" s_plus := DefAt.mk' X G a1 l1 c1 k1
 have D_minus : DefAt K mg "minus" s_minus := DefAt.mk' X G a2 l2 c2 k2
 have D_times : DefAt K mg "times" s_times := DefAt.mk' X G a3 l3 c3 k3
 have D_over : DefAt K mg "over" s_over := DefAt.mk' X G a4 l4 c4 k4
 have D_under : DefAt K mg "under" s_under := DefAt.mk' X G a5 l5 c5 k5
 have D_sum_of : DefAt K mg "sum_of" s_sum_of := DefAt.mk' X G a6 l6 c6 k6
 have D_unmoved : DefAt K mg "unmoved" s_unmoved := DefAt.mk' X G a7 l7 c7 k7
 have D_add_shares : DefAt K mg "add_shares" s_add_shares := DefAt.mk' X G a8 l8 c8 k8
 have D_passed : DefAt K mg "passed" s_passed := DefAt.mk' X G a9 l9 c9 k9
 have D_brought : DefAt K mg "brought" s_brought := DefAt.mk' X G a10 l10 c10 k10
 have D_forth : DefAt K mg "forth" s_forth := DefAt.mk' X G a11 l11 c11 k11
 have D_back : DefAt K mg "back" s_back := DefAt.mk' X G a12 l12 c12 k12
 have D_bring_at : DefAt K mg "bring_at" s_bring_at := DefAt.mk' X G a13 l13 c13 k13
 have D_raise_share : DefAt K mg "raise_share" s_raise_share := DefAt.mk' X G a14 l14 c14 k14
 have D_behind_step : DefAt K mg "behind_step" s_behind_step := DefAt.mk' X G a15 l15 c15 k15
 have D_greatest_shares : DefAt K mg "greatest_shares" s_greatest_shares := DefAt.mk' X G a16 l16 c16 k16
 have D_place_ahead : DefAt K mg "place_ahead" s_place_ahead := DefAt.mk' X G a17 l17 c17 k17
 have D_greatest_way : DefAt K mg "greatest_way" s_greatest_way := DefAt.mk' X G a18 l18 c18 k18
 have D__law_cell_at : DefAt K mg "_law_cell_at" s__law_cell_at := DefAt.mk' X G a19 l19 c19 k19
 have D__law_mixed : DefAt K mg "_law_mixed" s__law_mixed := DefAt.mk' X G a20 l20 c20 k20
 have D__law_divisor : DefAt K mg "_law_divisor" s__law_divisor := DefAt.mk' X G a21 l21 c21 k21
 have D__law_lowest : DefAt K mg "_law_lowest" s__law_lowest := DefAt.mk' X G a22 l22 c22 k22
 have D__law_plus : DefAt K mg "_law_plus" s__law_plus := DefAt.mk' X G a23 l23 c23 k23
 have D__law_minus : DefAt K mg "_law_minus" s__law_minus := DefAt.mk' X G a24 l24 c24 k24
 have D__law_times : DefAt K mg "_law_times" s__law_times := DefAt.mk' X G a25 l25 c25 k25
 have D__law_under : DefAt K mg "_law_under" s__law_under := DefAt.mk' X G a26 l26 c26 k26
 have D__law_names : DefAt K mg "_law_names" s__law_names := DefAt.mk' X G a27 l27 c27 k27
 have D__law_house : DefAt K mg "_law_house" s__law_house := DefAt.mk' X G a28 l28 c28 k28
 have D__law_left : DefAt K mg "_law_left" s__law_left := DefAt.mk' X G a29 l29 c29 k29
 have D__law_amount : DefAt K mg "_law_amount" s__law_amount := DefAt.mk' X G a30 l30 c30 k30
 have D__law_passed : DefAt K mg "_law_passed" s__law_passed := DefAt.mk' X G a31 l31 c31 k31
 have D__law_deed : DefAt K mg "_law_deed" s__law_deed := DefAt.mk' X G a32 l32 c32 k32
 have D__law_share : DefAt K mg "_law_share" s__law_share := DefAt.mk' X G a33 l33 c33 k33
 have D__law_step : DefAt K mg "_law_step" s__law_step := DefAt.mk' X G a34 l34 c34 k34
 have D__law_script : DefAt K mg "_law_script" s__law_script := DefAt.mk' X G a35 l35 c35 k35
 have D__law_all : DefAt K mg "_law_all" s__law_all := DefAt.mk' X G a36 l36 c36 k36
 have D__law_forth_right : DefAt K mg "_law_forth_right" s__law_forth_right := DefAt.mk' X G a37 l37 c37 k37
 have D__law_back_right : DefAt K mg "_law_back_right" s__law_back_right := DefAt.mk' X G a38 l38 c38 k38
 have D__law_next : DefAt K mg "_law_next" s__law_next := DefAt.mk' X G a39 l39 c39 k39
 have D__law_along : DefAt K mg "_law_along" s__law_along := DefAt.mk' X G a40 l40 c40 k40
 have D__law_ways_right : DefAt K mg "_law_ways_right" s__law_ways_right := DefAt.mk' X G a41 l41 c41 k41
 have e := hfa.symm.trans (PySem.W.mg_of X G a42)
 cases e
 refine ⟨PySem.W.fnOf "law" "law" (defArgs s_law) (defBody s_law) (defScope s_law) .none kV42 dc42 pm42 an42 cd42 ct42, fun s v => .of_eq rfl, fun base _ _ => ?_⟩
 have G_common_divisor := ok_common_divisor (P := l.prog) (w := w) (base := base) D_common_divisor T
 have G_plus := ok_plus (P := l.prog) (w := w) (base := base) D_plus T G_common_divisor
 have G_minus := ok_minus (P := l.prog) (w := w) (base := base) D_minus T G_plus
 have G_times := ok_times (P := l.prog) (w := w) (base := base) D_times T G_common_divisor
 have G_over := ok_over (P := l.prog) (w := w) (base := base) D_over T G_times
 have G_under := ok_under (P := l.prog) (w := w) (base := base) D_under T
 have G_sum_of := ok_sum_of (P := l.prog) (w := w) (base := base) D_sum_of T G_plus
 have G_unmoved := ok_unmoved (P := l.prog) (w := w) (base := base) D_unmoved T
 have G_add_shares := ok_add_shares (P := l.prog) (w := w) (base := base) D_add_shares T G_plus G_times
 have G_passed := ok_passed (P := l.prog) (w := w) (base := base) D_passed T G_add_shares G_minus
 have G_brought := ok_brought (P := l.prog) (w := w) (base := base) D_brought T G_unmoved G_passed
 have G_forth := ok_forth (P := l.prog) (w := w) (base := base) D_forth T G_brought
 have G_back := ok_back (P := l.prog) (w := w) (base := base) D_back T G_brought G_times G_sum_of G_over
 have G_bring_at := ok_bring_at (P := l.prog) (w := w) (base := base) D_bring_at T
 have G_raise_share := ok_raise_share (P := l.prog) (w := w) (base := base) D_raise_share T G_under
 have G_behind_step := ok_behind_step (P := l.prog) (w := w) (base := base) D_behind_step T G_raise_share G_times G_minus
 have G_greatest_shares := ok_greatest_shares (P := l.prog) (w := w) (base := base) D_greatest_shares T G_bring_at G_behind_step
 have G_place_ahead := ok_place_ahead (P := l.prog) (w := w) (base := base) D_place_ahead T G_times
 have G_greatest_way := ok_greatest_way (P := l.prog) (w := w) (base := base) D_greatest_way T G_greatest_shares G_bring_at G_place_ahead
 have G__law_cell_at := ok__law_cell_at (P := l.prog) (w := w) (base := base) D__law_cell_at T
 have G__law_mixed := ok__law_mixed (P := l.prog) (w := w) (base := base) D__law_mixed T
 have G__law_divisor := ok__law_divisor (P := l.prog) (w := w) (base := base) D__law_divisor T
 have G__law_lowest := ok__law_lowest (P := l.prog) (w := w) (base := base) D__law_lowest T G__law_divisor
 have G__law_plus := ok__law_plus (P := l.prog) (w := w) (base := base) D__law_plus T G__law_lowest
 have G__law_minus := ok__law_minus (P := l.prog) (w := w) (base := base) D__law_minus T G__law_plus
 have G__law_times := ok__law_times (P := l.prog) (w := w) (base := base) D__law_times T G__law_lowest
 have G__law_under := ok__law_under (P := l.prog) (w := w) (base := base) D__law_under T
 have G__law_names := ok__law_names (P := l.prog) (w := w) (base := base) D__law_names T
 have G__law_house := ok__law_house (P := l.prog) (w := w) (base := base) D__law_house T G__law_lowest G__law_mixed
 have G__law_left := ok__law_left (P := l.prog) (w := w) (base := base) D__law_left T G__law_minus
 have G__law_amount := ok__law_amount (P := l.prog) (w := w) (base := base) D__law_amount T G__law_times G__law_under
 have G__law_passed := ok__law_passed (P := l.prog) (w := w) (base := base) D__law_passed T G__law_left G__law_amount G__law_lowest G__law_times G__law_under
 have G__law_deed := ok__law_deed (P := l.prog) (w := w) (base := base) D__law_deed T G__law_mixed G__law_lowest G__law_under G__law_left G__law_passed
 have G__law_share := ok__law_share (P := l.prog) (w := w) (base := base) D__law_share T G__law_left G__law_lowest
 have G__law_step := ok__law_step (P := l.prog) (w := w) (base := base) D__law_step T G__law_plus G__law_share G__law_times G__law_minus
 have G__law_script := ok__law_script (P := l.prog) (w := w) (base := base) D__law_script T G__law_deed G__law_step
 have G__law_all := ok__law_all (P := l.prog) (w := w) (base := base) D__law_all T G__law_plus
 have G__law_forth_right := ok__law_forth_right (P := l.prog) (w := w) (base := base) D__law_forth_right T G_brought G_forth G__law_all
 have G__law_back_right := ok__law_back_right (P := l.prog) (w := w) (base := base) D__law_back_right T G_back G__law_times G__law_lowest G__law_all
 have G__law_next := ok__law_next (P := l.prog) (w := w) (base := base) D__law_next T G__law_times G__law_minus G__law_under
 have G__law_along := ok__law_along (P := l.prog) (w := w) (base := base) D__law_along T G__law_times G__law_minus
 have G__law_ways_right := ok__law_ways_right (P := l.prog) (w := w) (base := base) D__law_ways_right T G__law_next G_greatest_shares G_greatest_way G__law_along
 exact ok_law (fun_mk (st := s_law) l42 c42 k42) T G__law_names G__law_cell_at G__law_house G__law_script G__law_forth_right G__law_back_right G__law_ways_right
end T62
namespace PySem.W.Fast
def tw12691862610585070314 := 0
def tw1452354322321051542 := 0
def tw9470023566067438447 := 0
def tw18024391634047125460 := 0
def tw9162133494491722938 := 0
def tw11836097455639082034 := 0
def tw3012905684787856481 := 0
def tw4111123727473198505 := 0
def tw16265639026366975328 := 0
def tw6314288231534727085 := 0
def tw18253173340571996121 := 0
def tw18423821174156176237 := 0
def tw16927026214406983054 := 0
def tw10604247989652416102 := 0
def tw4403362762238685063 := 0
def tw7339773888432738646 := 0
def tw17049344666526482710 := 0
def tw8718025662411773092 := 0
def tw2864723085142756852 := 0
def tw10672158037950217446 := 0
def tw17747028094301014953 := 0
def tw10208913168196182089 := 0
def tw16536659573265254692 := 0
def tw12149051451873902618 := 0
def tw2761631707482938608 := 0
def tw602374266743007258 := 0
def tw5925900334108430543 := 0
def tw15549165343810854058 := 0
def tw16551841164478503445 := 0
def tw13786118674909155200 := 0
def tw5581881437914487646 := 0
def tw5691927140018766218 := 0
def tw2254617499883846423 := 0
def tw6865084409341622989 := 0
def tw9879975337527548430 := 0
def tw7503429709884293934 := 0
def tw17990441401270431422 := 0
def tw7563718033308208657 := 0
def tw16157112162855289564 := 0
def tw15953500607580320494 := 0
def tw14934046938022132057 := 0
def tw12864259737698712278 := 0
def tw5892595246008651212 := 0
def tw11174335001098915342 := 0
def tw12784784026040851999 := 0
def tw2445950630306285190 := 0
def tw10728960145146014118 := 0
def tw1692932001688411392 := 0
def tw9148783791706104799 := 0
def tw15341613653834138747 := 0
def tw8788135509939282529 := 0
def tw6189682478349488276 := 0
def tw7495527472810260421 := 0
def tw11985162496747328901 := 0
def tw373063618957713396 := 0
def tw11041653096995974417 := 0
def tw16682624859961693141 := 0
def tw10932989320914980409 := 0
def tw7719873992930295205 := 0
def tw5058868787054122493 := 0
def tw7551279600715526502 := 0
def tw14948055565587514042 := 0
def tw17530234644483650878 := 0
def tw9934252890443420646 := 0
def tw12851485842632289203 := 0
def tw12216187662390225893 := 0
def tw14347046226826412888 := 0
def tw11496640268087742431 := 0
def tw921708282347831037 := 0
def tw710943161080736700 := 0
def tw1734063804450318142 := 0
def tw15972366610891751734 := 0
def tw1340300035641287292 := 0
def tw2063503074386981318 := 0
def tw2185628135330650382 := 0
def tw15556401348573817311 := 0
def tw16234720363400764051 := 0
def tw15769613588757927988 := 0
def tw15654391828877137678 := 0
def tw10371282581686610912 := 0
def tw281805344074117844 := 0
def tw11187322522326818419 := 0
def tw15773568330566121044 := 0
def tw13449174146609871956 := 0
def tw12350457984470344111 := 0
def tw9994025811265727011 := 0
def tw12404196238926695867 := 0
def tw11488395355088367966 := 0
def tw15933258997836630239 := 0
def tw14226883766654157347 := 0
def tw15670174227601549086 := 0
def tw80737867745514669 := 0
def tw1786704779117311066 := 0
def tw4416699965709213338 := 0
def tw17113281223957698175 := 0
def tw7005222130820755031 := 0
def tw457845997274508519 := 0
def tw3740446601181863696 := 0
def tw16321692004236097664 := 0
def tw8810939982088578930 := 0
def tw3837263413912995145 := 0
def tw15676411536051628356 := 0
def tw6633315197196409686 := 0
def tw15028845319919844864 := 0
def tw6592643070565694375 := 0
def tw15996747695731568439 := 0
def tw1958497399498653817 := 0
def tw12533703871233577471 := 0
def tw3476554441748992405 := 0
def tw3002420810669056550 := 0
def tw4952830476304792679 := 0
def tw9248468768925137716 := 0
def tw10419130572483273150 := 0
def tw1260775472855341004 := 0
def tw2964280558601589945 := 0
def tw18044842462256986922 := 0
def tw11418605063713445667 := 0
def tw10623845785396346319 := 0
def tw12978665928540890125 := 0
def tw7152832515056932107 := 0
def tw17402157562449958249 := 0
def tw13167412261672991699 := 0
def tw12842420397687164678 := 0
def tw18126869646348779071 := 0
def tw9164643893656366631 := 0
def tw11692556784880751826 := 0
def tw4842845234323649674 := 0
def tw869323469547042831 := 0
def tw16204924068935172212 := 0
def tw8567104225626238099 := 0
def tw12025928682733519797 := 0
def tw5337373974982447740 := 0
def tw6432920623802102789 := 0
def tw7415514255136402937 := 0
def tw18287542625070933503 := 0
def tw7551486258783167135 := 0
def tw10200932612315670046 := 0
def tw1614732382927007545 := 0
def tw15297617382064781279 := 0
def tw12241157391208636341 := 0
def tw13698370778945689432 := 0
def tw15293137129728293511 := 0
def tw589957571388778065 := 0
def tw9227998523820179528 := 0
def tw11387736436119546892 := 0
def tw10811888774288995434 := 0
def tw18033971866255353121 := 0
def tw18094424160040348766 := 0
def tw16192863160145968090 := 0
def tw1621514108472960664 := 0
def tw16302360634769028754 := 0
def tw2426449064937743639 := 0
def tw12730415442144458998 := 0
def tw496643127248599752 := 0
def tw11009955954574962975 := 0
def tw4243167155740509139 := 0
def tw9317896634893701652 := 0
def tw18037406263286643601 := 0
def tw10648147000746085130 := 0
def tw13804539876766811682 := 0
def tw11875745615558637985 := 0
def tw5211454654496928200 := 0
def tw8922827217586484834 := 0
def tw5854619727961665913 := 0
def tw2829910736028076671 := 0
def tw18179179530448322974 := 0
def tw2243759047844429476 := 0
def tw2838257035880755238 := 0
def tw4440251406996461134 := 0
def tw10456448151500980819 := 0
def tw14208078881556540519 := 0
def tw6193296152077193069 := 0
def tw16904728041237027414 := 0
def tw445771423163087725 := 0
def tw16340433881976045277 := 0
def tw16701469242870791371 := 0
def tw15582094942452615636 := 0
def tw29959750404446899 := 0
def tw8570982660637407379 := 0
def tw7085590670340619397 := 0
def tw11978215794840684038 := 0
def tw7744208858551992738 := 0
def tw1067386082069524058 := 0
def tw18140098738169482754 := 0
def tw15822007286047357579 := 0
def tw15377317053094753842 := 0
def tw10087674678149131066 := 0
def tw3067479480620876553 := 0
def tw16466546641773030834 := 0
def tw15555020123132337037 := 0
def tw16367825178750059504 := 0
def tw10288038984748931853 := 0
def tw9031386357899898080 := 0
def tw13873378401868405209 := 0
def tw3071016401308758711 := 0
def tw11128444187105365032 := 0
def tw13843902095574854704 := 0
def tw6324866945691481130 := 0
def tw12590145395662821965 := 0
def tw18110906358963224914 := 0
def tw14191232139542466809 := 0
def tw10640045166338121962 := 0
def tw4166005994472332960 := 0
def tw9988664708780379846 := 0
def tw8884209743308594268 := 0
def tw15759283541758886735 := 0
def tw4506617368518032444 := 0
def tw8490131244454399824 := 0
def tw16885733311499197034 := 0
def tw14256256644010157106 := 0
def tw4176587567258835230 := 0
def tw11539820206596108744 := 0
def tw12336937810429350980 := 0
def tw13449098052350802649 := 0
def tw5294142424301571951 := 0
def tw9096489763082100153 := 0
def tw6133321014399562951 := 0
def tw13741103995607866542 := 0
def tw16455298986206508191 := 0
def tw50154167236079983 := 0
def tw10944181078836002006 := 0
def tw11542251782943642870 := 0
def tw13272901596227788979 := 0
def tw12506492231195446900 := 0
def tw4014889102013699704 := 0
def tw15497099672778960993 := 0
def tw17272699539730754241 := 0
def tw3988826981026221028 := 0
def tw10663997674687647888 := 0
def tw14404818604126754007 := 0
def tw10289965728029434003 := 0
def tw7798983393101117047 := 0
def tw18349018697792846316 := 0
def tw4421869926634983206 := 0
def tw1785235771342621104 := 0
def tw1399826261819613622 := 0
def tw9005973994863065797 := 0
def tw3401137602419996179 := 0
def tw6539538628468736552 := 0
def tw13755895916487000807 := 0
def tw10225358860549304421 := 0
def tw5642220768557778605 := 0
def tw17323213810930538425 := 0
def tw17709896413731816011 := 0
def tw3407971776343417772 := 0
def tw1981538008654457801 := 0
def tw5684229268710776756 := 0
def tw5334280623897769172 := 0
def tw14122127030411858985 := 0
def tw2840080340003010097 := 0
def tw13711448012527432481 := 0
def tw6220637343129175969 := 0
def tw11224460654281049532 := 0
def tw4941448508895888078 := 0
def tw307144171640955655 := 0
def tw3817625234281914388 := 0
def tw5604833730966180610 := 0
def tw110819724522822771 := 0
def tw8291632459079844573 := 0
def tw3159890620384207006 := 0
def tw13479439740115128654 := 0
def tw18258871288053173689 := 0
def tw11671518792633496693 := 0
def tw6333810861737703786 := 0
def tw6779432667054008737 := 0
def tw9354193771766860027 := 0
def tw4722554157202008216 := 0
def tw13834721028790006868 := 0
def tw3821819944994220496 := 0
def tw4444427853307443325 := 0
def tw9580681965565762169 := 0
def tw9824107671418108901 := 0
def tw13664727431731900425 := 0
def tw9963011425474504199 := 0
def tw8725034893548931640 := 0
def tw18356229194429292873 := 0
def tw13294196356107483901 := 0
def tw12157940634522791115 := 0
def tw3459105391786194323 := 0
def tw5866811270933736385 := 0
def tw6179765693242717485 := 0
def tw2070374545964688984 := 0
def tw4735864032797804633 := 0
def tw16518403784099256662 := 0
def tw12934673225490680790 := 0
def tw1422047811051160669 := 0
def tw7903079506927069642 := 0
def tw4948837811476080268 := 0
def tw7555811088691110751 := 0
def tw7666204606248182841 := 0
def tw10019734852308041926 := 0
def tw7111632701748426622 := 0
def tw8891435613418600535 := 0
def tw7013979017846173016 := 0
def tw13768720040758973690 := 0
def tw14360582607983543346 := 0
def tw1261097107866162497 := 0
end PySem.W.Fast
open PySem PySem.W PyProof.Rows
set_option maxRecDepth 100000 in
set_option maxHeartbeats 0 in
theorem PySem.Challenge.cw_tiercask_k62_whole_traced_holds : PySem.Challenge.rw_tiercask_k62_whole_traced.Holds := by
 w_on; o_law; k_head; (case hw => w_witness2)
 k_fill
 refine L2.walk_ofK (l := PySem.Challenge.rw_tiercask_k62_whole_traced) (n := 63) (k := 9) (x := "_law_script_here") (CX := L2.CX0) (sp := Tc.spLaw) rfl (by decide) rfl ⟨rfl, by decide, by decide⟩ (fun w h Y => PySem.W.kIn_of Y) ?F ?S ?C
 case F =>
  intro w mg fa h KX G hmg
  refine' T62.all_mk KX G hmg ?a0 ?l0 ?c0 ?k0 ?a1 ?l1 ?c1 ?k1 ?a2 ?l2 ?c2 ?k2 ?a3 ?l3 ?c3 ?k3 ?a4 ?l4 ?c4 ?k4 ?a5 ?l5 ?c5 ?k5 ?a6 ?l6 ?c6 ?k6 ?a7 ?l7 ?c7 ?k7 ?a8 ?l8 ?c8 ?k8 ?a9 ?l9 ?c9 ?k9 ?a10 ?l10 ?c10 ?k10 ?a11 ?l11 ?c11 ?k11 ?a12 ?l12 ?c12 ?k12 ?a13 ?l13 ?c13 ?k13 ?a14 ?l14 ?c14 ?k14 ?a15 ?l15 ?c15 ?k15 ?a16 ?l16 ?c16 ?k16 ?a17 ?l17 ?c17 ?k17 ?a18 ?l18 ?c18 ?k18 ?a19 ?l19 ?c19 ?k19 ?a20 ?l20 ?c20 ?k20 ?a21 ?l21 ?c21 ?k21 ?a22 ?l22 ?c22 ?k22 ?a23 ?l23 ?c23 ?k23 ?a24 ?l24 ?c24 ?k24 ?a25 ?l25 ?c25 ?k25 ?a26 ?l26 ?c26 ?k26 ?a27 ?l27 ?c27 ?k27 ?a28 ?l28 ?c28 ?k28 ?a29 ?l29 ?c29 ?k29 ?a30 ?l30 ?c30 ?k30 ?a31 ?l31 ?c31 ?k31 ?a32 ?l32 ?c32 ?k32 ?a33 ?l33 ?c33 ?k33 ?a34 ?l34 ?c34 ?k34 ?a35 ?l35 ?c35 ?k35 ?a36 ?l36 ?c36 ?k36 ?a37 ?l37 ?c37 ?k37 ?a38 ?l38 ?c38 ?k38 ?a39 ?l39 ?c39 ?k39 ?a40 ?l40 ?c40 ?k40 ?a41 ?l41 ?c41 ?k41 ?a42 ?l42 ?c42 ?k42 ?z_abs ?z_dict ?z_enumerate ?z_int ?z_isinstance ?z_len ?z_list ?z_range ?z_reversed ?z_tuple ?y_NoNumber ?e_NoNumber ?x_NoNumber ?i_NoNumber_NoNumber ?m_NoNumber_NoNumber
  (case a0 => k_is); (case l0 => k_is); (case c0 => k_is); (case k0 => k_is); (case a1 => k_is); (case l1 => k_is); (case c1 => k_is); (case k1 => k_is)
  (case a2 => k_is); (case l2 => k_is); (case c2 => k_is); (case k2 => k_is); (case a3 => k_is); (case l3 => k_is); (case c3 => k_is); (case k3 => k_is)
  (case a4 => k_is); (case l4 => k_is); (case c4 => k_is); (case k4 => k_is); (case a5 => k_is); (case l5 => k_is); (case c5 => k_is); (case k5 => k_is)
  (case a6 => k_is); (case l6 => k_is); (case c6 => k_is); (case k6 => k_is); (case a7 => k_is); (case l7 => k_is); (case c7 => k_is); (case k7 => k_is)
  (case a8 => k_is); (case l8 => k_is); (case c8 => k_is); (case k8 => k_is); (case a9 => k_is); (case l9 => k_is); (case c9 => k_is); (case k9 => k_is)
  (case a10 => k_is); (case l10 => k_is); (case c10 => k_is); (case k10 => k_is); (case a11 => k_is); (case l11 => k_is); (case c11 => k_is); (case k11 => k_is)
  (case a12 => k_is); (case l12 => k_is); (case c12 => k_is); (case k12 => k_is); (case a13 => k_is); (case l13 => k_is); (case c13 => k_is); (case k13 => k_is)
  (case a14 => k_is); (case l14 => k_is); (case c14 => k_is); (case k14 => k_is); (case a15 => k_is); (case l15 => k_is); (case c15 => k_is); (case k15 => k_is)
  (case a16 => k_is); (case l16 => k_is); (case c16 => k_is); (case k16 => k_is); (case a17 => k_is); (case l17 => k_is); (case c17 => k_is); (case k17 => k_is)
  (case a18 => k_is); (case l18 => k_is); (case c18 => k_is); (case k18 => k_is); (case a19 => k_is); (case l19 => k_is); (case c19 => k_is); (case k19 => k_is)
  (case a20 => k_is); (case l20 => k_is); (case c20 => k_is); (case k20 => k_is); (case a21 => k_is); (case l21 => k_is); (case c21 => k_is); (case k21 => k_is)
  (case a22 => k_is); (case l22 => k_is); (case c22 => k_is); (case k22 => k_is); (case a23 => k_is); (case l23 => k_is); (case c23 => k_is); (case k23 => k_is)
  (case a24 => k_is); (case l24 => k_is); (case c24 => k_is); (case k24 => k_is); (case a25 => k_is); (case l25 => k_is); (case c25 => k_is); (case k25 => k_is)
  (case a26 => k_is); (case l26 => k_is); (case c26 => k_is); (case k26 => k_is); (case a27 => k_is); (case l27 => k_is); (case c27 => k_is); (case k27 => k_is)
  (case a28 => k_is); (case l28 => k_is); (case c28 => k_is); (case k28 => k_is); (case a29 => k_is); (case l29 => k_is); (case c29 => k_is); (case k29 => k_is)
  (case a30 => k_is); (case l30 => k_is); (case c30 => k_is); (case k30 => k_is); (case a31 => k_is); (case l31 => k_is); (case c31 => k_is); (case k31 => k_is)
  (case a32 => k_is); (case l32 => k_is); (case c32 => k_is); (case k32 => k_is); (case a33 => k_is); (case l33 => k_is); (case c33 => k_is); (case k33 => k_is)
  (case a34 => k_is); (case l34 => k_is); (case c34 => k_is); (case k34 => k_is); (case a35 => k_is); (case l35 => k_is); (case c35 => k_is); (case k35 => k_is)
  (case a36 => k_is); (case l36 => k_is); (case c36 => k_is); (case k36 => k_is); (case a37 => k_is); (case l37 => k_is); (case c37 => k_is); (case k37 => k_is)
  (case a38 => k_is); (case l38 => k_is); (case c38 => k_is); (case k38 => k_is); (case a39 => k_is); (case l39 => k_is); (case c39 => k_is); (case k39 => k_is)
  (case a40 => k_is); (case l40 => k_is); (case c40 => k_is); (case k40 => k_is); (case a41 => k_is); (case l41 => k_is); (case c41 => k_is); (case k41 => k_is)
  (case a42 => k_is); (case l42 => k_is); (case c42 => k_is); (case k42 => k_is); (case z_abs => k_is); (case z_dict => k_is); (case z_enumerate => k_is); (case z_int => k_is)
  (case z_isinstance => k_is); (case z_len => k_is); (case z_list => k_is); (case z_range => k_is); (case z_reversed => k_is); (case z_tuple => k_is); (case y_NoNumber => k_is)
  (case e_NoNumber => k_exc)
  (case x_NoNumber => refine ⟨?_, ?_, ?_, ?_, ?_⟩ <;> k_is)
  (case i_NoNumber_NoNumber => kit_is)
  (case m_NoNumber_NoNumber => kts_exm)
 case S => exact fun K H a ns hl hO hS => ⟨a, ns, rfl, hS, hl, fun _ => rfl⟩
 case C => exact fun H s e s' z => z

import PyProof.Rows.All
import Wide.All
import OpenK.AllK
import Wide.FinOn
import Lean
import PyProof.EqAt
import PyProof.EqKinds
import PyProof.TupleCall
import PySem.Challenge.RW_tiercask_k50_whole_ages
set_option Elab.async false
set_option linter.all false
set_option maxRecDepth 100000
set_option genSizeOf false
set_option maxHeartbeats 4000000
set_option exponentiation.threshold 100000
open PySem.W renaming Frag → Ā, nsIn → Ć, keepIn → ĉ, codeIn → Ċ, fnOf → Ď, mg_none_of → ħ, kia_one → Ŀ
open List renaming length_map → ā, mem_cons_of_mem → Ă, mem_cons_self → ă, getElem?_eq_some_iff → Ą, mem_of_getElem? → ċ, getElem?_eq_getElem → Č, take_length → Đ, getElem?_map → đ, mem_cons → Ē, length_take → ē, mem_map → ĕ, map_append → ė, size_toArray → ę, mem_singleton → ě, length_append → Ĝ, nodup_cons → Ġ, mem_filter → ġ, length_cons → ģ, mem_append → Ĥ, mem_append_right → ĩ, filter_append → Ĭ, length_filter_le → Į, mem_of_mem_take → ĵ, range → Ķ, map_cons → ĸ, getElem_of_mem → Ĺ, take_add_one → ĺ, getElem?_eq_none → Ņ, length_drop → ņ, map_map → Ň, length_eq_zero_iff → Ō, nodup_append → Ő, take_zero → œ, not_mem_nil → Ŕ, lookup_cons → ŕ, filter_cons → Ŗ, pairwise_cons → ř, length_singleton → ś, take_sublist → Ŝ, length_range → ŝ, mem_of_mem_drop → Ş, getElem?_append_right → ş, any_eq_true → š, pairwise_iff_getElem → Ţ, drop_eq_getElem_cons → ţ, length_nil → ť, find?_cons → Ŧ, mem_filterMap → Ũ
open Nat renaming le_refl → ą, le_trans → č, lt_of_lt_of_le → ď, mul_le_mul_right → Ė, lt_of_le_of_lt → Ę, mul_le_mul → ğ, pow_le_pow_right → ĥ, ne_of_lt → Ħ, ne_of_gt → Ĩ, zero_le → Ī, pow_add → ī, pow_succ → į, mul_comm → ļ, mul_pos → Ľ, pow_lt_pow_right → ł, lt_irrefl → Ń, mul_assoc → ŋ, le_mul_of_pos_left → Ŏ, gcd → ő, one_mul → Ř, le_of_lt → Ś
open PySem.Heap renaming lt_size → ć, get?_push_of_some → Ĉ, get?_push_size → Ĕ
open Rat renaming divInt → Ě, mul_nonneg → Ğ, natCast_mul → Ģ, divInt_eq_div → Ļ, intCast_mul → ľ, num_divInt_den → Ł, mul_eq_zero → ń, zero_add → ň, add_zero → Ŋ, zero_mul → ō, le_refl → ŏ, intCast_natCast → Ť
open Bool renaming false_ne_true → ĝ, false_eq_true → ĭ, and_eq_true → ŗ
open Int renaming gcd → Ĵ, eq_ofNat_of_zero_le → ķ, natAbs_mul → ŀ, toNat_natCast → Œ, fdiv_eq_ediv_of_nonneg → Š, mul_fdiv_cancel_left → ŧ, mul_ne_zero → ũ
namespace L2
open PySem PySem.Spec PyProof.Rows
noncomputable abbrev Key:=Sum Int Str
noncomputable def yJ8:Key->Value->Bool
 | .inl k,v=>Value.isInt k v
 | .inr x,v=>Value.isStrOf x v
noncomputable def keyH (w:World):Key->Int
 | .inl k=>hashInt k
 | .inr x=>hashStr w x
theorem ñ:∀ {k:Key} {v:Value},yJ8 k v = true->(∃ i t,k = Sum.inl i /\ v = Value.int i t) \/ (∃ x t,k = Sum.inr x /\ v = Value.str x t)
 | .inl i,v,h=>by
  obtain ⟨t,e⟩:=Value.isInt_shape (k:=i) (v:=v) h
  exact .inl ⟨i,t,rfl,e⟩
 | .inr x,v,h=>by
  obtain ⟨t,e⟩:=Value.isStrOf_shape (x:=x) (v:=v) h
  exact .inr ⟨x,t,rfl,e⟩
theorem yS0 (i:Int) (t:Tok):yJ8 (.inl i) (.int i t) = true:=by simp [yJ8,Value.isInt]
theorem yR9 (x:Str) (t:Tok):yJ8 (.inr x) (.str x t) = true:=by simp [yJ8,Value.isStrOf]
theorem xL7 (a b:Int):decide ((Sum.inl a:Key) = Sum.inl b) = (a == b):=by
 by_cases e:a = b
 ·subst e; simp
 ·have h:¬ (Sum.inl a:Key) = Sum.inl b:=fun q=>e (Sum.inl.inj q)
  rw [decide_eq_false h]
  exact (beq_eq_false_iff_ne.mpr e).symm
theorem xL4 (a b:Str):decide ((Sum.inr a:Key) = Sum.inr b) = decide (a = b):=by
 by_cases e:a = b
 ·subst e; simp
 ·have h:¬ (Sum.inr a:Key) = Sum.inr b:=fun q=>e (Sum.inr.inj q)
  rw [decide_eq_false h,decide_eq_false e]
theorem xL6 (a:Int) (b:Str):decide ((Sum.inl a:Key) = Sum.inr b) = false:=decide_eq_false (fun q=>nomatch q)
theorem xL5 (a:Str) (b:Int):decide ((Sum.inr a:Key) = Sum.inl b) = false:=decide_eq_false (fun q=>nomatch q)
noncomputable def æ (prog:Program) (w:World):PySem.KeyKind prog w Key where
 is:=yJ8
 hash:=keyH w
 inj:=fun v a b ha hb=>by
  rcases ñ ha with ⟨i,t,rfl,rfl⟩ | ⟨x,t,rfl,rfl⟩
  ·rcases ñ hb with ⟨j,u,rfl,e⟩ | ⟨y,u,rfl,e⟩
   ·injection e with e1 _; rw [e1]
   ·exact nomatch e
  ·rcases ñ hb with ⟨j,u,rfl,e⟩ | ⟨y,u,rfl,e⟩
   ·exact nomatch e
   ·injection e with e1 _; rw [e1]
 byValue:=fun k v h=>by
  rcases ñ h with ⟨i,t,rfl,rfl⟩ | ⟨x,t,rfl,rfl⟩ <;> rfl
 pyHash:=fun hv h=>by
  rcases ñ hv with ⟨i,t,rfl,rfl⟩ | ⟨x,t,rfl,rfl⟩
  ·exact wpAny_pyHash_int h
  ·exact wpAny_pyHash_str h
 eqBool:=fun hu hv h=>by
  rcases ñ hu with ⟨i,t,rfl,rfl⟩ | ⟨x,t,rfl,rfl⟩
  ·rcases ñ hv with ⟨j,u,rfl,rfl⟩ | ⟨y,u,rfl,rfl⟩
   ·rw [xL7] at h; exact wpAny_eqBool_int h
   ·rw [xL6] at h; exact SeqAt.EqAt.int_str i t y u _ _ _ _ h
  ·rcases ñ hv with ⟨j,u,rfl,rfl⟩ | ⟨y,u,rfl,rfl⟩
   ·rw [xL5] at h; exact SeqAt.EqAt.str_int x t j u _ _ _ _ h
   ·rw [xL4] at h; exact wpAny_eqBool_str h
 «strs»:=fun k x t v h=>by
  rcases ñ h with ⟨i,u,rfl,e⟩ | ⟨y,u,rfl,e⟩
  ·exact nomatch e
  ·injection e with e1 _
   subst e1
   cases v <;> rfl
theorem yC0 (prog:Program) (w:World) (i:Int) (t:Tok):(æ prog w).is (.inl i) (.int i t) = true:=yS0 i t
theorem zO0 (prog:Program) (w:World) (x:Str) (t:Tok):(æ prog w).is (.inr x) (.str x t) = true:=yR9 x t
inductive V where
 | non | bl (b:Bool) | int (i:Int) | str (x:Str) | byt (b:Array UInt8) | flt (b:UInt64) | ref (a:Addr) | ty (n:String)
 deriving DecidableEq
noncomputable def RelV:V->Value->Prop
 | .non,u=>u = Value.none
 | .bl b,u=>u = Value.bool b
 | .int i,u=>∃ t,u = Value.int i t
 | .str x,u=>∃ t,u = Value.str x t
 | .byt b,u=>∃ t,u = Value.bytes b t
 | .flt b,u=>∃ t,u = Value.float b t
 | .ref a,u=>u = Value.ref a
 | .ty n,u=>u = Value.type n
noncomputable abbrev Vals:List V->List Value->Prop:=Paired RelV
theorem Vals.length {xs:List V} {us:List Value} (r:Vals xs us):xs.length = us.length:=Paired.length r
theorem Vals.get:∀ {xs:List V} {us:List Value} {i:Nat} {x:V},Vals xs us->xs[i]? = some x->∃ u,us[i]? = some u /\ RelV x u
 | _,_,_,_,.nil,e=>by simp at e
 | _,_,0,_,.cons r _,e=>by simp at e; subst e; exact ⟨_,rfl,r⟩
 | _,_,i + 1,x,.cons _ t,e=>by
  obtain ⟨u,h1,h2⟩:=Vals.get (i:=i) (x:=x) t (by simpa using e)
  exact ⟨u,by simpa using h1,h2⟩
theorem Vals.set {x:V} {u:Value} (r:RelV x u):∀ {xs:List V} {us:List Value} (i:Nat),Vals xs us->Vals (xs.set i x) (us.set i u)
 | _,_,_,.nil=>.nil
 | _,_,0,.cons _ t=>.cons r t
 | _,_,i + 1,.cons q t=>.cons q (Vals.set r i t)
theorem Vals.append:∀ {xs ys:List V} {us ws:List Value},Vals xs us->Vals ys ws->Vals (xs ++ ys) (us ++ ws)
 | _,_,_,_,.nil,s=>s
 | _,_,_,_,.cons r t,s=>.cons r (Vals.append t s)
theorem Vals.take:∀ {xs:List V} {us:List Value} (n:Nat),Vals xs us->Vals (xs.take n) (us.take n)
 | _,_,0,_=>.nil
 | _,_,_ + 1,.nil=>.nil
 | _,_,n + 1,.cons r t=>.cons r (Vals.take n t)
theorem Vals.drop:∀ {xs:List V} {us:List Value} (n:Nat),Vals xs us->Vals (xs.drop n) (us.drop n)
 | _,_,0,r=>r
 | _,_,_ + 1,.nil=>.nil
 | _,_,n + 1,.cons _ t=>Vals.drop n t
noncomputable def RelO:Option V->Option Value->Prop
 | some v,some u=>RelV v u
 | none,none=>True
 | _,_=>False
noncomputable def KV {κ:Type}:List (κ × V)->List (κ × Value)->Prop:=Paired fun (p:κ × V) (q:κ × Value)=>p.1 = q.1 /\ RelV p.2 q.2
noncomputable def kV:Key->V
 | .inl i=>.int i
 | .inr x=>.str x
inductive HO where
 | lst (xs:List V)
 | tup (xs:List V)
 | dK (kvs:List (Key × V)) | dT (kvs:List (List Key × V))
 | set (S:Int->Bool) (n:Nat)
 | ins (C dx:Addr) (fs:List (Str × V))
 | own (x:Addr)
 | xd (fs:List (Str × V))
 | met (f x:Addr)
 | rng (lo hi:Int)
 | frz (o:Obj) (u:HO)
 | tbl (ps:Array Value)
 | ext (φ:Heap->Prop)
noncomputable abbrev Hp:=Addr->Option HO
noncomputable def upd (H:Hp) (a:Addr) (o:HO):Hp:=fun b=>if b = a then some o else H b
theorem Á {H:Hp} {a:Addr} {o:HO}:upd H a o a = some o:=by unfold upd; rw [if_pos rfl]
theorem upd_ne {H:Hp} {a b:Addr} {o:HO} (h:b ≠ a):upd H a o b = H b:=by unfold upd; rw [if_neg h]
theorem ê {H:Hp} {a b:Addr} {o u:HO} (h:H a = some o) (h':H b = some u) (d:o ≠ u):a ≠ b:=by
 intro e; subst e; rw [h] at h'; exact d (Option.some.inj h')
theorem Ç {H:Hp} {a b:Addr} {o:HO} (h:H a = some o) (h':H b = none):a ≠ b:=by
 intro e; subst e; rw [h] at h'; cases h'
section
variable (P:Program) (w:World)
noncomputable def ObjOk (H:Hp) (h:Heap) (a:Addr):HO->Prop
 | .lst xs=>xs.length <= sizeLine /\ ∃ (its:List Value) (n:Nat),Vals xs its /\ h.get? a = some { cls:=.type "list",data:=.seq its.toArray n }
 | .tup xs=>xs.length <= sizeLine /\ ∃ its:List Value,Vals xs its /\ IsTup h a its.toArray
 | .dK kvs=>kvs.length <= sizeLine /\ (a == sysModules) = false /\ ∃ vs,KV kvs vs /\ h.DictOf (æ P w) a vs
 | .dT kvs=>kvs.length <= sizeLine /\ (a == sysModules) = false /\ ∃ xs:List (List Key × Addr × Value),
   Paired (fun (p:List Key × V) (q:List Key × Addr × Value)=>p.1 = q.1 /\ H q.2.1 = some (.tup (p.1.map kV)) /\ RelV p.2 q.2.2) kvs xs /\
   ∃ o es ep,h.get? a = some o /\ o.ExactDict /\ o.data = .dict es ep /\ es.toList = xs.map (entryOfKey (tupleKind (æ P w))) /\ (xs.map (·.1)).Nodup
 | .set S n=>h.SetOf (intKind P w) a S n
 | .ins C dx fs=>H dx = some (.own a) /\ fs.length <= 1000 /\ dx ≠ a /\ h.get? a = some (PySem.W.instObj C dx) /\
   ∃ mA,h.Ns1 dx mA /\ (∀ f,RelO (fs.lookup f) (mA f)) /\ PySem.Within mA (fs.map (·.1))
 | .own _=>∃ o,h.get? a = some o
 | .xd fs=>∃ mA,h.Ns1 a mA /\ ∀ f,RelO (fs.lookup f) (mA f)
 | .rng lo hi=>∃ t u v,h.get? a = some { cls:=.type "range",data:=.fields #[.int lo t,.int hi u,.int 1 v] }
 | .frz o u=>h.get? a = some o /\ ObjOk H h a u
 | .tbl ps=>h.get? a = some { cls:=.none,data:=.fields ps }
 | .met f x=>h.get? a = some (PySem.W.methodObj (.ref f) (.ref x))
 | .ext φ=>φ h /\ (∃ o,h.get? a = some o) /\ ∀ h1 h2:Heap,φ h1->(∀ o,h1.get? a = some o->h2.get? a = some o)->φ h2
noncomputable def HOk (H:Hp) (h:Heap):Prop:=∀ a o,H a = some o->ObjOk P w H h a o
end
section
variable {P:Program} {w:World} {H H':Hp} {h h':Heap} {a:Addr} {o:HO}
theorem ObjOk.lt (x:ObjOk P w H h a o):a < h.objs.size:=by
 cases o with
 | lst xs=>obtain ⟨_,_,_,_,e⟩:=x; exact ć e
 | tup xs=>obtain ⟨_,_,_,p⟩:=x; exact p.lt
 | dK kvs=>obtain ⟨_,_,_,_,o,_,_,e,_⟩:=x; exact ć e
 | dT kvs=>obtain ⟨_,_,_,_,o,_,_,e,_⟩:=x; exact ć e
 | set S n=>obtain ⟨o,_,_,_,e,_⟩:=x; exact ć e
 | ins C dx fs=>obtain ⟨_,_,_,e,_⟩:=x; exact ć e
 | own y=>obtain ⟨_,e⟩:=x; exact ć e
 | xd fs=>obtain ⟨_,⟨_,_,_,e,_⟩,_⟩:=x; exact ć e
 | rng lo hi=>obtain ⟨_,_,_,e⟩:=x; exact ć e
 | frz ob u=>obtain ⟨e,_⟩:=x; exact ć e
 | tbl ps=>exact ć (show h.get? a = some _ from x)
 | met f y=>exact ć (show h.get? a = some _ from x)
 | ext φ=>obtain ⟨_,⟨_,e⟩,_⟩:=x; exact ć e
theorem Paired.mapP {α β:Type} {F G:α->β->Prop}:∀ {l₁:List α} {l₂:List β},Paired F l₁ l₂->(∀ a b,F a b->G a b)->Paired G l₁ l₂
 | _,_,.nil,_=>.nil
 | _,_,.cons r t,f=>.cons (f _ _ r) (Paired.mapP t f)
theorem ObjOk.stay (x:ObjOk P w H h a o) (k:∀ b u,(b = a \/ H b = some (.own a))->h.get? b = some u->h'.get? b = some u)
  (ho:∀ b,H b = some (.own a)->H' b = some (.own a)) (ht:∀ b xs,H b = some (.tup xs)->H' b = some (.tup xs)):ObjOk P w H' h' a o:=by
 induction o with
 | lst xs=>obtain ⟨z,its,n,r,e⟩:=x; exact ⟨z,its,n,r,k _ _ (.inl rfl) e⟩
 | tup xs=>obtain ⟨z,its,r,ob,e,c⟩:=x; exact ⟨z,its,r,ob,k _ _ (.inl rfl) e,c⟩
 | dK kvs=>obtain ⟨z,y,vs,r,ob,es,ep,e,c⟩:=x; exact ⟨z,y,vs,r,ob,es,ep,k _ _ (.inl rfl) e,c⟩
 | dT kvs =>
  obtain ⟨z,y,xs,r,ob,es,ep,e,c⟩:=x
  exact ⟨z,y,xs,Paired.mapP r fun p q z=>⟨z.1,ht _ _ z.2.1,z.2.2⟩,ob,es,ep,k _ _ (.inl rfl) e,c⟩
 | set S n=>obtain ⟨ob,es,ep,t,e,c⟩:=x; exact ⟨ob,es,ep,t,k _ _ (.inl rfl) e,c⟩
 | ins C dx fs =>
  obtain ⟨d,z,ne,e,mA,⟨od,es,ep,e2,c⟩,r⟩:=x
  exact ⟨ho _ d,z,ne,k _ _ (.inl rfl) e,mA,⟨od,es,ep,k _ _ (.inr d) e2,c⟩,r⟩
 | own y=>obtain ⟨ob,e⟩:=x; exact ⟨ob,k _ _ (.inl rfl) e⟩
 | xd fs=>obtain ⟨mA,⟨od,es,ep,e,c⟩,r⟩:=x; exact ⟨mA,⟨od,es,ep,k _ _ (.inl rfl) e,c⟩,r⟩
 | rng lo hi=>obtain ⟨t,u,v,e⟩:=x; exact ⟨t,u,v,k _ _ (.inl rfl) e⟩
 | frz ob u ih=>obtain ⟨e,q⟩:=x; exact ⟨k _ _ (.inl rfl) e,ih q⟩
 | tbl ps =>
  have e:h.get? a = some { cls:=.none,data:=.fields ps }:=x
  show h'.get? a = some { cls:=.none,data:=.fields ps }
  exact k a _ (.inl rfl) e
 | met f y =>
  have e:h.get? a = some (PySem.W.methodObj (.ref f) (.ref y)):=x
  show h'.get? a = some (PySem.W.methodObj (.ref f) (.ref y))
  exact k a _ (.inl rfl) e
 | ext φ=>obtain ⟨p,⟨o,e⟩,st⟩:=x; exact ⟨st _ _ p fun o q=>k _ _ (.inl rfl) q,⟨o,k _ _ (.inl rfl) e⟩,st⟩
theorem HOk.lt (x:HOk P w H h) (e:H a = some o):a < h.objs.size:=(x a o e).lt
theorem HOk.fresh (x:HOk P w H h) (e:h.objs.size <= a):H a = none:=by
 cases q:H a with
 | none=>rfl
 | some u=>exact absurd (ď (x.lt q) e) (Ń _)
theorem HOk.kept (x:HOk P w H h) (k:∀ b u,h.get? b = some u->h'.get? b = some u):HOk P w H h':=fun a o e =>
 (x a o e).stay (fun b u _ q=>k b u q) (fun _ q=>q) fun _ _ q=>q
theorem HOk.laid (x:HOk P w H h) (k:∀ b u,h.get? b = some u->h'.get? b = some u) (hp:h.objs.size <= a) (new:ObjOk P w (upd H a o) h' a o):HOk P w (upd H a o) h':=fun b u e=>by
 have hn:=x.fresh hp
 by_cases hb:b = a
 ·subst hb; rw [Á] at e; cases e; exact new
 ·rw [upd_ne hb] at e
  exact (x b u e).stay (fun c v _ q=>k c v q) (fun c q=>by rw [upd_ne (Ç q hn)]; exact q) fun c xs q=>by rw [upd_ne (Ç q hn)]; exact q
end
noncomputable def Rd (H:Hp) (a:Addr) (u:HO):Prop:=H a = some u \/ ∃ o,H a = some (.frz o u)
theorem Rd.ok {P:Program} {w:World} {H:Hp} {h:Heap} {a:Addr} {u:HO} (r:Rd H a u) (x:HOk P w H h):ObjOk P w H h a u:=by
 rcases r with r | ⟨o,r⟩
 ·exact x a u r
 ·obtain ⟨_,q⟩:=x a _ r
  exact q
noncomputable def Mut:Option HO->Prop
 | some (.lst _)=>True
 | some (.dK _)=>True
 | some (.dT _)=>True
 | some (.set _ _)=>True
 | some (.ins _ _ _)=>True
 | some (.ext _)=>True
 | _=>False
section
variable {P:Program} {w:World} {H:Hp} {h h':Heap} {x e:Addr} {o':HO}
theorem HOk.write (ok:HOk P w H h) (mu:Mut (H x)) (he:e = x \/ H e = some (.own x)) (k:∀ b u,b ≠ e->h.get? b = some u->h'.get? b = some u) (heo:∃ u,h'.get? e = some u)
  (new:ObjOk P w (upd H x o') h' x o'):HOk P w (upd H x o') h':=fun b u q=>by
 have nown:∀ c y,H c = some (.own y)->c ≠ x:=fun c y r z=>by subst z; rw [r] at mu; exact mu
 have ntup:∀ c xs,H c = some (.tup xs)->c ≠ x:=fun c xs r z=>by subst z; rw [r] at mu; exact mu
 by_cases hb:b = x
 ·subst hb; rw [Á] at q; cases q; exact new
 ·rw [upd_ne hb] at q
  by_cases hbe:b = e
  ·have q':H b = some (.own x):=by
    rcases he with z | z
    ·exact absurd (hbe.trans z) hb
    ·rw [hbe]; exact z
   rw [q] at q'; cases q'
   obtain ⟨v,hv⟩:=heo
   exact ⟨v,by rw [hbe]; exact hv⟩
  ·refine (ok b u q).stay (fun c v hc r=>k c v ?_ r) (fun c r=>by rw [upd_ne (nown c b r)]; exact r) fun c xs r=>by rw [upd_ne (ntup c xs r)]; exact r
   rcases hc with rfl | hc
   ·exact hbe
   ·rintro rfl
    rcases he with z | z
    ·exact nown c b hc z
    ·rw [hc] at z; cases z; exact hb rfl
end
structure Un (fs ex:List Addr) (H H':Hp) (h h':Heap):Prop where
 keep:∀ b o,h.get? b = some o->H b = none->b ∉ fs->b ∉ ex->h'.get? b = some o
 slot:∀ b o,h.get? b = some o->H b = none->b ∈ fs->b ∉ ex->∃ sl,h'.get? b = some { o with slots:=sl }
 free:∀ b o,h.get? b = some o->H b = none->b ∉ ex->H' b = none
 there:∀ b o,h.get? b = some o->b ∉ ex->∃ o',h'.get? b = some o'
 tups:∀ b xs,H b = some (.tup xs)->H' b = some (.tup xs)
 frzs:∀ b o u,H b = some (.frz o u)->H' b = some (.frz o u)
 tbls:∀ b ps,H b = some (.tbl ps)->∃ more,H' b = some (.tbl (ps ++ more))
section
variable {fs fs' ex ex':List Addr} {H H1 H2:Hp} {h h1 h2 h':Heap} {a x e:Addr} {o:HO}
theorem Un.any (u:Un fs ex H H1 h h1) {b:Addr} {ob:Obj} (q:h.get? b = some ob) (n:H b = none) (hx:b ∉ ex):∃ sl,h1.get? b = some { ob with slots:=sl }:=by
 by_cases hb:b ∈ fs
 ·exact u.slot b ob q n hb hx
 ·exact ⟨ob.slots,u.keep b ob q n hb hx⟩
theorem Un.kept (k:∀ b u,h.get? b = some u->h'.get? b = some u):Un fs ex H H h h' :=
 ⟨fun b ob q _ _ _=>k b ob q,fun b ob q _ _ _=>⟨ob.slots,k b ob q⟩,fun _ _ _ n _=>n,fun b ob q _=>⟨ob,k b ob q⟩,fun _ _ q=>q,fun _ _ _ q=>q,fun _ ps q=>⟨#[],by rw [q]; simp⟩⟩
theorem Un.refl:Un fs ex H H h h:=Un.kept fun _ _ q=>q
theorem Un.laid (k:∀ b u,h.get? b = some u->h'.get? b = some u) (hp:h.objs.size <= a) (hn:H a = none):Un fs ex H (upd H a o) h h' where
 keep:=fun b u q _ _ _=>k b u q
 slot:=fun b u q _ _ _=>⟨u.slots,k b u q⟩
 free:=fun b u q n _=>by rw [upd_ne (Ħ (ď (ć q) hp))]; exact n
 there:=fun b u q _=>⟨u,k b u q⟩
 tups:=fun b xs q=>by rw [upd_ne (Ç q hn)]; exact q
 frzs:=fun b u xs q=>by rw [upd_ne (Ç q hn)]; exact q
 tbls:=fun b ps q=>⟨#[],by rw [upd_ne (Ç q hn),q]; simp⟩
theorem Un.write (mu:Mut (H x)) (he:e = x \/ H e = some (.own x)) (k:∀ b u,b ≠ e->h.get? b = some u->h'.get? b = some u) (heo:∃ u,h'.get? e = some u):Un fs ex H (upd H x o) h h':=by
 have hx:∀ b,H b = none->b ≠ x:=fun b n z=>by subst z; rw [n] at mu; exact mu
 have hb:∀ b,H b = none->b ≠ e:=fun b n z=>by
  subst z
  rcases he with r | r
  ·exact hx b n r
  ·rw [n] at r; cases r
 have hm:∀ b u,H b = some u->¬ Mut (some u)->b ≠ x:=fun b u q nm z=>by subst z; rw [q] at mu; exact nm mu
 refine ⟨fun b u q n _ _=>k b u (hb b n) q,fun b u q n _ _=>⟨u.slots,k b u (hb b n) q⟩,fun b u q n _=>by rw [upd_ne (hx b n)]; exact n,fun b u q _=>?_,
  fun b xs q=>by rw [upd_ne (hm b _ q fun z=>z)]; exact q,fun b u xs q=>by rw [upd_ne (hm b _ q fun z=>z)]; exact q,fun b ps q=>⟨#[],by rw [upd_ne (hm b _ q fun z=>z),q]; simp⟩⟩
 by_cases hbe:b = e
 ·subst hbe; exact heo
 ·exact ⟨u,k b u hbe q⟩
end
noncomputable def trk (h:Heap) (H:Hp):List Addr:=(Ķ h.objs.size).filter fun a=>(H a).isSome
noncomputable def hidT (h:Heap) (H:Hp):Heap:=PySem.W.hideAll h (trk h H)
theorem yS8 (h:Heap) (H:Hp):(hidT h H).objs.size = h.objs.size:=PySem.W.hideAll_size _ _
theorem yY9 {h:Heap} {H:Hp} {b:Addr} {o:Obj} (e:h.get? b = some o) (n:H b = none):(hidT h H).get? b = some o :=
 PySem.W.hideAll_get _ e fun hm=>by
  have q:(H b).isSome = true:=(ġ.mp hm).2
  rw [n] at q; simp at q
theorem xG1 {h:Heap} {H:Hp} {b:Addr} {o:Obj} (e:(hidT h H).get? b = some o):h.get? b = some o /\ H b = none:=by
 have e':h.get? b = some o:=PySem.W.of_hideAll (trk h H) e
 refine ⟨e',?_⟩
 cases q:H b with
 | none=>rfl
 | some x =>
  have hm:b ∈ trk h H:=ġ.mpr ⟨List.mem_range.mpr (ć e'),by simp [q]⟩
  have z:(hidT h H).get? b = none:=PySem.W.hideAll_none (trk h H) hm
  rw [z] at e; cases e
noncomputable def zV0 (g h:Heap) (L:Addr):List (Addr × Obj):=(Ķ h.objs.size).filterMap fun a=>if a = L \/ (g.get? a).isSome = true then none else (h.get? a).map fun o=>(a,o)
theorem yC1 {g h:Heap} {L a:Addr} {o:Obj} (h1:a ≠ L) (h2:g.get? a = none) (h3:h.get? a = some o):(a,o) ∈ zV0 g h L :=
 Ũ.mpr ⟨a,List.mem_range.mpr (ć h3),by simp [h1,h2,h3]⟩
theorem zP3 {g h:Heap} {L:Addr} {p:Addr × Obj} (hp:p ∈ zV0 g h L):p.1 ≠ L /\ g.get? p.1 = none /\ h.get? p.1 = some p.2:=by
 obtain ⟨b,_,e⟩:=Ũ.mp hp
 split at e
 ·cases e
 ·rename_i hn
  cases q:h.get? b with
  | none=>rw [q] at e; simp at e
  | some u =>
   rw [q] at e
   simp only [Option.map_some,Option.some.injEq] at e
   subst e
   refine ⟨fun z=>hn (.inl z),?_,q⟩
   show g.get? b = none
   cases r:g.get? b with
   | none=>rfl
   | some v=>exact (hn (.inr (by simp [r]))).elim
theorem yX9 {g h:Heap} {L:Addr}:News g L h (zV0 g h L):=fun p hp=>let ⟨a,b,c⟩:=zP3 hp; ⟨c,a,b⟩
structure Mod (K:Ā) (mg:Str->Option Value) (base:Heap):Prop where
 kin:K.In base
 glob:base.Ns mainGlobals mg
 blt:∃ mb,base.Ns builtinsNs mb /\ ∀ x:Str,x ≠ "__name__"->mb x = bootBuiltins x
 nolimit:base.NoLimit
set_option genInjectivity false in
structure Cx where
 prog:Program
 w:World
 K:Ā
 mg:Str->Option Value
 base:Heap
 A:Around
 N:List Str
 s₀:Shared
 H₀:Hp
 env:Env
 outer:List Env
 stack:List Env
 ex:List Addr
 fn:Str->Bool
 calm:Bool
 pn:List (Addr × Obj)
 xe:Value->Shared->Prop
noncomputable def frs (l:List Env):List Addr:=l.filterMap (·.frame)
noncomputable abbrev Cx.fs (X:Cx):List Addr:=frs X.outer
noncomputable def Vis (sc:Scope) (x:Str):Prop:=sc.names.lookup x = some .local \/ sc.names.lookup x = some .cell \/ sc.names.lookup x = some .free
noncomputable def Loc (sc:Scope) (x:Str):Prop:=sc.names.lookup x = some .local \/ sc.names.lookup x = some .cell
noncomputable def Look (env:Env) (h:Heap) (m:Str->Option Value) (x:Str) (u:Value):Prop :=
 (env.kindOf x = some .local /\ m x = some u) \/ ((env.kindOf x = some .cell \/ env.kindOf x = some .free) /\ ∃ c,env.cells.lookup x = some c /\ h.IsCell c (some u))
structure Cx.Ok (X:Cx):Prop where
 mod:Mod X.K X.mg X.base
 kind:X.env.scope.kind = .function
 glob:X.env.globals = mainGlobals
 blt:X.env.builtins = builtinsNs
 above:X.s₀.heap.objs.size <= X.env.locals
 inj:∀ x y c,X.env.cells.lookup x = some c->X.env.cells.lookup y = some c->x = y
 has:∀ x,(X.env.kindOf x = some .cell \/ X.env.kindOf x = some .free)->∃ c,X.env.cells.lookup x = some c
 cab:∀ x c,X.fn x = true->X.env.cells.lookup x = some c->X.s₀.heap.objs.size <= c
 hd:X.calm = true->X.A.handled = none
 frames:X.A.frames = some X.stack
 stk:X.stack = X.outer \/ (X.stack = X.env :: X.outer /\ X.env.frame = some X.env.locals)
 exf:∀ b ∈ X.ex,b ≠ X.env.locals /\ ∀ x c,X.env.cells.lookup x = some c->c ≠ b
 bs:∀ b o,X.base.get? b = some o->X.s₀.heap.get? b = some o /\ X.H₀ b = none
 bsz:X.base.objs.size <= X.s₀.heap.objs.size
 noex:∀ b o,X.base.get? b = some o->b ∉ X.ex
 exfs:∀ b ∈ X.ex,b ∉ X.fs
 funs:X.s₀.heap.FunFrames X.base X.outer
 frf:∀ b ∈ X.fs,X.H₀ b = none
structure Inv (X:Cx) (pins:List (Addr × Obj)) (σ:List (Option V)) (H:Hp) (s:Shared):Prop where
 ok:X.Ok
 os:s.os = X.s₀.os
 bare:AllBare s.gens
 base:Un X.fs X.ex X.H₀ H X.s₀.heap s.heap
 loc:∃ m,s.heap.Ns X.env.locals m /\ ∀ (i:Nat) (x:Str) (v:V),X.N[i]? = some x->σ[i]? = some (some v)->Vis X.env.scope x->∃ u,RelV v u /\ Look X.env s.heap m x u
 cell:∀ x c,X.env.cells.lookup x = some c->∃ v,s.heap.IsCell c v
 free:H X.env.locals = none
 freeC:∀ x c,X.env.cells.lookup x = some c->H c = none
 pin:∀ p ∈ X.pn ++ pins,s.heap.get? p.1 = some p.2 /\ H p.1 = none /\ p.1 ≠ X.env.locals /\ p.1 ∉ X.fs /\ ∀ v,p.2.data ≠ .cell v
 hok:HOk X.prog X.w H s.heap
 len:σ.length = X.N.length
section
variable {X:Cx} {pins:List (Addr × Obj)} {σ:List (Option V)} {H H':Hp} {s:Shared} {h':Heap}
theorem Cx.Ok.nofr (ok:X.Ok) {b:Addr} {o:Obj} (e:X.base.get? b = some o):b ∉ X.fs:=fun hb=>by
 have:=(ok.funs.mem hb).1
 rw [e] at this; cases this
theorem Inv.bs (I:Inv X pins σ H s):∀ b o,X.base.get? b = some o->s.heap.get? b = some o /\ H b = none:=fun b o e =>
 ⟨I.base.keep b o (I.ok.bs b o e).1 (I.ok.bs b o e).2 (I.ok.nofr e) (I.ok.noex b o e),I.base.free b o (I.ok.bs b o e).1 (I.ok.bs b o e).2 (I.ok.noex b o e)⟩
theorem Inv.bk (I:Inv X pins σ H s):∀ b o,X.base.get? b = some o->s.heap.get? b = some o:=fun b o e=>(I.bs b o e).1
theorem Inv.mod (I:Inv X pins σ H s):Mod X.K X.mg X.base:=I.ok.mod
theorem Inv.kIn (I:Inv X pins σ H s):X.K.In s.heap:=I.ok.mod.kin.keeps I.bk
theorem Inv.lt (I:Inv X pins σ H s):X.env.locals < s.heap.objs.size:=let ⟨_,hn,_⟩:=I.loc; hn.lt
theorem Inv.sz (I:Inv X pins σ H s):X.s₀.heap.objs.size <= s.heap.objs.size:=č I.ok.above (Ś I.lt)
theorem Inv.nofs (I:Inv X pins σ H s) {a:Addr} (h:s.heap.objs.size <= a):a ∉ X.fs:=fun hb=>by
 obtain ⟨_,o,ho,_⟩:=I.ok.funs.mem hb
 exact absurd (ď (ć ho) (č I.sz h)) (Ń _)
theorem Inv.cne (I:Inv X pins σ H s):∀ x c,X.env.cells.lookup x = some c->c ≠ X.env.locals:=fun x c e z=>by
 obtain ⟨v,o,ho,hd⟩:=I.cell x c e
 obtain ⟨m,⟨o',es,ep,ho',hd',_⟩,_⟩:=I.loc
 rw [z,ho'] at ho; cases ho; rw [hd'] at hd; cases hd
theorem Inv.funs (I:Inv X pins σ H s):s.heap.FunFrames X.base X.outer:=by
 have all:∀ (l:List Env),(∀ b ∈ frs l,b ∈ X.fs)->X.s₀.heap.FunFrames X.base l->s.heap.FunFrames X.base l:=by
  intro l
  induction l with
  | nil=>intro _ _; trivial
  | cons env r ih =>
   intro hs hl
   obtain ⟨hk,⟨L,o,hf,hn,ho,hd⟩,hr⟩:=hl
   have hL:L ∈ X.fs:=hs L (by unfold frs; rw [List.filterMap_cons,hf]; exact ă)
   obtain ⟨sl,e⟩:=I.base.slot L o ho (I.ok.frf L hL) hL fun z=>I.ok.exfs L z hL
   exact ⟨hk,⟨L,_,hf,hn,e,hd⟩,ih (fun b hb=>hs b (by unfold frs; rw [List.filterMap_cons,hf]; exact Ă _ hb)) hr⟩
 exact all X.outer (fun _ hb=>hb) I.ok.funs
theorem Inv.stack (I:Inv X pins σ H s):s.heap.FunFrames X.base X.stack:=by
 rcases I.ok.stk with e | ⟨e,hf⟩
 ·rw [e]; exact I.funs
 ·rw [e]
  obtain ⟨m,hn,_⟩:=I.loc
  refine .cons (by rw [I.ok.kind]; decide) hf hn ?_ I.funs
  exact Heap.get?_none_of_le (č I.ok.bsz I.ok.above)
theorem Inv.stkSub (I:Inv X pins σ H s):∀ b ∈ frs X.stack,b ∈ X.env.locals :: X.fs:=fun b hb=>by
 rcases I.ok.stk with e | ⟨e,hf⟩
 ·rw [e] at hb; exact Ă _ hb
 ·rw [e] at hb
  unfold frs at hb
  rw [List.filterMap_cons,hf] at hb
  exact hb
theorem Inv.stkFree (I:Inv X pins σ H s):∀ b ∈ frs X.stack,H b = none:=fun b hb=>by
 rcases Ē.mp (I.stkSub b hb) with e | hb
 ·rw [e]; exact I.free
 ·obtain ⟨_,o,ho,_⟩:=I.ok.funs.mem hb
  exact I.base.free b o ho (I.ok.frf b hb) fun z=>I.ok.exfs b z hb
theorem Inv.step {g':Array GenState} {t':Nat} {d':Drawn} {ch:List Addr} (I:Inv X pins σ H s)
  (hch:∀ b ∈ ch,(b ∈ X.ex \/ X.s₀.heap.objs.size <= b) /\ b ≠ X.env.locals /\ (∀ x c,X.env.cells.lookup x = some c->c ≠ b) /\ ∀ p ∈ X.pn ++ pins,p.1 ≠ b)
  (keep:∀ b o,b ≠ X.env.locals->b ∉ X.fs->b ∉ ch->s.heap.get? b = some o->H b = none->h'.get? b = some o)
  (slot:∀ b o,b ≠ X.env.locals->b ∈ X.fs->b ∉ ch->s.heap.get? b = some o->H b = none->∃ sl,h'.get? b = some { o with slots:=sl }) (free:∀ b o,b ∉ ch->s.heap.get? b = some o->H b = none->H' b = none)
  (there:∀ b o,b ∉ ch->s.heap.get? b = some o->∃ o',h'.get? b = some o')
  (tups:∀ b xs,H b = some (.tup xs)->H' b = some (.tup xs)) (frzs:∀ b o u,H b = some (.frz o u)->H' b = some (.frz o u)) (tbls:∀ b ps,H b = some (.tbl ps)->∃ more,H' b = some (.tbl (ps ++ more)))
  (ns:∀ m,s.heap.Ns X.env.locals m->h'.Ns X.env.locals m) (hok:HOk X.prog X.w H' h') (hg:AllBare g') :
  Inv X pins σ H' { s with heap:=h',gens:=g',drawn:=d',toks:=t' }:=by
 have neL:∀ b o,X.s₀.heap.get? b = some o->b ≠ X.env.locals:=fun b o e=>Ħ (ď (ć e) I.ok.above)
 have neC:∀ b o,X.s₀.heap.get? b = some o->b ∉ X.ex->b ∉ ch:=fun b o e hx hb=>by
  rcases (hch b hb).1 with z | z
  ·exact hx z
  ·exact absurd (ď (ć e) z) (Ń _)
 have cellK:∀ x c,X.env.cells.lookup x = some c->∀ v,s.heap.IsCell c v->h'.IsCell c v:=fun x c e v ⟨o,ho,hd⟩=>by
  have nch:c ∉ ch:=fun z=>(hch c z).2.2.1 x c e rfl
  by_cases hc:c ∈ X.fs
  ·obtain ⟨sl,q⟩:=slot c o (I.cne x c e) hc nch ho (I.freeC x c e)
   exact ⟨_,q,hd⟩
  ·exact ⟨o,keep c o (I.cne x c e) hc nch ho (I.freeC x c e),hd⟩
 refine ⟨I.ok,I.os,hg,⟨fun b o e n hb hx=>?_,fun b o e n hb hx=>?_,fun b o e n hx=>?_,fun b o e hx=>?_,fun b xs e=>tups b xs (I.base.tups b xs e),fun b o xs e=>frzs b o xs (I.base.frzs b o xs e),fun b ps e=>?_⟩,?_,fun x c e=>?_,?_,fun x c e=>?_,fun p hp=>?_,hok,I.len⟩
 ·exact keep b o (neL b o e) hb (neC b o e hx) (I.base.keep b o e n hb hx) (I.base.free b o e n hx)
 ·obtain ⟨sl,e1⟩:=I.base.slot b o e n hb hx
  obtain ⟨sl',e2⟩:=slot b _ (neL b o e) hb (neC b o e hx) e1 (I.base.free b o e n hx)
  exact ⟨sl',e2⟩
 ·obtain ⟨o',e1⟩:=I.base.there b o e hx
  exact free b o' (neC b o e hx) e1 (I.base.free b o e n hx)
 ·obtain ⟨o',e1⟩:=I.base.there b o e hx
  exact there b o' (neC b o e hx) e1
 ·obtain ⟨m1,e1⟩:=I.base.tbls b ps e
  obtain ⟨m2,e2⟩:=tbls b _ e1
  exact ⟨m1 ++ m2,by rw [e2,Array.append_assoc]⟩
 ·obtain ⟨m,hn,hl⟩:=I.loc
  refine ⟨m,ns m hn,fun i x v e1 e2 e3=>?_⟩
  obtain ⟨u,r,l⟩:=hl i x v e1 e2 e3
  refine ⟨u,r,?_⟩
  rcases l with l | ⟨k,c,e,z⟩
  ·exact .inl l
  ·exact .inr ⟨k,c,e,cellK x c e _ z⟩
 ·obtain ⟨v,z⟩:=I.cell x c e
  exact ⟨v,cellK x c e v z⟩
 ·obtain ⟨m,⟨o,_,_,ho,_⟩,_⟩:=I.loc
  exact free _ o (fun z=>(hch _ z).2.1 rfl) ho I.free
 ·obtain ⟨v,o,ho,hd⟩:=I.cell x c e
  exact free c o (fun z=>(hch c z).2.2.1 x c e rfl) ho (I.freeC x c e)
 ·obtain ⟨e,n,ne,nf,d⟩:=I.pin p hp
  have nch:p.1 ∉ ch:=fun z=>(hch p.1 z).2.2.2 p hp rfl
  exact ⟨keep p.1 p.2 ne nf nch e n,free p.1 p.2 nch e n,ne,nf,d⟩
theorem Inv.un {t':Nat} (I:Inv X pins σ H s) (u:Un X.fs [] H H' s.heap h') (hok:HOk X.prog X.w H' h'):Inv X pins σ H' { s with heap:=h',toks:=t' }:=by
 obtain ⟨m,⟨o,es,ep,ho,r⟩,_⟩:=id I.loc
 obtain ⟨sl,hL⟩:=u.any ho I.free (by simp)
 exact I.step (g':=s.gens) (d':=s.drawn) (ch:=[]) (fun _ z=>nomatch z) (fun b o _ hb _ e n=>u.keep b o e n hb (by simp)) (fun b o _ hb _ e n=>u.slot b o e n hb (by simp)) (fun b o _ e n=>u.free b o e n (by simp)) (fun b o _ e=>u.there b o e (by simp)) u.tups u.frzs u.tbls (fun m' hm=>by
  obtain ⟨o',es',ep',ho',r'⟩:=hm
  rw [ho] at ho'; cases ho'
  exact ⟨_,es',ep',hL,r'⟩) hok I.bare
theorem Inv.call {g':Array GenState} {t':Nat} {d':Drawn} {ch:List Addr} (I:Inv X pins σ H s) (u:Un (frs X.stack) ch H H' s.heap h') (hok:HOk X.prog X.w H' h') (hg:AllBare g')
  (hch:∀ b ∈ ch,(b ∈ X.ex \/ X.s₀.heap.objs.size <= b) /\ b ≠ X.env.locals /\ (∀ x c,X.env.cells.lookup x = some c->c ≠ b) /\ ∀ p ∈ X.pn ++ pins,p.1 ≠ b) :
  Inv X pins σ H' { s with heap:=h',gens:=g',drawn:=d',toks:=t' }:=by
 obtain ⟨m,⟨o,es,ep,ho,r⟩,_⟩:=id I.loc
 obtain ⟨sl,hL⟩:=u.any ho I.free fun z=>(hch _ z).2.1 rfl
 exact I.step (ch:=ch) hch (fun b o hL hb hc e n=>u.keep b o e n (fun z=>(Ē.mp (I.stkSub b z)).elim hL hb) hc) (fun b o _ _ hc e n=>u.any e n hc) (fun b o hc e n=>u.free b o e n hc) (fun b o hc e=>u.there b o e hc) u.tups u.frzs u.tbls (fun m' hm=>by
  obtain ⟨o',es',ep',ho',r'⟩:=hm
  rw [ho] at ho'; cases ho'
  exact ⟨_,es',ep',hL,r'⟩) hok hg
theorem Inv.turned {t':Nat} {it:Addr} (I:Inv X pins σ H s) (k:∀ b o,b ≠ it->s.heap.get? b = some o->h'.get? b = some o) (hn:H it = none) (hL:it ≠ X.env.locals)
  (h1:it ∈ X.ex \/ X.s₀.heap.objs.size <= it) (h2:∀ x c,X.env.cells.lookup x = some c->c ≠ it) (h3:∀ p ∈ X.pn ++ pins,p.1 ≠ it):Inv X pins σ H { s with heap:=h',toks:=t' }:=by
 have nit:∀ b u,H b = some u->b ≠ it:=fun b u e z=>by rw [z,hn] at e; cases e
 refine I.step (g':=s.gens) (d':=s.drawn) (ch:=[it]) (fun b hb=>?_) (fun b o _ _ hc e _=>k b o (fun z=>hc (by simp [z])) e) (fun b o _ _ hc e _=>⟨o.slots,k b o (fun z=>hc (by simp [z])) e⟩) (fun _ _ _ _ n=>n)
  (fun b o hc e=>⟨o,k b o (fun z=>hc (by simp [z])) e⟩) (fun _ _ e=>e) (fun _ _ _ e=>e) (fun b ps e=>⟨#[],by rw [e]; simp⟩) (fun m hm=>?_) (fun b u e=>?_) I.bare
 ·have e:b = it:=by simpa using hb
  subst e
  exact ⟨h1,hL,h2,h3⟩
 ·obtain ⟨o,es,ep,ho,r⟩:=hm
  exact ⟨o,es,ep,k _ o (Ne.symm hL) ho,r⟩
 ·refine (I.hok b u e).stay (fun c v hc q=>k c v ?_ q) (fun _ q=>q) fun _ _ q=>q
  rcases hc with z | z
  ·rw [z]; exact nit b u e
  ·exact nit c _ z
theorem Inv.tok (I:Inv X pins σ H s) (t:Nat):Inv X pins σ H { s with toks:=t }:=I.un (h':=s.heap) (t':=t) Un.refl I.hok
theorem Inv.kept {t':Nat} (I:Inv X pins σ H s) (k:∀ b u,s.heap.get? b = some u->h'.get? b = some u):Inv X pins σ H { s with heap:=h',toks:=t' }:=I.un (Un.kept k) (I.hok.kept k)
theorem Inv.laid {a:Addr} {o:HO} {t':Nat} (I:Inv X pins σ H s) (k:∀ b u,s.heap.get? b = some u->h'.get? b = some u) (hp:s.heap.objs.size <= a) (new:ObjOk X.prog X.w (upd H a o) h' a o) :
  Inv X pins σ (upd H a o) { s with heap:=h',toks:=t' }:=I.un (Un.laid k hp (I.hok.fresh hp)) (I.hok.laid k hp new)
theorem Inv.write {x e:Addr} {o:HO} {t':Nat} (I:Inv X pins σ H s) (mu:Mut (H x)) (he:e = x \/ H e = some (.own x)) (k:∀ b u,b ≠ e->s.heap.get? b = some u->h'.get? b = some u) (heo:∃ u,h'.get? e = some u)
  (new:ObjOk X.prog X.w (upd H x o) h' x o):Inv X pins σ (upd H x o) { s with heap:=h',toks:=t' }:=I.un (Un.write mu he k heo) (I.hok.write mu he k heo new)
theorem Inv.pins_of {pins':List (Addr × Obj)} (I:Inv X pins σ H s) (h:∀ p ∈ pins',s.heap.get? p.1 = some p.2 /\ H p.1 = none /\ p.1 ≠ X.env.locals /\ p.1 ∉ X.fs /\ ∀ v,p.2.data ≠ .cell v):Inv X pins' σ H s :=
 ⟨I.ok,I.os,I.bare,I.base,I.loc,I.cell,I.free,I.freeC,fun p hp=>(Ĥ.mp hp).elim (fun z=>I.pin p (List.mem_append_left _ z)) (h p),I.hok,I.len⟩
theorem yF7 {N:List Str} (hN:N.Nodup) {i j:Nat} {x:Str} (a:N[i]? = some x) (b:N[j]? = some x):i = j:=by
 obtain ⟨h1,e1⟩:=Ą.mp a
 obtain ⟨h2,e2⟩:=Ą.mp b
 exact (List.getElem_inj hN).mp (e1.trans e2.symm)
theorem zV9 {M:Model} {A:Around} {E:Value->Shared->Prop} {i:Nat} {x:Str} {v:V} {u:Value} {Q:Unit->Shared->Prop} (I:Inv X pins σ H s) (hN:X.N.Nodup) (hi:X.N[i]? = some x) (hx:Loc X.env.scope x) (r:RelV v u)
  (h:∀ s',Inv X pins (σ.set i (some v)) H s'->(∃ a,Heap.SameBut a s.heap s'.heap /\ (a = X.env.locals \/ X.env.cells.lookup x = some a))->Q () s') (hf:X.fn x = true \/ X.env.scope.names.lookup x = some .local:=by first | exact .inl rfl | exact .inr rfl | assumption):wpAny M A (storeName X.env x u) Q E s:=by
 obtain ⟨m,hn,hl⟩:=id I.loc
 have hcls:(X.env.scope.kind == .class || (X.env.scope.kind == .module && X.env.locals != X.env.globals)) = false:=by rw [I.ok.kind]; rfl
 have hiσ:i < σ.length:=by rw [I.len]; exact (Ą.mp hi).1
 have cne:=I.cne
 have tracked:∀ {a:Addr} {h':Heap},(∃ o,s.heap.get? a = some o /\ H a = none)->Heap.SameBut a s.heap h'->HOk X.prog X.w H h':=fun {a h'} ha hs b ob e=>by
  obtain ⟨_,_,hfree⟩:=ha
  refine (I.hok b ob e).stay (fun c w' hc q=>(hs.2 c ?_).trans q) (fun _ q=>q) fun _ _ q=>q
  rintro rfl
  rcases hc with rfl | hc
  ·rw [hfree] at e; cases e
  ·rw [hfree] at hc; cases hc
 rcases hx with hk | hk
 ·refine wpAny_storeName_local hk hn (fun h' hn' hs=>?_) hcls
  obtain ⟨oL,_,_,hoL,_⟩:=id hn
  refine h _ ⟨I.ok,I.os,I.bare,⟨fun b o e n hb hx=>?_,fun b o e n hb hx=>?_,I.base.free,fun b o e hx=>?_,I.base.tups,I.base.frzs,I.base.tbls⟩,⟨_,hn',fun j y v' e1 e2 e3=>?_⟩,fun y c e=>?_,I.free,I.freeC,fun p hp=>?_,tracked ⟨oL,hoL,I.free⟩ hs,by simpa using I.len⟩ ⟨_,hs,.inl rfl⟩
  ·exact (hs.2 b (Ħ (ď (ć e) I.ok.above))).trans (I.base.keep b o e n hb hx)
  ·obtain ⟨sl,e1⟩:=I.base.slot b o e n hb hx
   exact ⟨sl,(hs.2 b (Ħ (ď (ć e) I.ok.above))).trans e1⟩
  ·obtain ⟨o',e1⟩:=I.base.there b o e hx
   exact ⟨o',(hs.2 b (Ħ (ď (ć e) I.ok.above))).trans e1⟩
  ·by_cases hj:j = i
   ·subst hj
    rw [hi] at e1; cases e1
    rw [List.getElem?_set_self hiσ] at e2
    cases e2
    exact ⟨u,r,.inl ⟨hk,by simp⟩⟩
   ·rw [List.getElem?_set_ne (Ne.symm hj)] at e2
    obtain ⟨u',r',q⟩:=hl j y v' e1 e2 e3
    refine ⟨u',r',?_⟩
    rcases q with ⟨k,e⟩ | ⟨k,c,e,z⟩
    ·refine .inl ⟨k,?_⟩
     have:y ≠ x:=fun e=>hj (yF7 hN e1 (e ▸ hi))
     simp [this,e]
    ·exact .inr ⟨k,c,e,z.sameBut hs (cne y c e)⟩
  ·obtain ⟨w',z⟩:=I.cell y c e
   exact ⟨w',z.sameBut hs (cne y c e)⟩
  ·obtain ⟨e,n,ne,nf,d⟩:=I.pin p hp
   exact ⟨(hs.2 p.1 ne).trans e,n,ne,nf,d⟩
 ·have hfn:X.fn x = true:=by
   rcases hf with z | z
   ·exact z
   ·rw [z] at hk; cases hk
  obtain ⟨c,hc⟩:=I.ok.has x (.inl hk)
  obtain ⟨w',z⟩:=I.cell x c hc
  refine wpAny_storeName_cell I.ok.kind hk hc z (fun h' hc' hs=>?_)
  obtain ⟨oc,hoc,hocd⟩:=id z
  refine h { s with heap:=h' } ⟨I.ok,I.os,I.bare,⟨fun b o e n hb hx=>?_,fun b o e n hb hx=>?_,I.base.free,fun b o e hx=>?_,I.base.tups,I.base.frzs,I.base.tbls⟩,⟨m,hn.sameBut hs (Ne.symm (cne x c hc)),fun j y v' e1 e2 e3=>?_⟩,fun y c' e=>?_,I.free,I.freeC,fun p hp=>?_,tracked ⟨oc,hoc,I.freeC x c hc⟩ hs,by simpa using I.len⟩ ⟨c,hs,.inr hc⟩
  ·exact (hs.2 b (Ħ (ď (ć e) (I.ok.cab x c hfn hc)))).trans (I.base.keep b o e n hb hx)
  ·obtain ⟨sl,e1⟩:=I.base.slot b o e n hb hx
   exact ⟨sl,(hs.2 b (Ħ (ď (ć e) (I.ok.cab x c hfn hc)))).trans e1⟩
  ·obtain ⟨o',e1⟩:=I.base.there b o e hx
   exact ⟨o',(hs.2 b (Ħ (ď (ć e) (I.ok.cab x c hfn hc)))).trans e1⟩
  ·by_cases hj:j = i
   ·subst hj
    rw [hi] at e1; cases e1
    rw [List.getElem?_set_self hiσ] at e2
    cases e2
    exact ⟨u,r,.inr ⟨.inl hk,c,hc,hc'⟩⟩
   ·rw [List.getElem?_set_ne (Ne.symm hj)] at e2
    obtain ⟨u',r',q⟩:=hl j y v' e1 e2 e3
    refine ⟨u',r',?_⟩
    rcases q with q | ⟨k,c',e,z'⟩
    ·exact .inl q
    ·refine .inr ⟨k,c',e,z'.sameBut hs ?_⟩
     rintro rfl
     exact hj (yF7 hN e1 (I.ok.inj _ _ _ e hc ▸ hi))
  ·by_cases hcc:c' = c
   ·subst hcc; exact ⟨_,hc'⟩
   ·obtain ⟨w2,z2⟩:=I.cell y c' e
    exact ⟨w2,z2.sameBut hs hcc⟩
  ·obtain ⟨e,n,ne,nf,d⟩:=I.pin p hp
   refine ⟨(hs.2 p.1 ?_).trans e,n,ne,nf,d⟩
   intro q
   rw [q,hoc] at e
   have q':oc = p.2:=Option.some.inj e
   exact d w' (by rw [<- q']; exact hocd)
theorem zH3 {M:Model} {A:Around} {E:Value->Shared->Prop} {i:Nat} {x:Str} {v:V} {u:Value} {Q:Unit->Shared->Prop} (I:Inv X pins σ H s) (hN:X.N.Nodup) (hi:X.N[i]? = some x) (hx:Loc X.env.scope x) (r:RelV v u)
  (h:∀ s',Inv X pins (σ.set i (some v)) H s'->Q () s') (hf:X.fn x = true \/ X.env.scope.names.lookup x = some .local:=by first | exact .inl rfl | exact .inr rfl | assumption):wpAny M A (storeName X.env x u) Q E s :=
 zV9 I hN hi hx r (fun s' I' _=>h s' I') hf
theorem Inv.call' {s':Shared} {ch:List Addr} (I:Inv X pins σ H s) (ho:s'.os = s.os) (u:Un (frs X.stack) ch H H' s.heap s'.heap) (hok:HOk X.prog X.w H' s'.heap) (hg:AllBare s'.gens)
  (hch:∀ b ∈ ch,(b ∈ X.ex \/ X.s₀.heap.objs.size <= b) /\ b ≠ X.env.locals /\ (∀ x c,X.env.cells.lookup x = some c->c ≠ b) /\ ∀ p ∈ X.pn ++ pins,p.1 ≠ b):Inv X pins σ H' s':=by
 obtain ⟨h',g',d',t',o'⟩:=s'
 have e:o' = s.os:=ho
 subst e
 exact I.call (g':=g') (t':=t') (d':=d') u hok hg hch
end
noncomputable abbrev XK:=Value->Option Addr->Hp->Prop
noncomputable abbrev St:=List (Option V)
noncomputable abbrev VK:=V->Hp->Prop
noncomputable abbrev TE:=St->Hp->VK->Prop
noncomputable abbrev TT:=St->Hp->(Bool->Hp->Prop)->Prop
noncomputable abbrev TA:=St->Hp->(List V->Hp->Prop)->Prop
set_option genInjectivity false in
structure Ends where
 nx:St->Hp->Prop
 rt:VK
 bk:St->Hp->Prop:=fun _ _=>False
 ct:St->Hp->Prop:=fun _ _=>False
noncomputable abbrev TS:=Ends->St->Hp->Prop
noncomputable def EP (X:Cx) (pins:List (Addr × Obj)) (σ:St) (Q:VK) (u:Value) (s':Shared):Prop:=∃ v H',Inv X pins σ H' s' /\ RelV v u /\ Q v H'
noncomputable def TP (X:Cx) (pins:List (Addr × Obj)) (σ:St) (Q:Bool->Hp->Prop) (b:Bool) (s':Shared):Prop:=∃ H',Inv X pins σ H' s' /\ Q b H'
noncomputable def AP (X:Cx) (pins:List (Addr × Obj)) (σ:St) (Q:List V->Hp->Prop) (us:List Value) (s':Shared):Prop:=∃ vs H',Inv X pins σ H' s' /\ Vals vs us /\ Q vs H'
noncomputable def SP (X:Cx) (pins:List (Addr × Obj)) (D:Ends) (f:Flow) (s':Shared):Prop :=
 match f with
 | .next=>∃ σ' H',Inv X pins σ' H' s' /\ D.nx σ' H'
 | .brk=>∃ σ' H',Inv X pins σ' H' s' /\ D.bk σ' H'
 | .cont=>∃ σ' H',Inv X pins σ' H' s' /\ D.ct σ' H'
 | .ret u=>∃ v σ' H',Inv X pins σ' H' s' /\ RelV v u /\ D.rt v H'
noncomputable def PE (X:Cx) (e:Expr) (t:TE):Prop :=
 ∀ (pins:List (Addr × Obj)) (s:Shared) (σ:St) (H:Hp) (Q:VK),Inv X pins σ H s->t σ H Q->wpAny (model X.prog X.w) X.A (eval e X.env) (EP X pins σ Q) X.xe s
noncomputable def PT (X:Cx) (e:Expr) (t:TT):Prop :=
 ∀ (pins:List (Addr × Obj)) (s:Shared) (σ:St) (H:Hp) (Q:Bool->Hp->Prop),Inv X pins σ H s->t σ H Q->wpAny (model X.prog X.w) X.A (isTrue e X.env (eval e X.env)) (TP X pins σ Q) X.xe s
noncomputable def PW (X:Cx) (e:Expr) (t:TT):Prop :=
 ∀ (whole:Sem Value) (pins:List (Addr × Obj)) (s:Shared) (σ:St) (H:Hp) (Q:Bool->Hp->Prop),Inv X pins σ H s->t σ H Q->wpAny (model X.prog X.w) X.A (isTrue e X.env whole) (TP X pins σ Q) X.xe s
theorem PW.pt {X:Cx} {e:Expr} {t:TT} (h:PW X e t):PT X e t:=h _
noncomputable def PA (X:Cx) (es:List Expr) (t:TA):Prop :=
 ∀ (pos:Pos) (pins:List (Addr × Obj)) (s:Shared) (σ:St) (H:Hp) (Q:List V->Hp->Prop),Inv X pins σ H s->t σ H Q->wpAny (model X.prog X.w) X.A (spliced (backTo pos (starEach es X.env))) (AP X pins σ Q) X.xe s
noncomputable def PS (X:Cx) (st:Stmt) (t:TS):Prop :=
 ∀ (pins:List (Addr × Obj)) (s:Shared) (σ:St) (H:Hp) (D:Ends),Inv X pins σ H s->t D σ H->wpAny (model X.prog X.w) X.A (exec st X.env) (SP X pins D) X.xe s
noncomputable def PSs (X:Cx) (st:List Stmt) (t:TS):Prop :=
 ∀ (pins:List (Addr × Obj)) (s:Shared) (σ:St) (H:Hp) (D:Ends),Inv X pins σ H s->t D σ H->wpAny (model X.prog X.w) X.A (execs st X.env) (SP X pins D) X.xe s
theorem thn {α:Type} {t:Sem α} {Q Q':α->Shared->Prop} {M:Model} {A:Around} {E:Value->Shared->Prop} {s:Shared} (h:wpAny M A t Q E s) (hQ:∀ a s,Q a s->Q' a s):wpAny M A t Q' E s:=wpAny_mono h hQ fun _ _ x=>x
section
variable {X:Cx}
noncomputable def tVar (i:Nat):TE:=fun σ H Q=>∃ v,σ[i]? = some (some v) /\ Q v H
noncomputable def tC (v:V):TE:=fun _ H Q=>Q v H
theorem xJ9 {i:Nat} {x:Str} {pos:Pos} (hN:X.N[i]? = some x) (hv:Vis X.env.scope x) (hd:(x == ("__debug__":Str)) = false:=by decide) (hcd:(x == ("__classdict__":Str)) = false:=by decide):PE X (.Name x pos) (tVar i):=by
 intro pins s σ H Q I h
 obtain ⟨v,e,h⟩:=h
 obtain ⟨m,hn,hl⟩:=I.loc
 obtain ⟨u,r,l⟩:=hl i x v hN e hv
 have fin:EP X pins σ Q u s:=⟨v,H,I,r,h⟩
 rcases l with ⟨hk,hm⟩ | ⟨hk,c,hc,hcell⟩
 ·exact wpAny_Name (wpAny_loadName_local I.ok.kind hk hn hm fin) hd
 ·rcases hk with hk | hk
  ·exact wpAny_Name (wpAny_loadName_cell I.ok.kind hk hc hcell fin) hd
  ·exact wpAny_Name (wpAny_loadName_free I.ok.kind hk hc hcell fin hcd) hd
theorem Ä {i j pos}:PE X (.Constant (.int i) j pos) (tC (.int i)):=fun _ _ _ H _ I h=>wpAny_Constant_int ⟨.int i,H,I.tok _,⟨_,rfl⟩,h⟩
theorem Ξ {b j pos}:PE X (.Constant (.bool b) j pos) (tC (.bl b)):=fun _ _ _ H _ I h=>Constant_bool ⟨.bl b,H,I,rfl,h⟩
theorem zQ0 {j pos}:PE X (.Constant .none j pos) (tC .non):=fun _ _ _ H _ I h=>Constant_none ⟨.non,H,I,rfl,h⟩
theorem ó {x j pos}:PE X (.Constant (.str x) j pos) (tC (.str x)):=fun _ _ _ H _ I h=>Calls.Constant_str ⟨.str x,H,I.tok _,⟨_,rfl⟩,h⟩
noncomputable def Gl (X:Cx) (x:Str):Prop:=X.env.kindOf x = some .globalImplicit
theorem yR3 {E:Value->Shared->Prop} {pins:List (Addr × Obj)} {s:Shared} {σ:St} {H:Hp} {x:Str} {u:Value} {pos:Pos} {Q:Value->Shared->Prop} (I:Inv X pins σ H s) (hg:Gl X x) (hm:X.mg x = some u) (h:Q u s)
  (hd:(x == ("__debug__":Str)) = false:=by decide):wpAny (model X.prog X.w) X.A (eval (.Name x pos) X.env) Q E s :=
 Calls.Name_function_global I.ok.kind hg (Calls.loadGlobal_global (by rw [I.ok.glob]; exact I.mod.glob.keeps I.bk) hm h) hd
theorem η {E:Value->Shared->Prop} {pins:List (Addr × Obj)} {s:Shared} {σ:St} {H:Hp} {x:Str} {u:Value} {pos:Pos} {Q:Value->Shared->Prop} (I:Inv X pins σ H s) (hg:Gl X x) (hm:X.mg x = none) (hv:bootBuiltins x = some u) (h:Q u s)
  (hn:x ≠ "__name__":=by decide) (hd:(x == ("__debug__":Str)) = false:=by decide):wpAny (model X.prog X.w) X.A (eval (.Name x pos) X.env) Q E s:=by
 obtain ⟨mb,h1,h2⟩:=I.mod.blt
 exact Calls.Name_function_global I.ok.kind hg (Calls.loadGlobal_builtin (by rw [I.ok.glob]; exact I.mod.glob.keeps I.bk) hm (by rw [I.ok.blt]; exact h1.keeps I.bk) ((h2 x hn).trans hv) h) hd
theorem Ψ {x:Str} {v:V} {u:Value} {pos:Pos} (hg:Gl X x) (hm:X.mg x = none) (hv:bootBuiltins x = some u) (r:RelV v u) (hn:x ≠ "__name__":=by decide) (hd:(x == ("__debug__":Str)) = false:=by decide):PE X (.Name x pos) (tC v) :=
 fun _ _ _ H _ I h=>η I hg hm hv ⟨v,H,I,r,h⟩ hn hd
variable {a b:Expr} {ta tb:TE} {pos:Pos}
noncomputable def PC (X:Cx) (op:CmpOp) (a b:Expr) (t:TE):Prop :=
 ∀ (pins:List (Addr × Obj)) (s:Shared) (σ:St) (H:Hp) (Q:VK),Inv X pins σ H s->t σ H Q ->
  wpAny (model X.prog X.w) X.A (eval a X.env) (fun v s₁=>wpAny (model X.prog X.w) X.A (eval b X.env) (fun u s₂=>wpAny (model X.prog X.w) X.A (compareOp op v u) (EP X pins σ Q) X.xe s₂) X.xe s₁) X.xe s
noncomputable def tB (t:TE):TT:=fun σ H Q=>t σ H fun x H1=>∃ c,x = .bl c /\ Q c H1
theorem xK1 {op:CmpOp} {t:TE} (h:PC X op a b t) (h1:behindInMarks op b = false:=by first | exact nobehind _ (by decide) (by decide) | rfl):PE X (.Compare a [op] [b] pos) t:=fun pins s σ H Q I hw=>wpAny_Compare1 (h pins s σ H Q I hw) h1
theorem yF1 {op:CmpOp} {t:TE} (h:PC X op a b t) (h1:behindInMarks op b = false:=by first | exact nobehind _ (by decide) (by decide) | rfl):PT X (.Compare a [op] [b] pos) (tB t):=by
 intro pins s σ H Q I hw
 refine wpAny_isTrue_Compare1 (thn (h pins s σ H _ I hw) fun v s1 h1=>thn h1 fun u s2 h2=>thn h2 fun c s3 ⟨x,H1,I1,r1,q1⟩=>?_) h1
 obtain ⟨d,rfl,q⟩:=q1
 cases r1
 exact wpAny_truthy_bool ⟨H1,I1,q⟩
theorem Α {e:Expr} {t:TE} (h:PE X e t) (he:∀ whole,isTrue e X.env whole = (do let v <- whole; standAt e.pos; holding [v] (truthy v)):=by intro _; rfl):PT X e (tB t):=by
 intro pins s σ H Q I hw
 refine isTrue_plain (thn (h pins s σ H _ I hw) fun v s1 ⟨x,H1,I1,r1,q1⟩=>?_) (he _)
 obtain ⟨d,rfl,q⟩:=q1
 cases r1
 exact wpAny_truthy_bool ⟨H1,I1,q⟩
variable {tA tB':TT} {rest:List Expr}
noncomputable def tAnd (t u:TT):TT:=fun σ H Q=>t σ H fun c H1=>if c = true then u σ H1 Q else Q false H1
noncomputable def tOr (t u:TT):TT:=fun σ H Q=>t σ H fun c H1=>if c = true then Q true H1 else u σ H1 Q
noncomputable def tNot (t:TT):TT:=fun σ H Q=>t σ H fun c H1=>Q (!c) H1
theorem yO2 (ha:PT X a tA):PW X (.BoolOp .And [a] pos) tA:=by
 intro wh pins s σ H Q I h
 refine isTrue_and (thn (ha pins s σ H Q I h) fun c s1 e=>?_)
 cases c with
 | true=>exact isTrue_and_nil e
 | false=>exact e
theorem ι (ha:PT X a tA):PW X (.BoolOp .Or [a] pos) tA:=by
 intro wh pins s σ H Q I h
 refine isTrue_or (thn (ha pins s σ H Q I h) fun c s1 e=>?_)
 cases c with
 | false=>exact isTrue_or_nil e
 | true=>exact e
theorem xB5 (ha:PT X a tA) (hb:PW X (.BoolOp .And (b :: rest) pos) tB'):PW X (.BoolOp .And (a :: b :: rest) pos) (tAnd tA tB'):=by
 intro wh pins s σ H Q I h
 refine isTrue_and (thn (ha pins s σ H _ I h) fun c s1 ⟨H1,I1,q1⟩=>?_)
 cases c with
 | true=>exact hb wh pins s1 σ H1 Q I1 q1
 | false=>exact ⟨H1,I1,q1⟩
theorem π (ha:PT X a tA) (hb:PW X (.BoolOp .Or (b :: rest) pos) tB'):PW X (.BoolOp .Or (a :: b :: rest) pos) (tOr tA tB'):=by
 intro wh pins s σ H Q I h
 refine isTrue_or (thn (ha pins s σ H _ I h) fun c s1 ⟨H1,I1,q1⟩=>?_)
 cases c with
 | true=>exact ⟨H1,I1,q1⟩
 | false=>exact hb wh pins s1 σ H1 Q I1 q1
theorem Ν (ha:PT X a tA):PT X (.UnaryOp .Not a pos) (tNot tA):=by
 intro pins s σ H Q I h
 exact isTrue_not (ha pins s σ H (fun c H1=>Q (!c) H1) I h)
noncomputable def xP4 (ta tb:TE):TE:=fun σ H Q=>ta σ H fun x H1=>∃ c,x = .bl c /\ if c = true then tb σ H1 Q else Q (.bl false) H1
noncomputable def xO9 (ta:TE):TE:=fun σ H Q=>ta σ H fun x H1=>∃ c,x = .bl c /\ Q (.bl (!c)) H1
theorem yF5 {op} {t:TE} (h:PE X a t):PE X (.BoolOp op [a] pos) t:=fun pins s σ H Q I hw=>BoolOp_one (h pins s σ H Q I hw)
theorem zQ1 (ha:PE X a ta) (hb:PE X (.BoolOp .And (b :: rest) pos) tb):PE X (.BoolOp .And (a :: b :: rest) pos) (xP4 ta tb):=by
 intro pins s σ H Q I h
 refine BoolOp_and (thn (ha pins s σ H _ I h) fun v s1 ⟨x,H1,I1,r1,q1⟩=>?_)
 obtain ⟨c,rfl,q1⟩:=q1
 cases r1
 refine wpAny_truthy_bool ?_
 cases c with
 | true=>exact hb pins s1 σ H1 Q I1 q1
 | false=>exact ⟨.bl false,H1,I1,rfl,q1⟩
theorem xK0 (ha:PE X a ta):PE X (.UnaryOp .Not a pos) (xO9 ta):=by
 intro pins s σ H Q I h
 refine UnaryOp_ (thn (ha pins s σ H _ I h) fun v s1 ⟨x,H1,I1,r1,q1⟩=>?_)
 obtain ⟨c,rfl,q1⟩:=q1
 cases r1
 exact not_of (wpAny_truthy_bool ⟨.bl (!c),H1,I1,rfl,q1⟩)
noncomputable def tIf (t:TT) (ta tb:TE):TE:=fun σ H Q=>t σ H fun c H1=>if c = true then ta σ H1 Q else tb σ H1 Q
theorem zR6 {c:Expr} (hc:PT X c tA) (ha:PE X a ta) (hb:PE X b tb):PE X (.IfExp c a b pos) (tIf tA ta tb):=by
 intro pins s σ H Q I h
 refine wpAny_IfExp (thn (hc pins s σ H _ I h) fun d s1 ⟨H1,I1,q1⟩=>?_)
 cases d with
 | true=>exact ha pins s1 σ H1 Q I1 q1
 | false=>exact hb pins s1 σ H1 Q I1 q1
end
noncomputable def SqL (K:Ā) (H:Hp) (a:Addr) (xs:List V):Prop :=
 Rd H a (.lst xs) \/
  ∃ (o:Obj) (its:Array Value) (n:Nat),K.lookup a = some o /\ o.cls = .type "list" /\ o.dict = none /\ o.data = .seq its n /\ its.size <= sizeLine /\ Vals xs its.toList
noncomputable def SqT (K:Ā) (H:Hp) (a:Addr) (xs:List V):Prop :=
 Rd H a (.tup xs) \/
  ∃ (o:Obj) (its:Array Value) (n:Nat),K.lookup a = some o /\ o.cls = .type "tuple" /\ o.data = .seq its n /\ its.size <= sizeLine /\ Vals xs its.toList
noncomputable def absV:Value->Option V
 | .none=>some .non
 | .bool b=>some (.bl b)
 | .int i _=>some (.int i)
 | .str x _=>some (.str x)
 | .bytes b _=>some (.byt b)
 | .float b _=>some (.flt b)
 | .ref a=>some (.ref a)
 | .type n=>some (.ty n)
 | _=>none
theorem RelV.abs {x:V} {u:Value} (r:RelV x u):absV u = some x:=by
 cases x with
 | non=>cases r; rfl
 | bl _=>cases r; rfl
 | int _=>obtain ⟨t,rfl⟩:=r; rfl
 | str _=>obtain ⟨t,rfl⟩:=r; rfl
 | byt _=>obtain ⟨t,rfl⟩:=r; rfl
 | flt _=>obtain ⟨t,rfl⟩:=r; rfl
 | ref _=>cases r; rfl
 | ty _=>cases r; rfl
theorem RelV.inj {x y:V} {u:Value} (r:RelV x u) (q:RelV y u):x = y:=Option.some.inj (r.abs.symm.trans q.abs)
theorem Vals.inj:∀ {xs ys:List V} {us:List Value},Vals xs us->Vals ys us->xs = ys
 | _,_,_,.nil,.nil=>rfl
 | _,_,_,.cons r t,.cons r' t'=>by rw [r.inj r',Vals.inj t t']
section
variable {X:Cx} {pins:List (Addr × Obj)} {σ:St} {H:Hp} {s:Shared} {a:Addr} {xs ys:List V}
theorem SqL.of {K:Ā} (h:H a = some (.lst xs)):SqL K H a xs:=.inl (.inl h)
theorem SqT.of {K:Ā} (h:H a = some (.tup xs)):SqT K H a xs:=.inl (.inl h)
theorem Inv.list (I:Inv X pins σ H s) (h:SqL X.K H a xs):∃ its:List Value,Vals xs its /\ PlainL s.heap a its.toArray /\ xs.length <= sizeLine:=by
 rcases h with h | ⟨o,its,n,hk,hc,hd,hs,hz,r⟩
 ·obtain ⟨z,its,n,r,e⟩:=h.ok I.hok
  exact ⟨its,r,⟨_,n,e,rfl,rfl,rfl⟩,z⟩
 ·refine ⟨its.toList,r,⟨o,n,I.kIn a o hk,hc,hd,by simpa using hs⟩,?_⟩
  have e:=r.length
  simp only [Array.length_toList] at e
  omega
theorem Inv.tuple (I:Inv X pins σ H s) (h:SqT X.K H a xs):∃ its:List Value,Vals xs its /\ IsTup s.heap a its.toArray /\ xs.length <= sizeLine:=by
 rcases h with h | ⟨o,its,n,hk,hc,hs,hz,r⟩
 ·obtain ⟨z,its,r,p⟩:=h.ok I.hok
  exact ⟨its,r,p,z⟩
 ·refine ⟨its.toList,r,⟨o,I.kIn a o hk,hc,n,by simpa using hs⟩,?_⟩
  have e:=r.length
  simp only [Array.length_toList] at e
  omega
theorem Inv.list_inj (I:Inv X pins σ H s) (h:SqL X.K H a xs) (h':SqL X.K H a ys):xs = ys:=by
 obtain ⟨its,r,⟨o,n,e,_,_,d⟩,_⟩:=I.list h
 obtain ⟨its',r',⟨o',n',e',_,_,d'⟩,_⟩:=I.list h'
 rw [e] at e'; cases e'
 rw [d] at d'
 injection d' with d1 _
 have:its = its':=by simpa using congrArg Array.toList d1
 subst this
 exact r.inj r'
end
noncomputable abbrev Cx.wish (X:Cx) (E:Value->Shared->Prop):Cx:={ X with xe:=E }
noncomputable abbrev Cx.nox (X:Cx):Cx:=X.wish fun _ _=>False
theorem Cx.Ok.wish {X:Cx} (ok:X.Ok) (E:Value->Shared->Prop):(X.wish E).Ok :=
 ⟨ok.mod,ok.kind,ok.glob,ok.blt,ok.above,ok.inj,ok.has,ok.cab,ok.hd,ok.frames,ok.stk,ok.exf,ok.bs,ok.bsz,ok.noex,ok.exfs,ok.funs,ok.frf⟩
theorem Cx.Ok.unwish {X:Cx} {E:Value->Shared->Prop} (ok:(X.wish E).Ok):X.Ok :=
 ⟨ok.mod,ok.kind,ok.glob,ok.blt,ok.above,ok.inj,ok.has,ok.cab,ok.hd,ok.frames,ok.stk,ok.exf,ok.bs,ok.bsz,ok.noex,ok.exfs,ok.funs,ok.frf⟩
section
variable {X:Cx} {pins:List (Addr × Obj)} {σ:St} {H:Hp} {s:Shared} {E:Value->Shared->Prop}
theorem Inv.wish (I:Inv X pins σ H s) (E:Value->Shared->Prop):Inv (X.wish E) pins σ H s:=⟨I.ok.wish E,I.os,I.bare,I.base,I.loc,I.cell,I.free,I.freeC,I.pin,I.hok,I.len⟩
theorem Inv.unwish (I:Inv (X.wish E) pins σ H s):Inv X pins σ H s:=⟨I.ok.unwish,I.os,I.bare,I.base,I.loc,I.cell,I.free,I.freeC,I.pin,I.hok,I.len⟩
theorem SP.unwish {D:Ends} {f:Flow} {s':Shared} (h:SP (X.wish E) pins D f s'):SP X pins D f s':=by
 cases f with
 | next=>obtain ⟨σ',H',I,q⟩:=h; exact ⟨σ',H',I.unwish,q⟩
 | brk=>obtain ⟨σ',H',I,q⟩:=h; exact ⟨σ',H',I.unwish,q⟩
 | cont=>obtain ⟨σ',H',I,q⟩:=h; exact ⟨σ',H',I.unwish,q⟩
 | ret u=>obtain ⟨v,σ',H',I,r,q⟩:=h; exact ⟨v,σ',H',I.unwish,r,q⟩
theorem PSs.nox {st:List Stmt} {t:TS} (h:PSs X.nox st t):PSs X st t:=fun pins s σ H D I hw =>
 wpAny_mono (h pins s σ H D (I.wish _) hw) (fun _ _ q=>q.unwish) fun _ _ z=>False.elim z
end
section
variable {X:Cx} {st:Stmt} {rest:List Stmt} {t u:TS} {e:Expr} {te:TE} {pos:Pos}
noncomputable def xP0:TS:=fun D σ H=>D.nx σ H
noncomputable def tSeq (t u:TS):TS:=fun D σ H=>t { D with nx:=u D } σ H
theorem Þ:PSs X [] xP0:=fun _ _ σ H _ I h=>wpAny_execs_nil ⟨σ,H,I,h⟩
theorem Ã (h1:PS X st t) (h2:PSs X rest u):PSs X (st :: rest) (tSeq t u):=by
 intro pins s σ H D I h
 refine wpAny_execs_cons (thn (h1 pins s σ H { D with nx:=u D } I h) fun f s1 q=>?_)
 cases f with
 | next =>
  obtain ⟨σ',H',I',q⟩:=q
  exact h2 pins s1 σ' H' D I' q
 | ret v=>exact q
 | brk=>exact q
 | cont=>exact q
theorem Æ (h1:PS X st t):PSs X [st] t:=by
 intro pins s σ H D I h
 refine wpAny_execs_cons (thn (h1 pins s σ H D I h) fun f s1 q=>?_)
 cases f with
 | next=>exact wpAny_execs_nil q
 | ret v=>exact q
 | brk=>exact q
 | cont=>exact q
theorem Inv.quiet {pins:List (Addr × Obj)} {σ:St} {H:Hp} {s:Shared} (I:Inv X pins σ H s):interactive X.env = false:=by simp [interactive,I.ok.kind]
noncomputable def xP1 (te:TE):TS:=fun D σ H=>te σ H fun _ H1=>D.nx σ H1
theorem ù (he:PE X e te) (hs:swapsWith e none pos.line X.env = pure false:=by rfl):PS X (.Expr e pos) (xP1 te):=by
 intro pins s σ H D I h
 exact wpAny_Expr_any (thn (he pins s σ H _ I h) fun v s1 ⟨x,H1,I1,r1,q1⟩=>⟨σ,H1,I1,q1⟩) I.quiet hs
noncomputable def tRet (te:TE):TS:=fun D σ H=>te σ H D.rt
theorem Ï (he:PE X e te):PS X (.Return (some e) pos) (tRet te):=by
 intro pins s σ H D I h
 exact wpAny_Return_some (thn (he pins s σ H _ I h) fun v s1 ⟨x,H1,I1,r1,q1⟩=>⟨x,σ,H1,I1,r1,q1⟩)
noncomputable def tIfS (c:TT) (t u:TS):TS:=fun D σ H=>c σ H fun b H1=>if b = true then t D σ H1 else u D σ H1
theorem ø {c:Expr} {a b:List Stmt} {tc:TT} (hc:PT X c tc) (ha:PSs X a t) (hb:PSs X b u):PS X (.If c a b pos) (tIfS tc t u):=by
 intro pins s σ H D I h
 refine wpAny_If (thn (hc pins s σ H _ I h) fun d s1 ⟨H1,I1,q1⟩=>?_)
 cases d with
 | true=>exact ha pins s1 σ H1 D I1 q1
 | false=>exact hb pins s1 σ H1 D I1 q1
end
noncomputable abbrev TG:=V->St->Hp->(St->Hp->Prop)->Prop
noncomputable abbrev TGs:=List V->St->Hp->(St->Hp->Prop)->Prop
noncomputable def PG (X:Cx) (target:Expr) (t:TG):Prop :=
 ∀ (pins:List (Addr × Obj)) (s:Shared) (σ:St) (H:Hp) (v:V) (u:Value) (Q:St->Hp->Prop),Inv X pins σ H s->RelV v u->t v σ H Q ->
  wpAny (model X.prog X.w) X.A (assign target X.env u) (fun _ s'=>∃ σ' H',Inv X pins σ' H' s' /\ Q σ' H') X.xe s
noncomputable def PGs (X:Cx) (ts:List Expr) (t:TGs):Prop :=
 ∀ (pins:List (Addr × Obj)) (s:Shared) (σ:St) (H:Hp) (vs:List V) (us:List Value) (Q:St->Hp->Prop),Inv X pins σ H s->Vals vs us->t vs σ H Q ->
  wpAny (model X.prog X.w) X.A (assignInOrder ((assignEach ts X.env).map (·.2)) us) (fun _ s'=>∃ σ' H',Inv X pins σ' H' s' /\ Q σ' H') X.xe s
noncomputable abbrev TSet:=V->V->V->Hp->(Hp->Prop)->Prop
noncomputable def PSet (X:Cx) (t:TSet):Prop :=
 ∀ (pins:List (Addr × Obj)) (s:Shared) (σ:St) (H:Hp) (o i v:V) (ov iv u:Value) (Q:Hp->Prop),Inv X pins σ H s->RelV o ov->RelV i iv->RelV v u->t o i v H Q ->
  wpAny (model X.prog X.w) X.A (setItem ov iv u) (fun _ s'=>∃ H',Inv X pins σ H' s' /\ Q H') X.xe s
noncomputable abbrev TIp:=V->V->Hp->VK->Prop
noncomputable def PIp (X:Cx) (op:Operator) (t:TIp):Prop :=
 ∀ (pins:List (Addr × Obj)) (s:Shared) (σ:St) (H:Hp) (x y:V) (v u:Value) (Q:VK),Inv X pins σ H s->RelV x v->RelV y u->t x y H Q ->
  wpAny (model X.prog X.w) X.A (inplaceOp op v u) (EP X pins σ Q) X.xe s
section
variable {X:Cx} {pos:Pos}
noncomputable def xH2 (i:Nat):TG:=fun v σ H Q=>Q (σ.set i (some v)) H
theorem È {i:Nat} {x:Str} (hN:X.N.Nodup) (hi:X.N[i]? = some x) (hx:Loc X.env.scope x) (hf:X.fn x = true \/ X.env.scope.names.lookup x = some .local:=by first | exact .inl rfl | exact .inr rfl | assumption):PG X (.Name x pos) (xH2 i):=by
 intro pins s σ H v u Q I r h
 exact wpAny_assign_Name (zH3 I hN hi hx r (fun s' I'=>⟨_,H,I',h⟩) hf)
noncomputable def gNil:TGs:=fun vs σ H Q=>vs = [] /\ Q σ H
noncomputable def xQ8 (t:TG) (u:TGs):TGs:=fun vs σ H Q=>∃ v r,vs = v :: r /\ t v σ H fun σ' H'=>u r σ' H' Q
theorem ÿ:PGs X [] gNil:=by
 intro pins s σ H vs us Q I r h
 obtain ⟨e,h⟩:=h
 subst e
 cases r
 exact assignInOrder_nil ⟨σ,H,I,h⟩
theorem Ò {e:Expr} {es:List Expr} {t:TG} {u:TGs} (h1:PG X e t) (h2:PGs X es u)
  (hs:(assignEach (e :: es) X.env).map (·.2) = assign e X.env :: (assignEach es X.env).map (·.2):=by rfl):PGs X (e :: es) (xQ8 t u):=by
 intro pins s σ H vs us Q I r h
 obtain ⟨v,vr,e1,h⟩:=h
 subst e1
 cases r with
 | cons r rr =>
  rw [hs]
  refine assignInOrder_cons (thn (h1 pins s σ H _ _ _ I r h) fun _ s1 ⟨σ1,H1,I1,q1⟩=>?_)
  exact h2 pins s1 σ1 H1 _ _ Q I1 rr q1
noncomputable def gTup (K:Ā) (n:Nat) (t:TGs):TG:=fun v σ H Q=>∃ a xs,v = .ref a /\ SqT K H a xs /\ xs.length = n /\ t xs σ H Q
theorem Θ {es:List Expr} {k:Nat} {t:TGs} {n:Nat} (hc:X.calm = true) (h:PGs X es t)
  (hn:(assignEach es X.env).length = n:=by rfl) (hst:(assignEach es X.env).findIdx? (·.1) = none:=by rfl):PG X (.Tuple es k pos) (gTup X.K n t):=by
 intro pins s σ H v u Q I r hw
 obtain ⟨a,xs,e1,hq,hl,hw⟩:=hw
 subst e1
 cases r
 obtain ⟨its,rv,ht,hz⟩:=I.tuple hq
 refine assign_Tuple_tuple (I.ok.hd hc) ht (by simp [hn,<- hl,rv.length]) hst fun h' hx=>?_
 have I1:Inv X pins σ H { s with heap:=h' }:=I.kept (t':=s.toks) fun b o e=>hx b o (Ħ (ć e)) e
 exact h pins _ σ H xs _ Q I1 (by simpa using rv) hw
noncomputable def gSub (to ti:TE) (t:TSet):TG:=fun v σ H Q=>to σ H fun o H1=>ti σ H1 fun i H2=>t o i v H2 fun H3=>Q σ H3
theorem xB9 {o i:Expr} {to ti:TE} {t:TSet} (ho:PE X o to) (hi:PE X i ti) (hs:PSet X t)
  (ha:∀ v,assign (.Subscript o i pos) X.env v = (do
   let ov <- holding [v] (eval o X.env)
   let iv <- holding [v,ov] (eval i X.env)
   standAt pos
   holding [v,ov,iv] (setItem ov iv v)
   release [v,ov,iv] []):=by intro _; rfl):PG X (.Subscript o i pos) (gSub to ti t):=by
 intro pins s σ H v u Q I r h
 rw [ha]
 refine wpAny_bind (wpAny_holding (thn (ho pins s σ H _ I h) fun ov s1 ⟨x,H1,I1,r1,q1⟩=>?_))
 refine wpAny_bind (wpAny_holding (thn (hi pins s1 σ H1 _ I1 q1) fun iv s2 ⟨y,H2,I2,r2,q2⟩=>?_))
 refine wpAny_bind (wpAny_standAt (wpAny_bind (wpAny_holding (thn (hs pins s2 σ H2 x y v ov iv u _ I2 r1 r2 r q2) fun _ s3 ⟨H3,I3,q3⟩=>?_))))
 exact wpAny_release ⟨σ,H3,I3,q3⟩
noncomputable def tAsg (te:TE) (g:TG):TS:=fun D σ H=>te σ H fun x H1=>g x σ H1 D.nx
theorem yO4 {tg e:Expr} {te:TE} {g:TG} (he:PE X e te) (hg:PG X tg g) (hs:swapsWithSole [tg] e pos.line X.env = pure false:=by rfl) (hw:swappedStores [tg] e X.env = pure none:=by rfl)
  (h1:(assignEach [tg] X.env).map (·.2) = [assign tg X.env]:=by rfl):PS X (.Assign [tg] e pos) (tAsg te g):=by
 intro pins s σ H D I h
 refine wpAny_Assign_stores (thn (he pins s σ H _ I h) fun v s1 ⟨x,H1,I1,r1,q1⟩=>?_) hs hw
 rw [h1]
 exact thn (hg pins s1 σ H1 x v _ I1 r1 q1) fun _ s2 q=>q
theorem Ê {i:Nat} {x:Str} {e:Expr} {te:TE} {pos':Pos} (hN:X.N.Nodup) (hi:X.N[i]? = some x) (hx:Loc X.env.scope x) (he:PE X e te) (hs:swapsWith e (some (.Name x pos')) pos.line X.env = pure false:=by rfl) (hf:X.fn x = true \/ X.env.scope.names.lookup x = some .local:=by first | exact .inl rfl | exact .inr rfl | assumption) :
  PS X (.Assign [.Name x pos'] e pos) (tAsg te (xH2 i)):=by
 intro pins s σ H D I h
 refine wpAny_Assign_Name (thn (he pins s σ H _ I h) fun v s1 ⟨y,H1,I1,r1,q1⟩=>?_) hs
 exact zH3 I1 hN hi hx r1 (fun s2 I2=>⟨_,H1,I2,q1⟩) hf
noncomputable def tPar (i j:Nat) (ta:TA):TS:=fun D σ H=>ta σ H fun vs H1=>∃ v w,vs = [v,w] /\ D.nx ((σ.set i (some v)).set j (some w)) H1
theorem xJ6 {i j:Nat} {x y:Str} {a b:Expr} {ta:TA} {px py pt:Pos} {kt k2 pt2} (hc:X.calm = true) (hN:X.N.Nodup) (hi:X.N[i]? = some x) (hj:X.N[j]? = some y) (hij:i ≠ j)
  (hx:X.env.scope.names.lookup x = some .local) (hy:X.env.scope.names.lookup y = some .local) (ha:PA X [a,b] ta)
  (hw:swappedStores [.Tuple [.Name x px,.Name y py] kt pt] (.Tuple [a,b] k2 pt2) X.env = pure (some [x,y]))
  (hs:swapsWithSole [.Tuple [.Name x px,.Name y py] kt pt] (.Tuple [a,b] k2 pt2) pos.line X.env = pure false:=by rfl) :
  PS X (.Assign [.Tuple [.Name x px,.Name y py] kt pt] (.Tuple [a,b] k2 pt2) pos) (tPar i j ta):=by
 intro pins s σ H D I h
 rw [exec_Assign_arm]
 refine wpAny_bind (wpAny_standAt ?_)
 rw [hs]
 refine wpAny_bind (wpAny_pure ?_)
 rw [if_neg (by decide)]
 refine wpAny_bind (Tuple_ (thn (ha _ pins s σ H _ I h) fun us s1 ⟨vs,H1,I1,r1,q1⟩=>?_))
 obtain ⟨v,w,e1,q1⟩:=q1
 subst e1
 obtain ⟨u1,u2,rfl,rv,rw'⟩:∃ u1 u2,us = [u1,u2] /\ RelV v u1 /\ RelV w u2:=by
  cases r1 with
  | cons p q =>
   cases q with
   | cons p' q' =>
    cases q'
    exact ⟨_,_,rfl,p,p'⟩
 refine wpAny_newObj_type ?_ (by show 2 <= sizeLine; decide)
 have I2:Inv X pins σ H1 { s1 with heap:=s1.heap.push { cls:=.type "tuple",data:=.seq [u1,u2].toArray } }:=I1.kept (t':=s1.toks) fun b o e=>Ĉ _ e
 rw [hw]
 refine wpAny_bind (wpAny_pure ?_)
 show wpAny (model X.prog X.w) X.A (do rule "assign.swapped-stores"; let items <- unpackItems (.ref s1.heap.objs.size) 2 none; assignInOrder [fun v=>bindName X.env y v,fun v=>bindName X.env x v] items.reverse; pure Flow.next) _ _ _
 refine wpAny_bind (wpAny_rule (wpAny_bind (unpackItems_tuple (items:=#[u1,u2]) (I.ok.hd hc) (IsTup.new s1.heap _) fun h' hx'=>?_)))
 have I3:=I2.kept (h':=h') (t':=s1.toks) fun b o e=>hx' b o (Ħ (ć e)) e
 show wpAny _ _ (assignInOrder [fun v=>bindName X.env y v,fun v=>bindName X.env x v] [u2,u1] >>= fun _=>pure Flow.next) _ _ _
 refine wpAny_bind (assignInOrder_cons (wpAny_bindName (zH3 I3 hN hj (.inl hy) rw' (fun s2 I4=>?_) (.inr hy))))
 refine assignInOrder_cons (wpAny_bindName (zH3 I4 hN hi (.inl hx) rv (fun s3 I5=>assignInOrder_nil (wpAny_pure ?_)) (.inr hx)))
 rw [List.set_comm _ _ (Ne.symm hij)] at I5
 exact ⟨_,H1,I5,q1⟩
noncomputable def tAug (i:Nat) (te:TE) (ti:TIp):TS:=fun D σ H=>∃ x,σ[i]? = some (some x) /\ te σ H fun y H1=>ti x y H1 fun z H2=>D.nx (σ.set i (some z)) H2
theorem xB6 {i:Nat} {x:Str} {e:Expr} {te:TE} {op:Operator} {ti:TIp} {pos':Pos} (hN:X.N.Nodup) (hi:X.N[i]? = some x) (hx:Loc X.env.scope x) (he:PE X e te) (ho:PIp X op ti) (hf:X.fn x = true \/ X.env.scope.names.lookup x = some .local:=by first | exact .inl rfl | exact .inr rfl | assumption) :
  PS X (.AugAssign (.Name x pos') op e pos) (tAug i te ti):=by
 intro pins s σ H D I h
 obtain ⟨v,e1,h⟩:=h
 obtain ⟨m,hn,hl⟩:=I.loc
 have vis:Vis X.env.scope x:=by rcases hx with k | k; exact .inl k; exact .inr (.inl k)
 obtain ⟨u,r,l⟩:=hl i x v hi e1 vis
 refine wpAny_AugAssign_Name ?_
 have go:wpAny (model X.prog X.w) X.A (eval e X.env) (fun w s₂=>wpAny (model X.prog X.w) X.A (inplaceOp op u w) (fun r s₃=>wpAny (model X.prog X.w) X.A (storeName X.env x r) (fun _=>SP X pins D .next) X.xe s₃) X.xe s₂) X.xe s:=by
  refine thn (he pins s σ H _ I h) fun w s1 ⟨y,H1,I1,r1,q1⟩=>?_
  refine thn (ho pins s1 σ H1 v y u w _ I1 r r1 q1) fun z s2 ⟨zv,H2,I2,r2,q2⟩=>?_
  exact zH3 I2 hN hi hx r2 (fun s3 I3=>⟨_,H2,I3,q2⟩) hf
 rcases l with ⟨hk,hm⟩ | ⟨hk,c,hc,hcell⟩
 ·exact wpAny_loadName_local I.ok.kind hk hn hm go
 ·rcases hk with hk | hk
  ·exact wpAny_loadName_cell I.ok.kind hk hc hcell go
  ·rcases hx with k | k
   ·have:X.env.scope.names.lookup x = some .free:=hk
    rw [k] at this; cases this
   ·have:X.env.scope.names.lookup x = some .free:=hk
    rw [k] at this; cases this
noncomputable def ipI (f:Int->Int->Int):TIp:=fun x y H Q=>∃ i j,x = .int i /\ y = .int j /\ Q (.int (f i j)) H
theorem xC8:PIp X .Add (ipI fun i j=>i + j):=by
 intro pins s σ H x y v u Q I r1 r2 h
 obtain ⟨i,j,e1,e2,q⟩:=h
 subst e1; subst e2
 obtain ⟨t,rfl⟩:=r1
 obtain ⟨t',rfl⟩:=r2
 exact iadd_int ⟨.int _,H,I.tok _,⟨_,rfl⟩,q⟩
end
section
variable {X:Cx} {pos:Pos}
noncomputable def xA7 (c:TT) (tb:TS):TS:=fun D σ H=>∃ W:Nat->St->Hp->Prop,(∃ m,W m σ H) /\ ∀ m σ H,W m σ H ->
 c σ H fun b H1=>if b = true then ∃ N:St->Hp->Prop,(∀ σ' H',N σ' H'->∃ m',m' < m /\ W m' σ' H') /\ tb { D with nx:=N,ct:=N,bk:=D.nx } σ H1 else D.nx σ H1
theorem zL4 {c:Expr} {body:List Stmt} {tc:TT} {tb:TS} (hp:PassesOwn (model X.prog X.w) X.A X.env X.xe) (hc:PT X c tc) (hb:PSs X body tb):PS X (.While c body [] pos) (xA7 tc tb):=by
 intro pins s σ H D I h
 obtain ⟨W,⟨m0,w0⟩,turn⟩:=h
 refine wpAny_While (codeAny_whileLoop (fun n s'=>∃ σ' H',Inv X pins σ' H' s' /\ W n σ' H') ?_ m0 ⟨σ,H,I,w0⟩)
 rintro n s1 ⟨σ1,H1,I1,w1⟩
 refine wpAny_passesOwn hp (thn (hc pins s1 σ1 H1 _ I1 (turn n σ1 H1 w1)) fun b s2 ⟨H2,I2,q2⟩=>?_)
 cases b with
 | true =>
  obtain ⟨N,hN,q2⟩:=q2
  rw [if_pos rfl]
  refine wpAny_passesOwn hp (thn (hb pins s2 σ1 H2 _ I2 q2) fun f s3 q3=>?_)
  cases f with
  | next =>
   obtain ⟨σ3,H3,I3,n3⟩:=q3
   obtain ⟨m',hm,w3⟩:=hN σ3 H3 n3
   exact ⟨m',hm,σ3,H3,I3,w3⟩
  | cont =>
   obtain ⟨σ3,H3,I3,n3⟩:=q3
   obtain ⟨m',hm,w3⟩:=hN σ3 H3 n3
   exact ⟨m',hm,σ3,H3,I3,w3⟩
  | brk=>exact q3
  | ret v=>exact q3
 | false =>
  rw [if_neg ĝ]
  exact wpAny_execs_nil ⟨σ1,H2,I2,q2⟩
end
set_option genInjectivity false in
structure It where
 go:Nat->Hp->Prop
 yld:Nat->Hp->V->Hp->Prop
 stop:Nat->Hp->Prop
noncomputable def FpOk (X:Cx) (pins:List (Addr × Obj)) (H:Hp) (b:Addr):Prop :=
 H b = none /\ b ≠ X.env.locals /\ b ∉ X.fs /\ (b ∈ X.ex \/ X.s₀.heap.objs.size <= b) /\ (∀ x c,X.env.cells.lookup x = some c->c ≠ b) /\ ∀ p ∈ X.pn ++ pins,p.1 ≠ b
theorem Inv.fpOk {X:Cx} {pins:List (Addr × Obj)} {σ:St} {H H':Hp} {s:Shared} {b:Addr} (I:Inv X pins σ H s) (hb:s.heap.objs.size <= b) (hn:H' b = none):FpOk X pins H' b:=by
 refine ⟨hn,Ĩ (ď I.lt hb),I.nofs hb,.inr (č I.sz hb),fun x c e z=>?_,fun p hp z=>?_⟩
 ·obtain ⟨v,q⟩:=I.cell x c e
  exact absurd (ď q.lt (by rw [z]; exact hb)) (Ń _)
 ·exact absurd (ď (ć (I.pin p hp).1) (by rw [z]; exact hb)) (Ń _)
structure Turn (P:Program) (w:World) (K:Ā) (tg:Expr) (J:It) (fp:List Addr) (it:Addr) (tn:Nat->Heap->Prop):Prop where
 mem:it ∈ fp
 obj:∀ i h,tn i h->∀ b ∈ fp,∃ o,h.get? b = some o /\ ∀ v,o.data ≠ .cell v
 keep:∀ i h h',tn i h->(∀ b ∈ fp,∀ o,h.get? b = some o->h'.get? b = some o)->tn i h'
 item:∀ (X:Cx),X.prog = P->X.w = w->X.K = K->X.calm = true->∀ (i:Nat) (pins:List (Addr × Obj)) (s:Shared) (σ:St) (H:Hp) (E:Value->Shared->Prop),Inv X pins σ H s->(∀ b ∈ fp,FpOk X pins H b)->tn i s.heap->J.go i H ->
  wpAny (model P w) X.A (pyNext (.ref it)) (fun r s1=>∃ u,r = some u /\
   wpAny (model P w) X.A (letOwnedTupleGo tg (.ref it) u) (fun _ s2=>∃ x H',Inv X pins σ H' s2 /\ RelV x u /\ J.yld i H x H' /\ tn (i + 1) s2.heap /\ ∀ b ∈ fp,H' b = none) E s1) E s
 done:∀ (X:Cx),X.prog = P->X.w = w->X.K = K->X.calm = true->∀ (i:Nat) (pins:List (Addr × Obj)) (s:Shared) (σ:St) (H:Hp) (E:Value->Shared->Prop),Inv X pins σ H s->(∀ b ∈ fp,FpOk X pins H b)->tn i s.heap->J.stop i H ->
  wpAny (model P w) X.A (pyNext (.ref it)) (fun r s1=>r = none /\ Inv X pins σ H s1) E s
 self:∀ (A:Around) (i:Nat) (s:Shared) (Q:Value->Shared->Prop) (E:Value->Shared->Prop),tn i s.heap->Q (.ref it) s->wpAny (model P w) A (pyIter (.ref it)) Q E s
noncomputable abbrev TI:=St->Hp->(It->Hp->Prop)->Prop
noncomputable def PIE (X:Cx) (pins:List (Addr × Obj)) (σ:St) (tg:Expr) (R:It->Hp->Prop) (itv:Value) (s2:Shared):Prop :=
 ∃ (it:Addr) (fp:List Addr) (tn:Nat->Heap->Prop) (J:It) (H':Hp),itv = .ref it /\ Inv X pins σ H' s2 /\ Turn X.prog X.w X.K tg J fp it tn /\ tn 0 s2.heap /\ (∀ b ∈ fp,FpOk X pins H' b) /\ R J H'
noncomputable def PI (X:Cx) (tg iter:Expr) (wi:TI):Prop :=
 ∀ (pins:List (Addr × Obj)) (s:Shared) (σ:St) (H:Hp) (R:It->Hp->Prop),Inv X pins σ H s->wi σ H R ->
  wpAny (model X.prog X.w) X.A (eval iter X.env) (fun v s1=>wpAny (model X.prog X.w) X.A (pyIter v) (PIE X pins σ tg R) X.xe s1) X.xe s
theorem yS9 {M:Model} {A:Around} {E:Value->Shared->Prop} {s:Shared} {tg:Expr} {it:Addr} {u:Value} {o:Obj} {n:String} {vs:Array Value} {Q:Unit->Shared->Prop} (ho:s.heap.get? it = some o) (hc:o.cls = .type n) (hd:o.data = .fields vs)
    (hn:["enumerate","zip","dict_itemiterator","dict_reverseitemiterator","odict_iterator","itertools.zip_longest","itertools.pairwise"].contains n = false) (hQ:Q () s):wpAny M A (letOwnedTupleGo tg (.ref it) u) Q E s:=by
  unfold letOwnedTupleGo
  cases tg <;> first
    | exact wpAny_pure hQ
    | (cases u <;> first
        | exact wpAny_pure hQ
        | (refine wpAny_bind (wpAny_load ho ?_)
           rw [hc,hd]
           show wpAny M A (if (["enumerate","zip","dict_itemiterator","dict_reverseitemiterator","odict_iterator","itertools.zip_longest","itertools.pairwise"].contains n && vs[0]? == some (rawInt _)) = true then _ else _) Q E s
           rw [if_neg (by intro h; rw [hn,Bool.false_and] at h; cases h)]
           exact wpAny_pure hQ))
noncomputable def Itl (K:Ā) (a:Addr):It :=
 ⟨fun i H=>∃ xs x,SqL K H a xs /\ xs[i]? = some x,fun i H x H'=>H' = H /\ ∀ xs,SqL K H a xs->xs[i]? = some x,fun i H=>∃ xs,SqL K H a xs /\ xs.length <= i⟩
noncomputable def Itr (lo:Int) (n:Nat):It:=⟨fun i _=>i < n,fun i H x H'=>H' = H /\ x = .int (lo + i),fun i _=>n <= i⟩
theorem yK7 {P:Program} {w:World} {K:Ā} {tg:Expr} (a it:Addr):Turn P w K tg (Itl K a) [it] it (fun i h=>h.IsListIter it a i) where
 mem:=by simp
 obj:=fun i h st b hb=>by
  have e:b = it:=by simpa using hb
  subst e
  obtain ⟨o,e,c,d⟩:=st
  exact ⟨o,e,fun v z=>by rw [d] at z; cases z⟩
 keep:=fun i h h' st k=>st.at fun o e=>k it (by simp) o e
 item:=by
  intro X hP hw hK hc i pins s σ H E I hf st hg
  subst hP hw hK
  obtain ⟨xs,x,hq,hx⟩:=hg
  obtain ⟨its,rv,p,hz⟩:=I.list hq
  obtain ⟨u,hu,ru⟩:=rv.get hx
  obtain ⟨f0,f1,f2,f3,f4,f5⟩:=hf it (by simp)
  refine wpAny_pyNext_list_item st p.isList (x:=u) (by simpa using hu) fun h' st' sb=>?_
  have I1:Inv X pins σ H { s with heap:=h' }:=I.turned (t':=s.toks) (fun b o hb e=>(sb.2 b hb).trans e) f0 f1 f3 f4 f5
  obtain ⟨o,e,c,d⟩:=id st'
  exact ⟨u,rfl,yS9 (s:={ s with heap:=h' }) e c d (by decide) ⟨x,H,I1,ru,⟨rfl,fun ys hy=>by rw [I.list_inj hy hq]; exact hx⟩,st',fun b hb=>(hf b hb).1⟩⟩
 done:=by
  intro X hP hw hK hc i pins s σ H E I hf st hg
  subst hP hw hK
  obtain ⟨xs,hq,hx⟩:=hg
  obtain ⟨its,rv,p,hz⟩:=I.list hq
  obtain ⟨f0,f1,f2,f3,f4,f5⟩:=hf it (by simp)
  have hl:=rv.length
  exact wpAny_pyNext_list_end (I.ok.hd hc) st p.isList (by simp; omega) fun h' eb=>⟨rfl,I.turned (t':=s.toks) (fun b o hb e=>eb b o hb e) f0 f1 f3 f4 f5⟩
 self:=fun _ _ _ _ _ st h=>wpAny_pyIter_listiter st h
theorem yI0 {P:Program} {w:World} {K:Ā} {tg:Expr} (it:Addr) (lo:Int) (n:Nat):Turn P w K tg (Itr lo n) [it] it (fun i h=>IsRangeIter h it (lo + (i:Nat) * 1) ((n:Int) - (i:Nat)) 1) where
 mem:=by simp
 obj:=fun i h st b hb=>by
  have e:b = it:=by simpa using hb
  subst e
  exact ⟨_,st,fun v z=>by
   have z':Data.fields _ = Data.cell v:=z
   cases z'⟩
 keep:=fun i h h' st k=>k it (by simp) _ st
 item:=by
  intro X hP hw hK hc i pins s σ H E I hf st hg
  subst hP hw hK
  obtain ⟨f0,f1,f2,f3,f4,f5⟩:=hf it (by simp)
  have W:=Walks.range (prog:=X.prog) (w:=X.w) (I.ok.hd hc) it lo 1 n
  refine W.item i s _ _ hg st fun v h' tk hv st' kk=>?_
  obtain ⟨t,rfl⟩:=hv
  have I1:Inv X pins σ H { s with heap:=h',toks:=tk }:=I.turned (fun b o hb e=>kk b o (by simpa using hb) e) f0 f1 f3 f4 f5
  refine ⟨_,rfl,yS9 (s:={ s with heap:=h',toks:=tk }) (n:="range_iterator") st' rfl rfl (by decide) ⟨.int (lo + i),H,I1,⟨t,?_⟩,⟨rfl,rfl⟩,st',fun b hb=>(hf b hb).1⟩⟩
  rw [Int.mul_one]
 done:=by
  intro X hP hw hK hc i pins s σ H E I hf st hg
  subst hP hw hK
  obtain ⟨f0,f1,f2,f3,f4,f5⟩:=hf it (by simp)
  exact wpAny_pyNext_range_end (I.ok.hd hc) st (by have:n <= i:=hg; omega) fun h' eb=>⟨rfl,I.turned (t':=s.toks) (fun b o hb e=>eb b o hb e) f0 f1 f3 f4 f5⟩
 self:=fun _ _ _ _ _ st h=>wpAny_pyIter_rangeiter st h
section
variable {X:Cx} {tg:Expr}
noncomputable def xM1 (K:Ā) (tl:TE):TI:=fun σ H R=>tl σ H fun x H1=>∃ a,x = .ref a /\ (∃ xs,SqL K H1 a xs) /\ R (Itl K a) H1
theorem xF0 {l:Expr} {tl:TE} (hl:PE X l tl):PI X tg l (xM1 X.K tl):=by
 intro pins s σ H R I h
 refine thn (hl pins s σ H _ I h) fun v s1 ⟨x,H1,I1,r1,q1⟩=>?_
 obtain ⟨a,e,⟨xs,hq⟩,q⟩:=q1
 subst e
 cases r1
 obtain ⟨its,rv,p,hz⟩:=I1.list hq
 refine wpAny_pyIter_list p.isList ?_
 refine ⟨s1.heap.objs.size,[s1.heap.objs.size],_,_,H1,rfl,I1.kept (t':=s1.toks) fun b o e=>Ĉ _ e,yK7 a _,⟨_,Ĕ _ rfl,rfl,rfl⟩,fun b hb=>?_,q⟩
 have e:b = s1.heap.objs.size:=by simpa using hb
 subst e
 exact I1.fpOk (ą _) (I1.hok.fresh (ą _))
theorem yF0 {pins:List (Addr × Obj)} {σ:St} {H:Hp} {s:Shared} {R:It->Hp->Prop} {E:Value->Shared->Prop} {lo hi:Int} {t u v:Tok} {tk:Nat} (I:Inv X pins σ H s) (h1:-(2 ^ 62) <= lo) (h2:lo < 2 ^ 62) (h3:-(2 ^ 62) <= hi) (h4:hi < 2 ^ 62)
  (q:R (Itr lo (hi - lo).toNat) H):wpAny (model X.prog X.w) X.A (pyIter (.ref s.heap.objs.size)) (PIE X pins σ tg R) E { s with heap:=s.heap.push { cls:=.type "range",data:=.fields #[.int lo t,.int hi u,.int 1 v] },toks:=tk }:=by
 refine wpAny_pyIter_range (IsRange.new ..) (small_one h1 h2 h3 h4) ?_
 have I1:Inv X pins σ H { s with heap:=s.heap.push { cls:=.type "range",data:=.fields #[.int lo t,.int hi u,.int 1 v] },toks:=tk }:=I.kept fun b o e=>Ĉ _ e
 refine ⟨(s.heap.push { cls:=.type "range",data:=.fields #[.int lo t,.int hi u,.int 1 v] }).objs.size,[(s.heap.push { cls:=.type "range",data:=.fields #[.int lo t,.int hi u,.int 1 v] }).objs.size],_,_,H,rfl,
  I1.kept (t':=tk) fun b o e=>Ĉ _ e,yI0 _ lo (hi - lo).toNat,?_,fun b hb=>?_,q⟩
 ·have e1:lo + ((0:Nat):Int) * 1 = lo:=by simp
  have e2:(((hi - lo).toNat:Nat):Int) - ((0:Nat):Int) = Builtin.Range.rangeSize lo hi 1:=by rw [rangeSize_one]; split <;> omega
  show IsRangeIter _ _ (lo + ((0:Nat):Int) * 1) ((((hi - lo).toNat:Nat):Int) - ((0:Nat):Int)) 1
  rw [e1,e2]
  exact Ĕ _ rfl
 ·have e:b = (s.heap.push { cls:=.type "range",data:=.fields #[.int lo t,.int hi u,.int 1 v] }).objs.size:=by simpa using hb
  subst e
  exact I1.fpOk (ą _) (I1.hok.fresh (ą _))
noncomputable def xQ5 (ta:TA):TI:=fun σ H R=>ta σ H fun vs H1=>∃ j:Int,vs = [.int j] /\ -(2 ^ 62) <= j /\ j < 2 ^ 62 /\ R (Itr 0 j.toNat) H1
noncomputable def xQ4 (ta:TA):TI:=fun σ H R=>ta σ H fun vs H1=>∃ i j:Int,vs = [.int i,.int j] /\ (-(2 ^ 62) <= i /\ i < 2 ^ 62 /\ -(2 ^ 62) <= j /\ j < 2 ^ 62) /\ R (Itr i (j - i).toNat) H1
theorem ŷ {a:Expr} {ta:TA} {p pos:Pos} (hg:Gl X "range") (hm:X.mg "range" = none) (ha:PA X [a] ta) (hs:starEach [a] X.env = [(false,eval a X.env)]:=by rfl):PI X tg (.Call (.Name "range" p) [a] [] pos) (xQ5 ta):=by
 intro pins s σ H R I h
 refine Call_ (η I hg hm boot_range (PyProof.Rows.callWith_type1 (thn (ha pos pins s σ H _ I h) fun us s1 ⟨vs,H1,I1,r1,q1⟩=>?_) hs rfl))
 obtain ⟨j,e,q1,q2,q⟩:=q1
 subst e
 cases r1 with
 | cons r rr =>
  cases rr
  obtain ⟨t,rfl⟩:=r
  exact call_range_1 (yF0 I1 (by omega) (by omega) q1 q2 (by simpa using q))
theorem yP0 {a b:Expr} {ta:TA} {p pos:Pos} (hg:Gl X "range") (hm:X.mg "range" = none) (ha:PA X [a,b] ta) (hs:starEach [a,b] X.env = [(false,eval a X.env),(false,eval b X.env)]:=by rfl) (hs2:starEach [b] X.env = [(false,eval b X.env)]:=by rfl) :
  PI X tg (.Call (.Name "range" p) [a,b] [] pos) (xQ4 ta):=by
 intro pins s σ H R I h
 refine Call_ (η I hg hm boot_range (PyProof.Rows.callWith_type1 (thn (ha pos pins s σ H _ I h) fun us s1 ⟨vs,H1,I1,r1,q1⟩=>?_) (by rw [hs,hs2]) (by rw [hs2]; rfl)))
 obtain ⟨i,j,e,⟨q1,q2,q3,q4⟩,q⟩:=q1
 subst e
 cases r1 with
 | cons r rr =>
  cases rr with
  | cons r' rr =>
   cases rr
   obtain ⟨t,rfl⟩:=r
   obtain ⟨t',rfl⟩:=r'
   exact call_range_2 (yF0 I1 q1 q2 q3 q4 q)
noncomputable def tFor (wi:TI) (g:TG) (tb:TS):TS:=fun D σ H=>wi σ H fun J H1=>∃ W:Nat->Nat->St->Hp->Prop,(∃ m,W 0 m σ H1) /\ ∀ i m σ H,W i m σ H ->
 (J.stop i H /\ D.nx σ H) \/ (J.go i H /\ ∃ N:St->Hp->Prop,(∀ σ' H',N σ' H'->∃ m',m' < m /\ W (i + 1) m' σ' H') /\ ∀ x H',J.yld i H x H'->g x σ H' fun σ2 H2=>tb { D with nx:=N,ct:=N,bk:=D.nx } σ2 H2)
noncomputable def zX4 (fp:List Addr) (h:Heap):List (Addr × Obj):=fp.filterMap fun b=>(h.get? b).map fun o=>(b,o)
theorem zG2 {fp:List Addr} {h:Heap} {b:Addr} {o:Obj} (hb:b ∈ fp) (e:h.get? b = some o):(b,o) ∈ zX4 fp h:=Ũ.mpr ⟨b,hb,by rw [e]; rfl⟩
theorem yQ0 {fp:List Addr} {h:Heap} {p:Addr × Obj} (hp:p ∈ zX4 fp h):p.1 ∈ fp /\ h.get? p.1 = some p.2:=by
 obtain ⟨b,hb,e⟩:=Ũ.mp hp
 cases q:h.get? b with
 | none=>rw [q] at e; cases e
 | some o =>
  rw [q] at e
  have e':(b,o) = p:=Option.some.inj e
  subst e'
  exact ⟨hb,q⟩
theorem Inv.pinned {pins:List (Addr × Obj)} {σ:St} {H:Hp} {s:Shared} {fp:List Addr} (I:Inv X pins σ H s) (hf:∀ b ∈ fp,FpOk X pins H b) (ho:∀ b ∈ fp,∃ o,s.heap.get? b = some o /\ ∀ v,o.data ≠ .cell v):Inv X (pins ++ zX4 fp s.heap) σ H s :=
 I.pins_of fun p hp=>(Ĥ.mp hp).elim (fun z=>I.pin p (ĩ _ z)) fun z=>by
  obtain ⟨hb,e⟩:=yQ0 z
  obtain ⟨f0,f1,f2,_⟩:=hf p.1 hb
  obtain ⟨o,e',d⟩:=ho p.1 hb
  rw [e] at e'; cases e'
  exact ⟨e,f0,f1,f2,d⟩
theorem Inv.unpinned {pins pl:List (Addr × Obj)} {σ:St} {H:Hp} {s:Shared} (I:Inv X (pins ++ pl) σ H s):Inv X pins σ H s:=I.pins_of fun p hp=>I.pin p (ĩ _ (List.mem_append_left _ hp))
theorem ß {iter:Expr} {body:List Stmt} {wi:TI} {g:TG} {tb:TS} {pos:Pos} (hp:PassesOwn (model X.prog X.w) X.A X.env X.xe) (hc:X.calm = true) (hi:PI X tg iter wi) (hg:PG X tg g) (hb:PSs X body tb)
  (hs:∀ x,foldedSetIterable iter X.env x = pure x:=by intro _; rfl):PS X (.For tg iter body [] pos) (tFor wi g tb):=by
 intro pins s σ H D I h
 refine wpAny_For (thn (hi pins s σ H _ I h) fun v s1 h1=>thn h1 fun itv s2 h2=>?_) hs
 obtain ⟨it,fp,tn,J,H2,e,I2,T,st2,f2,W,⟨m0,w0⟩,turn⟩:=h2
 subst e
 have stat:∀ {H':Hp},(∀ b ∈ fp,H' b = none)->∀ b ∈ fp,FpOk X pins H' b:=fun hn b hb=>⟨hn b hb,(f2 b hb).2⟩
 refine codeAny_forLoop_any (fun n s'=>∃ i σ' H',Inv X pins σ' H' s' /\ tn i s'.heap /\ (∀ b ∈ fp,H' b = none) /\ W i n σ' H') ?_ m0 ⟨0,σ,H2,I2,st2,fun b hb=>(f2 b hb).1,w0⟩
 rintro n s3 ⟨i,σ3,H3,I3,st3,fr3,w3⟩
 rcases turn i n σ3 H3 w3 with ⟨stop,qn⟩ | ⟨go,N,hN,step⟩
 ·refine wpAny_passesOwn hp (thn (T.done X rfl rfl rfl hc i pins s3 σ3 H3 X.xe I3 (stat fr3) st3 stop) fun r s4 ⟨hr,I4⟩=>?_)
  subst hr
  exact wpAny_execs_nil ⟨σ3,H3,I4,qn⟩
 ·refine wpAny_passesOwn hp (thn (T.item X rfl rfl rfl hc i pins s3 σ3 H3 X.xe I3 (stat fr3) st3 go) fun r s4 ⟨u,hr,h4⟩=>?_)
  subst hr
  refine wpAny_passesOwn hp (thn h4 fun _ s5 ⟨x,H5,I5,r5,y5,st5,fr5⟩=>?_)
  have I5':=I5.pinned (stat fr5) (T.obj _ _ st5)
  refine wpAny_passesOwn hp (thn (hg _ s5 σ3 H5 x u _ I5' r5 (step x H5 y5)) fun _ s6 ⟨σ6,H6,I6,q6⟩=>?_)
  refine wpAny_passesOwn hp (thn (hb _ s6 σ6 H6 _ I6 q6) fun f s7 q7=>?_)
  have again:∀ {σ7:St} {H7:Hp},Inv X (pins ++ zX4 fp s5.heap) σ7 H7 s7->N σ7 H7->∃ m,m < n /\ ∃ i σ' H',Inv X pins σ' H' s7 /\ tn i s7.heap /\ (∀ b ∈ fp,H' b = none) /\ W i m σ' H':=fun {σ7 H7} I7 n7=>by
   obtain ⟨m',hm,w7⟩:=hN σ7 H7 n7
   refine ⟨m',hm,i + 1,σ7,H7,I7.unpinned,T.keep _ _ _ st5 fun b hb o e=>(I7.pin (b,o) (ĩ _ (ĩ _ (zG2 hb e)))).1,fun b hb=>?_,w7⟩
   obtain ⟨o,e,d⟩:=T.obj _ _ st5 b hb
   exact (I7.pin (b,o) (ĩ _ (ĩ _ (zG2 hb e)))).2.1
  cases f with
  | next=>obtain ⟨σ7,H7,I7,n7⟩:=q7; exact again I7 n7
  | cont=>obtain ⟨σ7,H7,I7,n7⟩:=q7; exact again I7 n7
  | brk=>obtain ⟨σ7,H7,I7,q7⟩:=q7; exact ⟨σ7,H7,I7.unpinned,q7⟩
  | ret v=>obtain ⟨x7,σ7,H7,I7,r7,q7⟩:=q7; exact ⟨x7,σ7,H7,I7.unpinned,r7,q7⟩
end
theorem þ {K:Ā} {a:Addr} {xs:List V} {g:TG} {tb:TS} {D:Ends} {σ:St} {H:Hp} (Pv:Nat->St->Hp->Prop) (h0:Pv 0 σ H) (hl:∀ i σ H,i <= xs.length->Pv i σ H->SqL K H a xs)
  (hs:∀ i x σ H,xs[i]? = some x->Pv i σ H->g x σ H fun σ2 H2=>tb { D with nx:=Pv (i + 1),ct:=Pv (i + 1),bk:=D.nx } σ2 H2) (hd:∀ σ H,Pv xs.length σ H->D.nx σ H) :
  ∃ W:Nat->Nat->St->Hp->Prop,(∃ m,W 0 m σ H) /\ ∀ i m σ H,W i m σ H ->
   ((Itl K a).stop i H /\ D.nx σ H) \/ ((Itl K a).go i H /\ ∃ N:St->Hp->Prop,(∀ σ' H',N σ' H'->∃ m',m' < m /\ W (i + 1) m' σ' H') /\ ∀ x H',(Itl K a).yld i H x H'->g x σ H' fun σ2 H2=>tb { D with nx:=N,ct:=N,bk:=D.nx } σ2 H2):=by
 refine ⟨fun i m σ H=>m = xs.length - i /\ i <= xs.length /\ Pv i σ H,⟨xs.length,by simp,Ī _,h0⟩,?_⟩
 rintro i m σ H ⟨rfl,hi,p⟩
 have q:=hl i σ H hi p
 by_cases hlt:i < xs.length
 ·refine .inr ⟨⟨xs,xs[i],q,by simp [hlt]⟩,Pv (i + 1),fun σ' H' p'=>⟨xs.length - (i + 1),by omega,rfl,hlt,p'⟩,fun x H' y=>?_⟩
  obtain ⟨e,y⟩:=y
  subst e
  exact hs i x σ _ (y xs q) p
 ·have e:i = xs.length:=by omega
  subst e
  exact .inl ⟨⟨xs,q,ą _⟩,hd σ H p⟩
theorem Ż {lo:Int} {n:Nat} {g:TG} {tb:TS} {D:Ends} {σ:St} {H:Hp} (Pv:Nat->St->Hp->Prop) (h0:Pv 0 σ H)
  (hs:∀ i σ H,i < n->Pv i σ H->g (.int (lo + i)) σ H fun σ2 H2=>tb { D with nx:=Pv (i + 1),ct:=Pv (i + 1),bk:=D.nx } σ2 H2) (hd:∀ σ H,Pv n σ H->D.nx σ H) :
  ∃ W:Nat->Nat->St->Hp->Prop,(∃ m,W 0 m σ H) /\ ∀ i m σ H,W i m σ H ->
   ((Itr lo n).stop i H /\ D.nx σ H) \/ ((Itr lo n).go i H /\ ∃ N:St->Hp->Prop,(∀ σ' H',N σ' H'->∃ m',m' < m /\ W (i + 1) m' σ' H') /\ ∀ x H',(Itr lo n).yld i H x H'->g x σ H' fun σ2 H2=>tb { D with nx:=N,ct:=N,bk:=D.nx } σ2 H2):=by
 refine ⟨fun i m σ H=>m = n - i /\ i <= n /\ Pv i σ H,⟨n,by simp,Ī _,h0⟩,?_⟩
 rintro i m σ H ⟨rfl,hi,p⟩
 by_cases hlt:i < n
 ·refine .inr ⟨hlt,Pv (i + 1),fun σ' H' p'=>⟨n - (i + 1),by omega,rfl,hlt,p'⟩,fun x H' y=>?_⟩
  obtain ⟨e,y⟩:=y
  subst e y
  exact hs i σ _ hlt p
 ·have e:i = n:=by omega
  subst e
  exact .inl ⟨ą _,hd σ H p⟩
theorem zL1 {c:TT} {tb:TS} {D:Ends} {σ:St} {H:Hp} (Pv:St->Hp->Prop) (μ:St->Hp->Nat) (h0:Pv σ H)
  (hs:∀ σ H,Pv σ H->c σ H fun b H1=>if b = true then tb { D with nx:=fun σ' H'=>Pv σ' H' /\ μ σ' H' < μ σ H,ct:=fun σ' H'=>Pv σ' H' /\ μ σ' H' < μ σ H,bk:=D.nx } σ H1 else D.nx σ H1)
  (mono:∀ σ H Q Q',(∀ b H1,Q b H1->Q' b H1)->c σ H Q->c σ H Q'):xA7 c tb D σ H:=by
 refine ⟨fun m σ H=>m = μ σ H /\ Pv σ H,⟨_,rfl,h0⟩,?_⟩
 rintro m σ H ⟨rfl,p⟩
 refine mono σ H _ _ (fun b H1 q=>?_) (hs σ H p)
 cases b with
 | true=>exact ⟨_,fun σ' H' ⟨p',l⟩=>⟨_,l,rfl,p'⟩,q⟩
 | false=>exact q
noncomputable abbrev R2:=V->V->Hp->VK->Prop
noncomputable def OpR (X:Cx) (f:Value->Value->Sem Value) (r:R2):Prop :=
 ∀ (pins:List (Addr × Obj)) (s:Shared) (σ:St) (H:Hp) (x y:V) (v u:Value) (Q:VK),Inv X pins σ H s->RelV x v->RelV y u->r x y H Q ->
  wpAny (model X.prog X.w) X.A (f v u) (EP X pins σ Q) X.xe s
noncomputable def Υ (X:Cx) (f:Value) (r:List V->Hp->VK->Prop):Prop :=
 ∀ (pins:List (Addr × Obj)) (s:Shared) (σ:St) (H:Hp) (xs:List V) (us:List Value) (Q:VK),Inv X pins σ H s->Vals xs us->r xs H Q ->
  wpAny (model X.prog X.w) X.A (call f us) (EP X pins σ Q) X.xe s
noncomputable def tOp (r:R2) (ta tb:TE):TE:=fun σ H Q=>ta σ H fun x H1=>tb σ H1 fun y H2=>r x y H2 Q
noncomputable def rI (C:Int->Int->Prop) (g:Int->Int->V):R2:=fun x y H Q=>∃ i j,x = .int i /\ y = .int j /\ C i j /\ Q (g i j) H
noncomputable def rI0 (g:Int->Int->V):R2:=fun x y H Q=>∃ i j,x = .int i /\ y = .int j /\ Q (g i j) H
section
variable {X:Cx} {a b c:Expr} {ta tb tc:TE} {pos:Pos}
theorem binT (ha:PE X a ta) (hb:PE X b tb) {pins:List (Addr × Obj)} {s:Shared} {σ:St} {H:Hp} {R:V->V->Hp->Prop} (I:Inv X pins σ H s)
  (h:ta σ H fun x H1=>tb σ H1 fun y H2=>R x y H2) {Q:Value->Shared->Prop} {f:Value->Value->Sem Value}
  (hf:∀ v u s2 x y H2,Inv X pins σ H2 s2->RelV x v->RelV y u->R x y H2->wpAny (model X.prog X.w) X.A (f v u) Q X.xe s2) :
  wpAny (model X.prog X.w) X.A (eval a X.env) (fun v s₁=>wpAny (model X.prog X.w) X.A (eval b X.env) (fun u s₂=>wpAny (model X.prog X.w) X.A (f v u) Q X.xe s₂) X.xe s₁) X.xe s:=by
 refine thn (ha pins s σ H _ I h) fun v s1 ⟨x,H1,I1,r1,q1⟩=>?_
 refine thn (hb pins s1 σ H1 _ I1 q1) fun u s2 ⟨y,H2,I2,r2,q2⟩=>?_
 exact hf v u s2 x y H2 I2 r1 r2 q2
theorem Ó {op:Operator} {r:R2} (ho:OpR X (binaryOp op) r) (ha:PE X a ta) (hb:PE X b tb):PE X (.BinOp a op b pos) (tOp r ta tb):=by
 intro pins s σ H Q I h
 exact wpAny_BinOp (binT ha hb I h fun v u s2 x y H2 I2 rx ry q=>ho pins s2 σ H2 x y v u Q I2 rx ry q)
theorem opI {f:Value->Value->Sem Value} {C:Int->Int->Prop} {g:Int->Int->Int}
  (rule:∀ (i j:Int) (t u:Tok) (s:Shared) (Q:Value->Shared->Prop) (E:Value->Shared->Prop),C i j->Q (.int (g i j) s.toks) { s with toks:=s.toks + 1 }->wpAny (model X.prog X.w) X.A (f (.int i t) (.int j u)) Q E s) :
  OpR X f (rI C fun i j=>.int (g i j)):=by
 intro pins s σ H x y v u Q I rx ry h
 obtain ⟨i,j,rfl,rfl,hc,q⟩:=h
 obtain ⟨t,rfl⟩:=rx
 obtain ⟨t',rfl⟩:=ry
 exact rule i j t t' s _ _ hc ⟨.int (g i j),H,I.tok _,⟨_,rfl⟩,q⟩
theorem opI0 {f:Value->Value->Sem Value} {g:Int->Int->Int}
  (rule:∀ (i j:Int) (t u:Tok) (s:Shared) (Q:Value->Shared->Prop) (E:Value->Shared->Prop),Q (.int (g i j) s.toks) { s with toks:=s.toks + 1 }->wpAny (model X.prog X.w) X.A (f (.int i t) (.int j u)) Q E s) :
  OpR X f (rI0 fun i j=>.int (g i j)):=by
 intro pins s σ H x y v u Q I rx ry h
 obtain ⟨i,j,rfl,rfl,q⟩:=h
 obtain ⟨t,rfl⟩:=rx
 obtain ⟨t',rfl⟩:=ry
 exact rule i j t t' s _ _ ⟨.int (g i j),H,I.tok _,⟨_,rfl⟩,q⟩
theorem opB0 {f:Value->Value->Sem Value} {g:Int->Int->Bool}
  (rule:∀ (i j:Int) (t u:Tok) (s:Shared) (Q:Value->Shared->Prop) (E:Value->Shared->Prop),Q (.bool (g i j)) s->wpAny (model X.prog X.w) X.A (f (.int i t) (.int j u)) Q E s) :
  OpR X f (rI0 fun i j=>.bl (g i j)):=by
 intro pins s σ H x y v u Q I rx ry h
 obtain ⟨i,j,rfl,rfl,q⟩:=h
 obtain ⟨t,rfl⟩:=rx
 obtain ⟨t',rfl⟩:=ry
 exact rule i j t t' s _ _ ⟨.bl (g i j),H,I,rfl,q⟩
noncomputable def CPow (i j:Int):Prop:=0 <= j /\ j <= 1000000 /\ i.natAbs < 2 ^ 64
theorem Ε:OpR X (binaryOp .Add) (rI0 fun i j=>.int (i + j)):=opI0 fun _ _ _ _ _ _ _ q=>add_int q
theorem yF6:OpR X (binaryOp .Sub) (rI0 fun i j=>.int (i - j)):=opI0 fun _ _ _ _ _ _ _ q=>sub_int q
theorem ì:OpR X (binaryOp .Mod) (rI (fun _ j=>j ≠ 0) fun i j=>.int (i.fmod j)):=opI fun _ _ _ _ _ _ _ hc q=>mod_int' hc q
theorem yP4:OpR X (binaryOp .Pow) (rI CPow fun i j=>.int (i ^ j.toNat)):=opI fun _ _ _ _ _ _ _ hc q=>pow_int_small hc.1 hc.2.1 hc.2.2 q
end
noncomputable def scal:V->V->Bool
 | .non,.non=>true | .non,.int _=>true | .int _,.non=>true | .non,.bl _=>true | .bl _,.non=>true | .non,.str _=>true | .str _,.non=>true
 | .int _,.int _=>true | .bl _,.bl _=>true | .str _,.str _=>true | .byt _,.byt _=>true
 | .int _,.str _=>true | .str _,.int _=>true | .bl _,.str _=>true | .str _,.bl _=>true
 | _,_=>false
noncomputable def rEq:R2:=fun x y H Q=>scal x y = true /\ Q (.bl (decide (x = y))) H
noncomputable def rNe:R2:=fun x y H Q=>scal x y = true /\ Q (.bl (!decide (x = y))) H
theorem yU2 {i j:Int}:decide (V.int i = V.int j) = (i == j):=by
 rw [Bool.eq_iff_iff]
 simp
theorem xD2 {i j:Bool}:decide (V.bl i = V.bl j) = (i == j):=by
 rw [Bool.eq_iff_iff]
 simp
theorem yU1 {i j:Str}:decide (V.str i = V.str j) = (i == j):=by
 rw [Bool.eq_iff_iff]
 simp
theorem yU3 {i j:Array UInt8}:decide (V.byt i = V.byt j) = (i.toList == j.toList):=by
 rw [Bool.eq_iff_iff]
 cases i
 cases j
 simp
section
variable {X:Cx} {a b c:Expr} {ta tb tc:TE} {pos:Pos}
theorem é {pins:List (Addr × Obj)} {σ:St} {H:Hp} {s:Shared} {Q:VK} {k k':Bool} (I:Inv X pins σ H s) (q:Q (.bl k) H) (e:k = k'):EP X pins σ Q (.bool k') s:=by
 subst e
 exact ⟨.bl k,H,I,rfl,q⟩
theorem ξ:OpR X (compareOp .Eq) rEq:=by
 intro pins s σ H x y v u Q I rx ry h
 obtain ⟨hs,q⟩:=h
 cases x with
 | non =>
  cases rx
  cases y with
  | non=>cases ry; exact PySem.EqNone.eq_none_none (é I q (by simp))
  | bl j=>cases ry; exact PySem.EqNone.eq_none_bool (é I q (by simp))
  | int j=>obtain ⟨t',rfl⟩:=ry; exact PySem.EqNone.eq_none_int (é I q (by simp))
  | str j=>obtain ⟨t',rfl⟩:=ry; exact PySem.EqNone.eq_none_str (é I q (by simp))
  | _=>exact absurd (show false = true from hs) ĝ
 | bl i =>
  cases rx
  cases y with
  | non=>cases ry; exact PySem.EqNone.eq_bool_none (é I q (by simp))
  | bl j=>cases ry; exact eq_bool (é I q xD2)
  | str j=>obtain ⟨t',rfl⟩:=ry; exact PySem.EqMixed.eq_bool_str (é I q (by simp))
  | _=>exact absurd (show false = true from hs) ĝ
 | int i =>
  obtain ⟨t,rfl⟩:=rx
  cases y with
  | non=>cases ry; exact PySem.EqNone.eq_int_none (é I q (by simp))
  | int j=>obtain ⟨t',rfl⟩:=ry; exact eq_int (é I q yU2)
  | str j=>obtain ⟨t',rfl⟩:=ry; exact PySem.EqMixed.eq_int_str (é I q (by simp))
  | _=>exact absurd (show false = true from hs) ĝ
 | str i =>
  obtain ⟨t,rfl⟩:=rx
  cases y with
  | non=>cases ry; exact PySem.EqNone.eq_str_none (é I q (by simp))
  | bl j=>cases ry; exact PySem.EqMixed.eq_str_bool (é I q (by simp))
  | int j=>obtain ⟨t',rfl⟩:=ry; exact PySem.EqMixed.eq_str_int (é I q (by simp))
  | str j=>obtain ⟨t',rfl⟩:=ry; exact eq_str (é I q yU1)
  | _=>exact absurd (show false = true from hs) ĝ
 | byt i =>
  obtain ⟨t,rfl⟩:=rx
  cases y with
  | byt j=>obtain ⟨t',rfl⟩:=ry; exact PySem.W.eq_bytes (é I q yU3)
  | _=>exact absurd (show false = true from hs) ĝ
 | _=>cases y <;> exact absurd (show false = true from hs) ĝ
theorem yB4:OpR X (compareOp .NotEq) rNe:=by
 intro pins s σ H x y v u Q I rx ry h
 obtain ⟨hs,q⟩:=h
 cases x with
 | non =>
  cases rx
  cases y with
  | non=>cases ry; exact PySem.EqNone.ne_none_none (é I q (by simp))
  | bl j=>cases ry; exact PySem.EqNone.ne_none_bool (é I q (by simp))
  | int j=>obtain ⟨t',rfl⟩:=ry; exact PySem.EqNone.ne_none_int (é I q (by simp))
  | str j=>obtain ⟨t',rfl⟩:=ry; exact PySem.EqNone.ne_none_str (é I q (by simp))
  | _=>exact absurd (show false = true from hs) ĝ
 | bl i =>
  cases rx
  cases y with
  | non=>cases ry; exact PySem.EqNone.ne_bool_none (é I q (by simp))
  | bl j=>cases ry; exact ne_bool (é I q (congrArg not xD2))
  | str j=>obtain ⟨t',rfl⟩:=ry; exact PySem.EqMixed.ne_bool_str (é I q (by simp))
  | _=>exact absurd (show false = true from hs) ĝ
 | int i =>
  obtain ⟨t,rfl⟩:=rx
  cases y with
  | non=>cases ry; exact PySem.EqNone.ne_int_none (é I q (by simp))
  | int j=>obtain ⟨t',rfl⟩:=ry; exact ne_int (é I q (congrArg not yU2))
  | str j=>obtain ⟨t',rfl⟩:=ry; exact PySem.EqMixed.ne_int_str (é I q (by simp))
  | _=>exact absurd (show false = true from hs) ĝ
 | str i =>
  obtain ⟨t,rfl⟩:=rx
  cases y with
  | non=>cases ry; exact PySem.EqNone.ne_str_none (é I q (by simp))
  | bl j=>cases ry; exact PySem.EqMixed.ne_str_bool (é I q (by simp))
  | int j=>obtain ⟨t',rfl⟩:=ry; exact PySem.EqMixed.ne_str_int (é I q (by simp))
  | str j=>obtain ⟨t',rfl⟩:=ry; exact ne_str (é I q (congrArg not yU1))
  | _=>exact absurd (show false = true from hs) ĝ
 | byt i =>
  obtain ⟨t,rfl⟩:=rx
  cases y with
  | byt j=>obtain ⟨t',rfl⟩:=ry; exact PySem.W.ne_bytes (é I q (congrArg not yU3))
  | _=>exact absurd (show false = true from hs) ĝ
 | _=>cases y <;> exact absurd (show false = true from hs) ĝ
theorem xF7:OpR X (compareOp .Lt) (rI0 fun i j=>.bl (decide (i < j))):=opB0 fun _ _ _ _ _ _ _ q=>lt_int q
theorem yP5:OpR X (compareOp .Gt) (rI0 fun i j=>.bl (decide (j < i))):=opB0 fun _ _ _ _ _ _ _ q=>gt_int q
theorem xP9:OpR X (compareOp .GtE) (rI0 fun i j=>.bl (decide (j <= i))):=opB0 fun _ _ _ _ _ _ _ q=>ge_int q
theorem xC2:OpR X (compareOp .Is) (fun x y H Q=>y = .non /\ Q (.bl (decide (x = .non))) H):=by
 intro pins s σ H x y v u Q I rx ry h
 obtain ⟨rfl,q⟩:=h
 cases ry
 refine is_none_gen (é I q ?_)
 cases x <;> first
  | (cases rx; rfl)
  | (obtain ⟨t,rfl⟩:=rx; rfl)
theorem xF6:OpR X (compareOp .IsNot) (fun x y H Q=>y = .non /\ Q (.bl (!decide (x = .non))) H):=by
 intro pins s σ H x y v u Q I rx ry h
 obtain ⟨rfl,q⟩:=h
 cases ry
 refine isnot_none_gen (é I q ?_)
 cases x <;> first
  | (cases rx; rfl)
  | (obtain ⟨t,rfl⟩:=rx; rfl)
theorem Ù (b:Expr) {op:CmpOp} (h:op ≠ .In:=by decide) (h2:op ≠ .NotIn:=by decide):behindInMarks op b = false:=by
 have e1:(op == CmpOp.In) = false:=by cases op <;> first | rfl | exact absurd rfl h
 have e2:(op == CmpOp.NotIn) = false:=by cases op <;> first | rfl | exact absurd rfl h2
 cases b <;> simp [behindInMarks,e1,e2]
theorem Ρ {op:CmpOp} {r:R2} (ho:OpR X (compareOp op) r) (ha:PE X a ta) (hb:PE X b tb) (hm:behindInMarks op b = false):PE X (.Compare a [op] [b] pos) (tOp r ta tb):=by
 intro pins s σ H Q I h
 exact wpAny_Compare1 (binT ha hb I h fun v u s2 x y H2 I2 rx ry q=>ho pins s2 σ H2 x y v u Q I2 rx ry q) hm
noncomputable def xO7 (t:TE):TT:=fun σ H Q=>t σ H fun x H'=>∃ k,x = .bl k /\ Q k H'
theorem Õ {op:CmpOp} {r:R2} (ho:OpR X (compareOp op) r) (ha:PE X a ta) (hb:PE X b tb) (hm:behindInMarks op b = false):PT X (.Compare a [op] [b] pos) (xO7 (tOp r ta tb)):=by
 intro pins s σ H Q I h
 refine wpAny_isTrue_Compare1 (thn (ha pins s σ H _ I h) fun v s1 ⟨x,H1,I1,r1,q1⟩=>thn (hb pins s1 σ H1 _ I1 q1) fun u s2 ⟨y,H2,I2,r2,q2⟩ =>
  thn (ho pins s2 σ H2 x y v u _ I2 r1 r2 q2) fun c s3 ⟨z,H3,I3,r3,k,e,q3⟩=>?_) hm
 subst e
 cases r3
 exact wpAny_truthy_bool ⟨H3,I3,q3⟩
theorem zY2:(sizeLine:Nat) < 2 ^ 63:=by rw [sizeLine_eq]; decide
theorem yJ0:OpR X (binaryOp .Add) (fun x y H Q=>∃ i j,x = .str i /\ y = .str j /\ i.length + j.length <= sizeLine /\ Q (.str (i ++ j)) H):=by
 intro pins s σ H x y v u Q I rx ry h
 obtain ⟨i,j,rfl,rfl,hz,q⟩:=h
 obtain ⟨t,rfl⟩:=rx
 obtain ⟨t',rfl⟩:=ry
 exact add_str (fun t' tk=>⟨.str (i ++ j),H,I.tok _,⟨_,rfl⟩,q⟩) hz
theorem ν {x:V} {us:List Value} (r:Vals [x] us):∃ u,us = [u] /\ RelV x u:=by
 cases r with
 | cons r1 r2=>cases r2; exact ⟨_,rfl,r1⟩
theorem xD7 {x y:V} {us:List Value} (r:Vals [x,y] us):∃ u w',us = [u,w'] /\ RelV x u /\ RelV y w':=by
 cases r with
 | cons r1 r2 =>
  cases r2 with
  | cons r3 r4=>cases r4; exact ⟨_,_,rfl,r1,r3⟩
theorem xA0:Υ X (.builtin "abs") (fun xs H Q=>∃ i,xs = [.int i] /\ Q (.int (if i < 0 then -i else i)) H):=by
 intro pins s σ H xs us Q I r h
 obtain ⟨i,rfl,q⟩:=h
 obtain ⟨u,rfl,t,rfl⟩:=ν r
 exact call_abs_int fun u tk=>⟨.int (if i < 0 then -i else i),H,I.tok _,⟨_,rfl⟩,q⟩
noncomputable def LenV (K:Ā) (x:V) (H:Hp) (n:Nat):Prop :=
 match x with
 | .str y=>y.length <= sizeLine /\ n = y.length
 | .byt y=>y.size <= sizeLine /\ n = y.size
 | .ref p=>(∃ xs,SqL K H p xs /\ n = xs.length) \/ ∃ xs,SqT K H p xs /\ n = xs.length
 | _=>False
theorem yZ7:Υ X (.builtin "len") (fun xs H Q=>∃ x n,xs = [x] /\ LenV X.K x H n /\ Q (.int n) H):=by
 intro pins s σ H xs us Q I r h
 obtain ⟨x,n,rfl,e,q⟩:=h
 obtain ⟨u,rfl,rx⟩:=ν r
 have hl:=zY2
 have hs:sizeLine = 16777216:=sizeLine_eq
 cases x with
 | str y =>
  obtain ⟨t,rfl⟩:=rx
  obtain ⟨hy,e'⟩:y.length <= sizeLine /\ n = y.length:=e
  subst e'
  exact len_str (by omega) ⟨.int _,H,I.tok _,⟨_,rfl⟩,q⟩
 | byt y =>
  obtain ⟨t,rfl⟩:=rx
  obtain ⟨hy,e'⟩:y.size <= sizeLine /\ n = y.size:=e
  subst e'
  exact PySem.W.len_bytes (by omega) ⟨.int _,H,I.tok _,⟨_,rfl⟩,q⟩
 | ref p =>
  cases rx
  have e':(∃ xs,SqL X.K H p xs /\ n = xs.length) \/ ∃ xs,SqT X.K H p xs /\ n = xs.length:=e
  rcases e' with ⟨xs,hx,e'⟩ | ⟨xs,hx,e'⟩
  ·subst e'
   obtain ⟨its,r',pl,hz⟩:=I.list hx
   have hlen:=r'.length
   exact Calls.call_len_list pl.isList (by simp only [ę]; omega) ⟨.int xs.length,H,I.tok _,⟨_,by simp only [ę]; rw [hlen]⟩,q⟩
  ·subst e'
   obtain ⟨its,r',pl,hz⟩:=I.tuple hx
   have hlen:=r'.length
   exact len_tuple pl (by simp only [ę]; omega) ⟨.int xs.length,H,I.tok _,⟨_,by simp only [ę]; rw [hlen]⟩,q⟩
 | _=>exact (show False from e).elim
end
structure ObjM (h:Heap) (x dx C:Addr) (mA:Str->Option Value):Prop where
 obj:h.get? x = some (PySem.W.instObj C dx)
 ns:h.Ns1 dx mA
 ne:dx ≠ x
theorem yR0 {h:Heap} {dx:Addr} {mA:Str->Option Value} (n:h.Ns1 dx mA):∃ od,h.get? dx = some od /\ ∀ name,PySem.W.lookIn name od = some (mA name):=by
 obtain ⟨o,es,ep,ho,hd,hk,_,hm⟩:=n
 refine ⟨o,ho,fun name=>?_⟩
 have e:=hm name
 unfold nsFind findBy at e
 rw [<- Array.find?_toList] at e
 unfold PySem.W.lookIn
 rw [hd]
 dsimp only
 split
 ·rename_i y q
  rw [q] at e
  exact congrArg some e
 ·rename_i q
  rw [q] at e
  have a:es.toList.any (·.refKey) = false:=by
   rw [List.any_eq_false]
   intro y hy
   obtain ⟨z,t,hkey⟩:=hk y (Array.mem_toList_iff.mp hy)
   simp [DictEntry.refKey,hkey]
  have a':¬ es.toList.any (·.refKey) = true:=by rw [a]; exact ĝ
  rw [if_neg a']
  exact congrArg some e
theorem ObjM.look {h:Heap} {x dx C:Addr} {mA:Str->Option Value} (I:ObjM h x dx C mA):∃ od,PySem.W.InstAt h x (PySem.W.instObj C dx) C (some od) /\ ∀ name,PySem.W.lookIn name od = some (mA name) :=
 let ⟨od,ho,hl⟩:=yR0 I.ns
 ⟨od,⟨I.obj,rfl,rfl,ho⟩,hl⟩
theorem RelO.some_of {v:V} {o:Option Value} (r:RelO (some v) o):∃ u,o = some u /\ RelV v u:=by
 cases o with
 | none=>exact (show False from r).elim
 | some u=>exact ⟨u,rfl,r⟩
section
variable {P:Program} {w:World} {H H':Hp} {h h':Heap} {a C dx:Addr} {fs fs':List (Str × V)}
theorem xH1 (hok:HOk P w H h) (e:H a = some (.ins C dx fs)):∃ mA,ObjM h a dx C mA /\ (∀ f,RelO (fs.lookup f) (mA f)) /\ PySem.Within mA (fs.map (·.1)) /\ fs.length <= 1000 /\ H dx = some (.own a):=by
 obtain ⟨d,z,ne,ob,mA,n,r,q⟩:=(show ObjOk P w H h a (.ins C dx fs) from hok a _ e)
 exact ⟨mA,⟨ob,n,ne⟩,r,q,z,d⟩
end
structure Cls (K:Ā) (C:Addr):Prop where
 pg:PySem.W.plainGet K C Str.empty = true
 hd:PySem.W.hasDictIn K C = true
 po:PySem.W.plainOver K C = true
 sa:PySem.W.findIn K (.ref C) "__setattr__" = some (some (.builtin "object.__setattr__"))
theorem Cls.get {K:Ā} {C:Addr} (c:Cls K C) (f:Str):PySem.W.plainGet K C f = true:=c.pg
section
variable {X:Cx} {pins:List (Addr × Obj)} {σ:St} {H:Hp} {s:Shared} {A:Around} {E:Value->Shared->Prop} {Q:Value->Shared->Prop} {c:Value} {b:Bool}
inductive TyOf (K:Ā) (H:Hp):V->Value->Prop where
 | non:TyOf K H .non (.type "NoneType")
 | bl (x:Bool):TyOf K H (.bl x) (.type "bool")
 | int (i:Int):TyOf K H (.int i) (.type "int")
 | str (x:Str):TyOf K H (.str x) (.type "str")
 | flt (x:UInt64):TyOf K H (.flt x) (.type "float")
 | lst {a:Addr} {xs:List V} (e:H a = some (.lst xs)):TyOf K H (.ref a) (.type "list")
 | frz {a:Addr} {o:Obj} {xs:List V} (e:H a = some (.frz o (.lst xs))):TyOf K H (.ref a) (.type "list")
 | tup {a:Addr} {xs:List V} (e:H a = some (.tup xs)):TyOf K H (.ref a) (.type "tuple")
 | dK {a:Addr} {kvs:List (Key × V)} (e:H a = some (.dK kvs)):TyOf K H (.ref a) (.type "dict")
 | dT {a:Addr} {kvs:List (List Key × V)} (e:H a = some (.dT kvs)):TyOf K H (.ref a) (.type "dict")
 | ins {a C dx:Addr} {fs:List (Str × V)} (e:H a = some (.ins C dx fs)) (cl:Cls K C) (ha:PySem.W.findIn K (.ref C) "__class__" = some (some (.builtin "object.__class__")))
   (hn:PySem.W.specialIn K (.builtin "object.__class__") "__get__" = some (some (.builtin "getset_descriptor.__get__"))) (htk:PySem.W.takesIn K (.builtin "object.__class__") = some true)
   (hm:PySem.W.mroIn K C (.type "object") = some true):TyOf K H (.ref a) (.ref C)
theorem yS3 {x:V} {u t:Value} (I:Inv X pins σ H s) (rx:RelV x u) (ty:TyOf X.K H x t) (e:PySem.W.kitOne X.K t c = some b) (h:∀ tk,Q (.bool b) { s with toks:=tk }) :
  wpAny (model X.prog X.w) A (call (.builtin "isinstance") [u,c]) Q E s:=by
 cases ty with
 | non=>cases (show u = Value.none from rx); exact Ŀ PySem.W.kitx_none I.kIn True.intro e (fun z=>nomatch z) h
 | bl y=>cases (show u = Value.bool y from rx); exact Ŀ PySem.W.kitx_bool I.kIn True.intro e (fun z=>nomatch z) h
 | int i=>obtain ⟨t,q⟩:=(show ∃ t,u = Value.int i t from rx); cases q; exact Ŀ PySem.W.kitx_int I.kIn True.intro e (fun z=>nomatch z) h
 | str y=>obtain ⟨t,q⟩:=(show ∃ t,u = Value.str y t from rx); cases q; exact Ŀ PySem.W.kitx_str I.kIn True.intro e (fun z=>nomatch z) h
 | flt y=>obtain ⟨t,q⟩:=(show ∃ t,u = Value.float y t from rx); cases q; exact Ŀ PySem.W.kitx_float I.kIn True.intro e (fun z=>nomatch z) h
 | @lst a xs ea =>
  cases (show u = Value.ref a from rx)
  obtain ⟨_,_,n,_,h1⟩:=(show ObjOk X.prog X.w H s.heap a (.lst xs) from I.hok a _ ea)
  exact Ŀ PySem.W.kitx_list I.kIn ⟨_,h1,rfl⟩ e (fun z=>nomatch z) h
 | @frz a ob xs ea =>
  cases (show u = Value.ref a from rx)
  obtain ⟨_,_,_,n,_,h1⟩:=(show ObjOk X.prog X.w H s.heap a (.frz ob (.lst xs)) from I.hok a _ ea)
  exact Ŀ PySem.W.kitx_list I.kIn ⟨_,h1,rfl⟩ e (fun z=>nomatch z) h
 | @tup a xs ea =>
  cases (show u = Value.ref a from rx)
  obtain ⟨_,_,_,p⟩:=(show ObjOk X.prog X.w H s.heap a (.tup xs) from I.hok a _ ea)
  obtain ⟨o,h1,h2,_⟩:=p
  exact Ŀ PySem.W.kitx_tuple I.kIn ⟨o,h1,h2⟩ e (fun z=>nomatch z) h
 | @dK a kvs ea =>
  cases (show u = Value.ref a from rx)
  obtain ⟨_,_,vs,_,p⟩:=(show ObjOk X.prog X.w H s.heap a (.dK kvs) from I.hok a _ ea)
  obtain ⟨o,es,ep,h1,h2,_⟩:=p
  exact Ŀ PySem.W.kitx_dict I.kIn ⟨o,h1,h2.1⟩ e (fun z=>nomatch z) h
 | @dT a kvs ea =>
  cases (show u = Value.ref a from rx)
  obtain ⟨_,_,xs,_,o,es,ep,h1,h2,_⟩:=(show ObjOk X.prog X.w H s.heap a (.dT kvs) from I.hok a _ ea)
  exact Ŀ PySem.W.kitx_dict I.kIn ⟨o,h1,h2.1⟩ e (fun z=>nomatch z) h
 | @ins a C dx fs ea cl ha hn htk hm =>
  cases (show u = Value.ref a from rx)
  obtain ⟨mA,O,_⟩:=xH1 I.hok ea
  obtain ⟨od,J,_⟩:=O.look
  exact Ŀ (PySem.W.kitx_own (cl.get _) cl.hd ha hn htk hm) I.kIn J e (fun z=>nomatch z) h
end
structure Room (k:Nat) (A:Around):Prop where
 hd:A.handled = none
 dp:A.depth + 3 * k + 5 < recursionLimit
 un:A.units + 16 * k + 200 < cLine
theorem Room.mono {j k:Nat} {A:Around} (r:Room k A) (h:j <= k):Room j A:=⟨r.hd,by have:=r.dp; omega,by have:=r.un; omega⟩
theorem Room.deeper {k:Nat} {A:Around} (r:Room (k + 1) A) (env:Env):Room k (A.deeper env) :=
 ⟨r.hd,by have:=r.dp; show A.depth + 1 + 3 * k + 5 < _; omega,by have:=r.un; show A.units + 3 + 16 * k + 200 < _; omega⟩
theorem Room.depth {k:Nat} {A:Around} (r:Room k A):A.depth < recursionLimit:=by have:=r.dp; omega
theorem Room.units {k:Nat} {A:Around} (r:Room k A):A.units + 64 < cLine:=by have:=r.un; omega
noncomputable def tNil:TA:=fun _ H Q=>Q [] H
noncomputable def xD9 (ta:TE) (tr:TA):TA:=fun σ H Q=>ta σ H fun x H1=>tr σ H1 fun xs H2=>Q (x :: xs) H2
section
variable {X:Cx} {e:Expr} {es:List Expr} {te:TE} {t:TA} {pos:Pos}
theorem Â:PA X [] tNil:=fun _ _ _ _ H Q I h=>Calls.spliced_nil ⟨[],H,I,.nil,h⟩
theorem À (ha:PE X e te) (hr:PA X es t) (hs:starEach (e :: es) X.env = (false,eval e X.env) :: starEach es X.env:=by rfl):PA X (e :: es) (xD9 te t):=by
 intro pos pins s σ H Q I h
 rw [hs]
 show wpAny _ _ (spliced ((false,eval e X.env) :: backTo pos (starEach es X.env))) _ _ s
 refine Calls.spliced_cons (thn (ha pins s σ H _ I h) fun u s1 ⟨x,H1,I1,r1,q1⟩=>?_)
 exact thn (hr pos pins s1 σ H1 _ I1 q1) fun us s2 ⟨xs,H2,I2,r2,q2⟩=>⟨x :: xs,H2,I2,.cons r1 r2,q2⟩
noncomputable def tTup (t:TA):TE:=fun σ H Q=>t σ H fun xs H1=>xs.length <= sizeLine /\ ∀ p,H1 p = none->Q (.ref p) (upd H1 p (.tup xs))
noncomputable def tLst (t:TA):TE:=fun σ H Q=>t σ H fun xs H1=>xs.length <= sizeLine /\ ∀ p,H1 p = none->Q (.ref p) (upd H1 p (.lst xs))
theorem Ü {x1} (h:PA X es t):PE X (.Tuple es x1 pos) (tTup t):=by
 intro pins s σ H Q I hq
 refine wpAny_Tuple_spliced (thn (h pos pins s σ H _ I hq) fun us s1 ⟨xs,H1,I1,r,z,q⟩=>⟨by rw [<- r.length]; exact z,?_⟩)
 have hf:H1 s1.heap.objs.size = none:=I1.hok.fresh (ą _)
 refine ⟨.ref s1.heap.objs.size,upd H1 s1.heap.objs.size (.tup xs),I1.laid (t':=s1.toks) (fun b u e=>Ĉ _ e) (ą _) ?_,rfl,q _ hf⟩
 exact ⟨z,us,r,⟨_,Ĕ _ rfl,rfl,_,rfl⟩⟩
theorem ų (h:PA X es t):PE X (.List es pos) (tLst t):=by
 intro pins s σ H Q I hq
 refine wpAny_List_spliced (thn (h pos pins s σ H _ I hq) fun us s1 ⟨xs,H1,I1,r,z,q⟩=>⟨by rw [<- r.length]; exact z,?_⟩)
 have hf:H1 s1.heap.objs.size = none:=I1.hok.fresh (ą _)
 refine ⟨.ref s1.heap.objs.size,upd H1 s1.heap.objs.size (.lst xs),I1.laid (t':=s1.toks) (fun b u e=>Ĉ _ e) (ą _) ?_,rfl,q _ hf⟩
 exact ⟨z,us,0,r,Ĕ _ rfl⟩
end
noncomputable abbrev Sp:=List V->Hp->VK->XK->Prop
noncomputable abbrev CXT:=List Env->Hp->Shared->XK->Value->Shared->Prop
structure Env0 (P:Program) (w:World) (K:Ā) (mg:Str->Option Value) (base:Heap) (A:Around) (outer:List Env) (s:Shared) (H:Hp):Prop where
 frames:A.frames = some outer
 mod:Mod K mg base
 bs:∀ b o,base.get? b = some o->s.heap.get? b = some o /\ H b = none
 bsz:base.objs.size <= s.heap.objs.size
 funs:s.heap.FunFrames base outer
 frf:∀ b ∈ frs outer,H b = none
 hok:HOk P w H s.heap
 bare:AllBare s.gens
noncomputable def CE (outer:List Env) (P:Program) (w:World) (H:Hp) (s:Shared) (Q:VK) (u:Value) (s':Shared):Prop :=
 ∃ v H',s'.os = s.os /\ AllBare s'.gens /\ Un (frs outer) [] H H' s.heap s'.heap /\ HOk P w H' s'.heap /\ RelV v u /\ Q v H'
noncomputable def CR (CX:CXT) (outer:List Env) (P:Program) (w:World) (H:Hp) (s:Shared) (Q:VK) (E:XK) (r:Result) (s':Shared):Prop :=
 match r with
 | .ok (.ret u)=>CE outer P w H s Q u s'
 | .ok _=>False
 | .error e=>CX outer H s E e s'
structure FnOk (P:Program) (w:World) (K:Ā) (mg:Str->Option Value) (base:Heap) (CX:CXT) (k:Nat) (f:Addr) (fd:FuncData) (ps:List Str) (sp:Sp):Prop where
 len:∀ vs H Q E,sp vs H Q E->vs.length = ps.length
 run:∀ (A:Around) (outer:List Env) (s:Shared) (H:Hp) (args:Args) (us:List Value) (vs:List V) (Q:VK) (E:XK),Room k A->Env0 P w K mg base A outer s H->BindsTo s fd args (ps.zip us)->Vals vs us->sp vs H Q E ->
  codeAny (model P w) A (.call (.ref f) args) (CR CX outer P w H s Q E) s
section
variable {X:Cx} {pins:List (Addr × Obj)} {σ:St} {H:Hp} {s s':Shared}
theorem Inv.env0 (I:Inv X pins σ H s):Env0 X.prog X.w X.K X.mg X.base X.A X.stack s H :=
 ⟨I.ok.frames,I.ok.mod,I.bs,č I.ok.bsz I.sz,I.stack,I.stkFree,I.hok,I.bare⟩
theorem Inv.after {Q:VK} {u:Value} (I:Inv X pins σ H s) (h:CE X.stack X.prog X.w H s Q u s'):EP X pins σ Q u s':=by
 obtain ⟨v,H',os,bare,un,hok,r,q⟩:=h
 obtain ⟨hh,g,d,t,os'⟩:=s'
 obtain rfl:os' = s.os:=os
 exact ⟨v,H',I.call (h':=hh) (g':=g) (d':=d) (t':=t) (ch:=[]) un hok bare (fun b z=>absurd z (by simp)),r,q⟩
end
noncomputable def xE0 (sp:Sp) (dvs:List V) (E:XK) (t:TA):TE:=fun σ H Q=>t σ H fun vs H1=>sp (vs ++ dvs) H1 Q E
noncomputable def Binds (K:Ā) (fd:FuncData) (ps:List Str) (ds:List Value):Prop :=
 ∀ (s:Shared) (us:List Value),K.In s.heap->(us ++ ds).length = ps.length->BindsTo s fd ⟨us,[]⟩ (ps.zip (us ++ ds))
theorem Binds.all {K:Ā} {fd:FuncData} {ps:List Str} (h:∀ us:List Value,us.length = ps.length->bindArgs fd ⟨us,[]⟩ = pure (ps.zip us)):Binds K fd ps []:=fun s us _ hl=>by
 rw [List.append_nil] at hl ⊢
 exact .of_eq (h us hl)
noncomputable def yA5 (CX:CXT) (X:Cx) (E:XK):Prop:=∀ (pins:List (Addr × Obj)) (σ:St) (H:Hp) (s:Shared) (e:Value) (s':Shared),Inv X pins σ H s->CX X.stack H s E e s'->X.xe e s'
section
variable {X:Cx} {CX:CXT} {k:Nat} {f C:Addr} {fd:FuncData} {ps:List Str} {sp:Sp} {dvs:List V} {ds:List Value} {E:XK} {x m:Str} {p pos apos:Pos} {e o:Expr} {es:List Expr} {ta:TE} {t:TA}
theorem xJ2 {pins:List (Addr × Obj)} {σ:St} {H:Hp} {s:Shared} {Q:VK} {us:List Value} {vs:List V} (F:FnOk X.prog X.w X.K X.mg X.base CX k f fd ps sp) (hr:Room k X.A) (hb:Binds X.K fd ps ds) (hd:Vals dvs ds) (hx:yA5 CX X E)
  (I:Inv X pins σ H s) (r:Vals vs us) (h:sp (vs ++ dvs) H Q E):wpAny (model X.prog X.w) X.A (call (.ref f) us) (EP X pins σ Q) X.xe s:=by
 have r2:Vals (vs ++ dvs) (us ++ ds):=r.append hd
 have hl:(us ++ ds).length = ps.length:=by rw [<- r2.length]; exact F.len _ _ _ _ h
 refine wpAny_call (codeAny_mono (F.run X.A X.stack s H ⟨us,[]⟩ (us ++ ds) (vs ++ dvs) Q E hr I.env0 (hb s us I.kIn hl) r2 h) fun r s' hq=>?_)
 cases r with
 | error e=>exact hx pins σ H s e s' I hq
 | ok fl =>
  cases fl with
  | ret u=>exact I.after hq
  | next=>exact False.elim hq
  | brk=>exact False.elim hq
  | cont=>exact False.elim hq
theorem xF4 (F:FnOk X.prog X.w X.K X.mg X.base CX k f fd ps sp) (hr:Room k X.A) (hg:Gl X x) (hm:X.mg x = some (.ref f)) (hk:ĉ X.K (.ref f) = true) (hb:Binds X.K fd ps ds) (hd:Vals dvs ds) (hx:yA5 CX X E)
  (ha:PA X (e :: es) t) (hdb:(x == ("__debug__":Str)) = false:=by decide) (he:starEach (e :: es) X.env = (false,eval e X.env) :: starEach es X.env:=by rfl) (hpl:(backTo pos (starEach es X.env)).any (·.1) = false:=by rfl) :
  PE X (.Call (.Name x p) (e :: es) [] pos) (xE0 sp dvs E t):=by
 intro pins s σ H Q I h
 refine wpAny_Call_Name_kw (yR3 I hg hm ?_ hdb)
 refine PySem.W.callWith_K (h₀:=X.base) I.ok.mod.kin hk (thn (ha pos pins s σ H _ I h) fun us s1 ⟨vs,H1,I1,r,q⟩=>⟨I1.kIn,?_⟩) he hpl
 exact xJ2 F hr hb hd hx I1 r q
end
structure Ì (N P:List Str) (sc:Scope):Prop where
 kind:sc.kind = .function
 co:sc.isCoroutine = false
 gen:sc.isGenerator = false
 nd:N.Nodup
 pre:N.take P.length = P
 par:∀ x ∈ P,sc.names.lookup x = some .local \/ sc.names.lookup x = some .cell
 nofree:∀ y ∈ sc.names,y.2 ≠ .free
theorem zZ9 {kindOf:Str->Option NameKind} {x:Str}:∀ {binds:List (Str × Value)} {m:Str->Option Value},(∀ v,(x,v) ∉ binds)->bindL kindOf binds m x = m x
 | [],_,_=>rfl
 | (n,v) :: r,m,h=>by
  unfold bindL
  rw [zZ9 fun w hw=>h w (Ă _ hw)]
  split
  ·have:x ≠ n:=by rintro rfl; exact h v ă
   simp [this]
  ·rfl
theorem yA1 {kindOf:Str->Option NameKind} {x:Str}:∀ {binds:List (Str × Value)} {m:Str->Option Value},(∀ v,(x,v) ∉ binds)->bindC kindOf binds m x = m x
 | [],_,_=>rfl
 | (n,v) :: r,m,h=>by
  unfold bindC
  rw [yA1 fun w hw=>h w (Ă _ hw)]
  split
  ·rfl
  ·have:x ≠ n:=by rintro rfl; exact h v ă
   simp [this]
theorem yA0 {kindOf:Str->Option NameKind} {x:Str} {v:Value}:∀ {P:List Str} {vs:List Value} {i:Nat} {m:Str->Option Value},P.Nodup->P[i]? = some x->vs[i]? = some v->kindOf x = some .local ->
  bindL kindOf (P.zip vs) m x = some v
 | [],_,_,_,_,h,_,_=>by simp at h
 | _ :: _,[],_,_,_,_,h,_=>by simp at h
 | p :: P,w :: vs,0,m,nd,h1,h2,hk=>by
  simp at h1 h2; subst h1; subst h2
  show bindL kindOf ((p,w) :: P.zip vs) m p = _
  unfold bindL
  rw [zZ9 fun v hv=>(Ġ.mp nd).1 (List.of_mem_zip hv).1,if_pos hk]
  simp
 | p :: P,w :: vs,i + 1,m,nd,h1,h2,hk=>by
  show bindL kindOf ((p,w) :: P.zip vs) m x = _
  unfold bindL
  exact yA0 (i:=i) (Ġ.mp nd).2 (by simpa using h1) (by simpa using h2) hk
theorem yA2 {kindOf:Str->Option NameKind} {x:Str} {v:Value}:∀ {P:List Str} {vs:List Value} {i:Nat} {m:Str->Option Value},P.Nodup->P[i]? = some x->vs[i]? = some v->kindOf x ≠ some .local ->
  bindC kindOf (P.zip vs) m x = some v
 | [],_,_,_,_,h,_,_=>by simp at h
 | _ :: _,[],_,_,_,_,h,_=>by simp at h
 | p :: P,w :: vs,0,m,nd,h1,h2,hk=>by
  simp at h1 h2; subst h1; subst h2
  show bindC kindOf ((p,w) :: P.zip vs) m p = _
  unfold bindC
  rw [yA1 fun v hv=>(Ġ.mp nd).1 (List.of_mem_zip hv).1,if_neg hk]
  simp
 | p :: P,w :: vs,i + 1,m,nd,h1,h2,hk=>by
  show bindC kindOf ((p,w) :: P.zip vs) m x = _
  unfold bindC
  exact yA2 (i:=i) (Ġ.mp nd).2 (by simpa using h1) (by simpa using h2) hk
noncomputable def start (N:List Str) (vs:List V):St:=vs.map some ++ List.replicate (N.length - vs.length) none
noncomputable def cxOf (CX:CXT) (P:Program) (w:World) (K:Ā) (mg:Str->Option Value) (base:Heap) (N:List Str) (qual:Str) (scope:Scope) (f:Addr) (cd:Value) (A:Around) (outer:List Env) (s:Shared) (H:Hp) (E:XK):Cx where
 prog:=P
 w:=w
 K:=K
 mg:=mg
 base:=base
 A:=A.deeper (envOfC qual scope s.heap.objs.size f cd)
 N:=N
 s₀:=s
 H₀:=H
 env:=envOfC qual scope s.heap.objs.size f cd
 outer:=outer
 stack:=envOfC qual scope s.heap.objs.size f cd :: outer
 ex:=[]
 calm:=true
 fn:=fun _=>true
 pn:=[]
 xe:=fun e s'=>wpAny (model P w) (A.deeper (envOfC qual scope s.heap.objs.size f cd)) (leaving (envOfC qual scope s.heap.objs.size f cd) e) (fun _ s''=>CX outer H s E e s'') (fun e' s''=>CX outer H s E e' s'') s'
theorem yH2 {sc:Scope} {n:Nat} {x:Str} (h:sc.names.lookup x = some .cell):∃ c,(cellsFrom n sc.names []).lookup x = some c:=by
 have q:=PySem.W.cellsFrom_some sc.names n [] (.inl h)
 exact Option.isSome_iff_exists.mp q
theorem yS4 {CX:CXT} {P:Program} {w:World} {K:Ā} {mg:Str->Option Value} {base:Heap} {N ps:List Str} {qual:Str} {scope:Scope} {f:Addr} {cd:Value} {A:Around} {outer:List Env} {s s1:Shared} {H:Hp} {E:XK} {us:List Value} {vs:List V}
  (S:Ì N ps scope) (hd:A.handled = none) (e0:Env0 P w K mg base A outer s H) (hl:vs.length = ps.length) (r:Vals vs us)
  (x:InCallC s s.heap.objs.size (bindL (envOfC qual scope s.heap.objs.size f cd).kindOf (ps.zip us) fun _=>none) (cellsFrom (s.heap.objs.size + 1) scope.names []) (bindC (envOfC qual scope s.heap.objs.size f cd).kindOf (ps.zip us) fun _=>none) s1) :
  Inv (cxOf CX P w K mg base N qual scope f cd A outer s H E) [] (start N vs) H s1:=by
 have hpl:ps.length <= N.length:=by have:=congrArg List.length S.pre; rw [ē] at this; omega
 obtain ⟨h1,tk,rfl,hk⟩:=x.done
 have noA:∀ b:Addr,b ∉ (cxOf CX P w K mg base N qual scope f cd A outer s H E).ex:=fun b z=>absurd (show b ∈ ([]:List Addr) from z) (by simp)
 refine ⟨⟨e0.mod,S.kind,rfl,rfl,ą _,fun y z c h1 h2=>?_,fun y hy=>?_,fun y c _ h=>?_,fun _=>hd,Around.frames_deeper e0.frames,.inr ⟨rfl,rfl⟩,fun b z=>absurd z (noA b),e0.bs,e0.bsz,fun b _ _=>noA b,fun b z=>absurd z (noA b),e0.funs,e0.frf⟩,
  rfl,e0.bare,Un.kept hk,⟨_,x.toInCall.ns,fun i y v h1 h2 h3=>?_⟩,fun y c h=>⟨_,x.cell y c h⟩,e0.hok.fresh (ą _),fun y c h=>?_,fun p hp=>absurd (show p ∈ ([]:List (Addr × Obj)) from hp) (by simp),e0.hok.kept hk,?_⟩
 ·exact name_of_addr x.apart (PySem.mem_of_lookup h1) (PySem.mem_of_lookup h2)
 ·have hy:scope.names.lookup y = some .cell \/ scope.names.lookup y = some .free:=hy
  rcases hy with hy | hy
  ·exact yH2 hy
  ·exact absurd rfl (S.nofree _ (PySem.mem_of_lookup hy))
 ·exact Ś (x.above y c (PySem.mem_of_lookup h))
 ·have hi:i < vs.length:=by
   unfold start at h2
   by_cases hi:i < vs.length
   ·exact hi
   ·rw [ş (by simpa using hi)] at h2
    rw [List.getElem?_replicate] at h2
    split at h2 <;> cases h2
  have ha:vs[i]? = some v:=by
   unfold start at h2
   rw [List.getElem?_append_left (by simpa using hi),đ] at h2
   cases e:vs[i]? with
   | none=>rw [e] at h2; cases h2
   | some a=>rw [e] at h2; cases h2; rfl
  obtain ⟨u,hu,rv⟩:=r.get ha
  have hp:ps[i]? = some y:=by
   rw [<- S.pre,List.getElem?_take_of_lt (by omega)]; exact h1
  have ndP:ps.Nodup:=by rw [<- S.pre]; exact S.nd.sublist (Ŝ _ _)
  refine ⟨u,rv,?_⟩
  rcases S.par y (ċ hp) with k | k
  ·exact .inl ⟨k,yA0 ndP hp hu k⟩
  ·obtain ⟨c,e⟩:=yH2 (n:=s.heap.objs.size + 1) k
   refine .inr ⟨.inl k,c,e,?_⟩
   have q:=x.cell y c e
   rw [yA2 ndP hp hu (by show scope.names.lookup y ≠ _; rw [k]; decide)] at q
   exact q
 ·exact e0.hok.fresh (Ś (x.above y c (PySem.mem_of_lookup h)))
 ·unfold start
  show _ = N.length
  rw [Ĝ,ā,List.length_replicate]
  omega
theorem xM6 {CX:CXT} {P:Program} {w:World} {K:Ā} {mg:Str->Option Value} {base:Heap} {k:Nat} {f:Addr} {name qual:Str} {params:Arguments} {body:List Stmt} {scope:Scope} {dV kV doc pm cdv ct oc:Value} {an od:Option Addr}
  {osl:Array (Option Value)} {N ps:List Str} {sp:Sp} (lk:K.lookup f = some ⟨oc,od,.func (Ď name qual params body scope dV kV doc pm an cdv ct),osl⟩) (hcd:Ċ K cdv qual = true) (S:Ì N ps scope)
  (len:∀ vs H Q E,sp vs H Q E->vs.length = ps.length)
  (hbody:∀ (A:Around) (outer:List Env) (s:Shared) (H:Hp) (vs:List V) (Q:VK) (E:XK),Room k (A.deeper (envOfC qual scope s.heap.objs.size f cdv))->sp vs H Q E ->
   ∃ t,PSs (cxOf CX P w K mg base N qual scope f cdv A outer s H E) body t /\ t { nx:=fun _ H'=>Q .non H',rt:=Q } (start N vs) H) :
  FnOk P w K mg base CX (k + 1) f (Ď name qual params body scope dV kV doc pm an cdv ct) ps sp:=by
 refine ⟨len,fun A outer s H args us vs Q E hr e0 hb r hsp=>?_⟩
 have hl:=len _ _ _ _ hsp
 have KX:K.In s.heap:=e0.mod.kin.keeps fun b o e=>(e0.bs b o e).1
 have lim:s.heap.NoLimit:=e0.mod.nolimit.keeps fun b o e=>(e0.bs b o e).1
 have hkind:∀ y ∈ ps.zip us,scope.names.lookup y.1 = some .local \/ (scope.names.lookup y.1 = some .cell /\ ((cellsFrom (s.heap.objs.size + 1) scope.names []).lookup y.1).isSome = true):=fun ⟨n,v⟩ hy=>by
  rcases S.par n (List.of_mem_zip hy).1 with q | q
  ·exact .inl q
  ·exact .inr ⟨q,PySem.W.cellsFrom_some _ _ _ (.inl q)⟩
 refine codeAny_call_function hr.depth (KX _ _ lk) rfl S.co S.gen rfl (PySem.W.codeRec_of KX hcd) (hb _ _ _ _ ?_)
 refine wpAny_newFunctionEnv_cells S.kind hkind fun env he s1 x=>?_
 subst he
 refine ⟨lim.keeps x.toInCall.keep,codeAny_func ?_⟩
 obtain ⟨t,ht,hq⟩:=hbody A outer s H vs Q E (hr.deeper _) hsp
 have I:Inv (cxOf CX P w K mg base N qual scope f cdv A outer s H E) [] (start N vs) H s1:=yS4 S hr.hd e0 hl r x
 refine wpAny_mono (ht [] s1 (start N vs) H _ I hq) (fun fl s' hs=>?_) fun e s' hs=>hs
 have fin:∀ {σ':St} {H':Hp} {v:V} {u:Value},Inv (cxOf CX P w K mg base N qual scope f cdv A outer s H E) [] σ' H' s'->RelV v u->Q v H'->CE outer P w H s Q u s' :=
  fun {σ' H' v u} J rv q=>⟨v,H',J.os,J.bare,J.base,J.hok,rv,q⟩
 cases fl with
 | ret u =>
  obtain ⟨v,σ',H',J,rv,q⟩:=hs
  exact fin J rv q
 | next =>
  obtain ⟨σ',H',J,q⟩:=hs
  exact fin (v:=V.non) (u:=Value.none) J rfl q
 | brk =>
  obtain ⟨_,_,_,q⟩:=hs
  exact False.elim q
 | cont =>
  obtain ⟨_,_,_,q⟩:=hs
  exact False.elim q
section
variable {X:Cx} {x:Str} {p pos:Pos} {e:Expr} {es:List Expr} {t:TA} {id T:String} {r:List V->Hp->VK->Prop}
noncomputable def tCB (r:List V->Hp->VK->Prop) (t:TA):TE:=fun σ H Q=>t σ H fun vs H1=>r vs H1 Q
theorem Ô (hc:Υ X (.builtin id) r) (hg:Gl X x) (hm:X.mg x = none) (hv:bootBuiltins x = some (.builtin id)) (ha:PA X (e :: es) t) (hn:x ≠ "__name__":=by decide) (hdb:(x == ("__debug__":Str)) = false:=by decide)
  (he:starEach (e :: es) X.env = (false,eval e X.env) :: starEach es X.env:=by rfl) (hpl:(backTo pos (starEach es X.env)).any (·.1) = false:=by rfl):PE X (.Call (.Name x p) (e :: es) [] pos) (tCB r t):=by
 intro pins s σ H Q I h
 refine wpAny_Call_Name_kw (η I hg hm hv ?_ hn hdb)
 exact PyProof.Rows.callWith_builtin1 (thn (ha pos pins s σ H _ I h) fun us s1 ⟨vs,H1,I1,r1,q1⟩=>hc pins s1 σ H1 vs us Q I1 r1 q1) he hpl
theorem ŭ (hc:Υ X (.type T) r) (hg:Gl X x) (hm:X.mg x = none) (hv:bootBuiltins x = some (.type T)) (ha:PA X (e :: es) t) (hn:x ≠ "__name__":=by decide) (hdb:(x == ("__debug__":Str)) = false:=by decide)
  (he:starEach (e :: es) X.env = (false,eval e X.env) :: starEach es X.env:=by rfl) (hpl:(backTo pos (starEach es X.env)).any (·.1) = false:=by rfl):PE X (.Call (.Name x p) (e :: es) [] pos) (tCB r t):=by
 intro pins s σ H Q I h
 refine wpAny_Call_Name_kw (η I hg hm hv ?_ hn hdb)
 exact PyProof.Rows.callWith_type1 (thn (ha pos pins s σ H _ I h) fun us s1 ⟨vs,H1,I1,r1,q1⟩=>hc pins s1 σ H1 vs us Q I1 r1 q1) he hpl
end
section
variable {κ:Type} [DecidableEq κ]
noncomputable def valV (kvs:List (κ × V)) (k:κ):Option V:=(kvs.find? fun kv=>decide (kv.1 = k)).map (·.2)
noncomputable def putK (kvs:List (κ × V)) (k:κ) (v:V):List (κ × V) :=
 if (kvs.any fun kv=>decide (kv.1 = k)) = true then kvs.map (fun kv=>if kv.1 = k then (kv.1,v) else kv) else kvs ++ [(k,v)]
noncomputable def ψ (kvs:List (κ × V)) (k:κ):List (κ × V):=kvs.filter fun kv=>decide (kv.1 ≠ k)
theorem Ű {p:κ × V} {r:List (κ × V)} {k:κ} (e:p.1 = k):valV (p :: r) k = some p.2:=by simp [valV,Ŧ,e]
theorem ű {p:κ × V} {r:List (κ × V)} {k:κ} (e:¬ p.1 = k):valV (p :: r) k = valV r k:=by simp [valV,Ŧ,e]
theorem zF5 (k:κ):∀ kvs:List (κ × V),(kvs.any fun kv=>decide (kv.1 = k)) = (valV kvs k).isSome
 | []=>rfl
 | p :: r=>by
  rw [List.any_cons]
  by_cases e:p.1 = k
  ·simp only [Ű e,decide_eq_true e,Bool.true_or,Option.isSome_some]
  ·rw [ű e,decide_eq_false e,Bool.false_or]; exact zF5 k r
theorem yD8 (k j:κ) (y:V):∀ kvs:List (κ × V),valV (kvs.map fun kv=>if kv.1 = k then (kv.1,y) else kv) j = (valV kvs j).map fun x=>if j = k then y else x
 | []=>rfl
 | p :: r=>by
  have ih:=yD8 k j y r
  rw [ĸ]
  by_cases h:p.1 = k
  ·rw [if_pos h]
   by_cases e:p.1 = j
   ·rw [Ű (p:=(p.1,y)) e,Ű e,Option.map_some,if_pos (e.symm.trans h)]
   ·rw [ű (p:=(p.1,y)) e,ű e,ih]
  ·rw [if_neg h]
   by_cases e:p.1 = j
   ·rw [Ű (p:=p) e,Ű e,Option.map_some,if_neg (fun z=>h (e.trans z))]
   ·rw [ű (p:=p) e,ű e,ih]
theorem zV5 (k j:κ) (y:V):∀ kvs:List (κ × V),valV kvs k = none->valV (kvs ++ [(k,y)]) j = if j = k then some y else valV kvs j
 | [],_=>by
  by_cases e:k = j
  ·rw [if_pos e.symm]; exact Ű (p:=(k,y)) e
  ·rw [if_neg (fun z=>e z.symm)]; exact ű (p:=(k,y)) e
 | p :: r,hn=>by
  rw [List.cons_append]
  have hk:¬ p.1 = k:=fun z=>by rw [Ű z] at hn; cases hn
  rw [ű hk] at hn
  have ih:=zV5 k j y r hn
  by_cases e:p.1 = j
  ·rw [Ű e,Ű e,if_neg (fun z=>hk (e.trans z))]
  ·rw [ű e,ű e,ih]
theorem zH0 (kvs:List (κ × V)) (k j:κ) (y:V):valV (putK kvs k y) j = if j = k then some y else valV kvs j:=by
 unfold putK
 by_cases a:(kvs.any fun kv=>decide (kv.1 = k)) = true
 ·rw [if_pos a,yD8]
  rw [zF5] at a
  by_cases e:j = k
  ·obtain ⟨x,hx⟩:=Option.isSome_iff_exists.mp a
   rw [if_pos e,e,hx,Option.map_some,if_pos rfl]
  ·rw [if_neg e]
   cases valV kvs j with
   | none=>rfl
   | some x=>rw [Option.map_some,if_neg e]
 ·rw [if_neg a]
  refine zV5 k j y kvs ?_
  rw [zF5] at a
  cases q:valV kvs k with
  | none=>rfl
  | some x=>rw [q] at a; exact (a rfl).elim
theorem ð (kvs:List (κ × V)) (k:κ) (v:V):(putK kvs k v).length <= kvs.length + 1:=by
 unfold putK
 split
 ·rw [ā]; omega
 ·rw [Ĝ,ģ,ť]; omega
theorem RelO.isSome_eq {o:Option V} {u:Option Value} (r:RelO o u):o.isSome = u.isSome:=by
 cases o with
 | none=>cases u with
  | none=>rfl
  | some _=>exact (show False from r).elim
 | some _=>cases u with
  | none=>exact (show False from r).elim
  | some _=>rfl
theorem RelO.getD {o:Option V} {u:Option Value} {d:V} {d':Value} (r:RelO o u) (rd:RelV d d'):RelV (o.getD d) (u.getD d'):=by
 cases o with
 | none=>cases u with
  | none=>exact rd
  | some _=>exact (show False from r).elim
 | some _=>cases u with
  | none=>exact (show False from r).elim
  | some _=>exact r
theorem KV.val {kvs:List (κ × V)} {vs:List (κ × Value)} (r:KV kvs vs) (k:κ):RelO (valV kvs k) (valueAt vs k):=by
 unfold KV at r
 induction r with
 | nil=>exact True.intro
 | @cons p q ps qs h t ih =>
  obtain ⟨h1,h2⟩:=h
  by_cases e:p.1 = k
  ·have e':q.1 = k:=h1.symm.trans e
   have b:valueAt (q :: qs) k = some q.2:=by simp [valueAt,Ŧ,e']
   rw [Ű e,b]; exact h2
  ·have e':¬ q.1 = k:=fun z=>e (h1.trans z)
   have b:valueAt (q :: qs) k = valueAt qs k:=by simp [valueAt,Ŧ,e']
   rw [ű e,b]; exact ih
theorem KV.any {kvs:List (κ × V)} {vs:List (κ × Value)} (r:KV kvs vs) (k:κ):(kvs.any fun kv=>decide (kv.1 = k)) = vs.any fun kv=>decide (kv.1 = k):=by
 unfold KV at r
 induction r with
 | nil=>rfl
 | cons h t ih=>rw [List.any_cons,List.any_cons,ih,h.1]
theorem KV.repl {kvs:List (κ × V)} {vs:List (κ × Value)} (r:KV kvs vs) (k:κ) {y:V} {u:Value} (ry:RelV y u) :
  KV (kvs.map fun kv=>if kv.1 = k then (kv.1,y) else kv) (vs.map fun kv=>if kv.1 = k then (kv.1,u) else kv):=by
 unfold KV at r ⊢
 induction r with
 | nil=>exact .nil
 | @cons p q ps qs h t ih =>
  rw [ĸ,ĸ]
  refine .cons ?_ ih
  obtain ⟨h1,h2⟩:=h
  by_cases e:p.1 = k
  ·rw [if_pos e,if_pos (h1.symm.trans e)]; exact ⟨h1,ry⟩
  ·rw [if_neg e,if_neg (fun z=>e (h1.trans z))]; exact ⟨h1,h2⟩
theorem KV.put {kvs:List (κ × V)} {vs:List (κ × Value)} (r:KV kvs vs) (k:κ) {y:V} {u:Value} (ry:RelV y u):KV (putK kvs k y) (stored vs k u):=by
 unfold putK stored
 rw [r.any k]
 by_cases e:(vs.any fun kv=>decide (kv.1 = k)) = true
 ·rw [if_pos e,if_pos e]; exact r.repl k ry
 ·rw [if_neg e,if_neg e]; exact Paired.snoc r ⟨rfl,ry⟩
theorem KV.drop {kvs:List (κ × V)} {vs:List (κ × Value)} (r:KV kvs vs) (k:κ):KV (ψ kvs k) (without vs k):=by
 unfold KV at r ⊢
 unfold ψ without
 induction r with
 | nil=>exact .nil
 | @cons p q ps qs h t ih =>
  obtain ⟨h1,h2⟩:=h
  rw [Ŗ,Ŗ]
  by_cases e:p.1 = k
  ·have a:¬ decide (p.1 ≠ k) = true:=by simp [e]
   have b:¬ decide (q.1 ≠ k) = true:=by simp [h1.symm.trans e]
   rw [if_neg a,if_neg b]; exact ih
  ·have e':¬ q.1 = k:=fun z=>e (h1.trans z)
   have a:decide (p.1 ≠ k) = true:=by simp [e]
   have b:decide (q.1 ≠ k) = true:=by simp [e']
   rw [if_pos a,if_pos b]; exact .cons ⟨h1,h2⟩ ih
theorem KV.length {kvs:List (κ × V)} {vs:List (κ × Value)} (r:KV kvs vs):kvs.length = vs.length:=Paired.length r
theorem yZ5 (kvs:List (κ × V)) (k:κ):(ψ kvs k).length <= kvs.length:=Į _ _
end
theorem zY4 {P:Program} {w:World} {k:Key} {u:Value} (r:RelV (kV k) u):(æ P w).is k u = true:=by
 cases k with
 | inl i=>obtain ⟨t,e⟩:=(show ∃ t,u = Value.int i t from r); subst e; exact yC0 P w i t
 | inr x=>obtain ⟨t,e⟩:=(show ∃ t,u = Value.str x t from r); subst e; exact zO0 P w x t
theorem zY5 {P:Program} {w:World}:∀ {ks:List Key} {us:List Value},Vals (ks.map kV) us->ItemsAre (æ P w) ks us
 | [],_,r=>by rw [List.map_nil] at r; cases r; exact .nil
 | k :: ks,_,r=>by
  rw [ĸ] at r
  cases r with
  | cons h t=>exact .cons (zY4 h) (zY5 t)
noncomputable abbrev KT (H:Hp):List (List Key × V)->List (List Key × Addr × Value)->Prop:=Paired fun p q=>p.1 = q.1 /\ H q.2.1 = some (.tup (p.1.map kV)) /\ RelV p.2 q.2.2
theorem KT.val {H:Hp} {kvs:List (List Key × V)} {xs:List (List Key × Addr × Value)} (r:KT H kvs xs) (k:List Key):RelO (valV kvs k) ((atKey xs k).map (·.2)):=by
 induction r with
 | nil=>exact True.intro
 | @cons p q ps qs h t ih =>
  obtain ⟨h1,_,h2⟩:=h
  by_cases e:p.1 = k
  ·have e':q.1 = k:=h1.symm.trans e
   have b:atKey (q :: qs) k = some q.2:=by simp [atKey,Ŧ,e']
   rw [Ű e,b]; exact h2
  ·have e':¬ q.1 = k:=fun z=>e (h1.trans z)
   have b:atKey (q :: qs) k = atKey qs k:=by simp [atKey,Ŧ,e']
   rw [ű e,b]; exact ih
theorem KT.repl {H:Hp} {kvs:List (List Key × V)} {xs:List (List Key × Addr × Value)} (r:KT H kvs xs) (k:List Key) {y:V} {u:Value} (ry:RelV y u) :
  KT H (kvs.map fun kv=>if kv.1 = k then (kv.1,y) else kv) (xs.map (putAt k u)):=by
 induction r with
 | nil=>exact .nil
 | @cons p q ps qs h t ih =>
  rw [ĸ,ĸ]
  refine .cons ?_ ih
  obtain ⟨h1,h2,h3⟩:=h
  unfold putAt
  by_cases e:p.1 = k
  ·rw [if_pos e,if_pos (h1.symm.trans e)]; exact ⟨h1,h2,ry⟩
  ·rw [if_neg e,if_neg (fun z=>e (h1.trans z))]; exact ⟨h1,h2,h3⟩
theorem KT.put {H:Hp} {kvs:List (List Key × V)} {xs:List (List Key × Addr × Value)} (r:KT H kvs xs) (k:List Key) {b:Addr} {y:V} {u:Value} (hb:H b = some (.tup (k.map kV))) (ry:RelV y u) :
  KT H (putK kvs k y) (storedH xs k b u):=by
 have e:(kvs.any fun kv=>decide (kv.1 = k)) = (atKey xs k).isSome:=by
  rw [zF5,(r.val k).isSome_eq,Option.isSome_map]
 unfold putK storedH
 rw [e]
 by_cases q:(atKey xs k).isSome = true
 ·rw [if_pos q,if_pos q]; exact r.repl k ry
 ·rw [if_neg q,if_neg q]; exact Paired.snoc r ⟨rfl,hb,ry⟩
theorem KT.keeps {H H':Hp} {kvs:List (List Key × V)} {xs:List (List Key × Addr × Value)} (r:KT H kvs xs) (ht:∀ b ys,H b = some (.tup ys)->H' b = some (.tup ys)):KT H' kvs xs :=
 Paired.mapP r fun _ _ z=>⟨z.1,ht _ _ z.2.1,z.2.2⟩
section
variable {P:Program} {w:World} {H:Hp} {h:Heap} {a:Addr}
theorem xJ3 {u:HO} (ok:HOk P w H h) (e:Rd H a u):ObjOk P w H h a u:=e.ok ok
theorem yC5 {kvs:List (Key × V)} (ok:HOk P w H h) (e:Rd H a (.dK kvs)):kvs.length <= sizeLine /\ (a == sysModules) = false /\ ∃ vs,KV kvs vs /\ h.DictOf (æ P w) a vs :=
 show ObjOk P w H h a (.dK kvs) from xJ3 ok e
theorem ω {kvs:List (Key × V)} (ok:HOk P w H h) (e:H a = some (.dK kvs)):kvs.length <= sizeLine /\ (a == sysModules) = false /\ ∃ vs,KV kvs vs /\ h.DictOf (æ P w) a vs:=yC5 ok (.inl e)
theorem zQ2 {ks:List Key} (ok:HOk P w H h) (e:H a = some (.tup (ks.map kV))):(tupleKind (æ P w)).is h ks a:=by
 obtain ⟨_,its,r,o,h1,h2,n,h3⟩:=(show ObjOk P w H h a (.tup (ks.map kV)) from ok a _ e)
 exact ⟨o,its.toArray,n,h1,h2,h3,by simpa using zY5 r⟩
theorem yC4 {kvs:List (List Key × V)} (ok:HOk P w H h) (e:Rd H a (.dT kvs)):kvs.length <= sizeLine /\ (a == sysModules) = false /\
  ∃ xs,KT H kvs xs /\ h.DictOfH (tupleKind (æ P w)) a xs:=by
 obtain ⟨z,y,xs,r,o,es,ep,h1,h2,h3,h4,h5⟩:=(show ObjOk P w H h a (.dT kvs) from xJ3 ok e)
 refine ⟨z,y,xs,r,o,es,ep,h1,h2,h3,h4,fun x hx=>?_,h5⟩
 have all:∀ {l:List (List Key × V)} {m:List (List Key × Addr × Value)},KT H l m->∀ x ∈ m,(tupleKind (æ P w)).is h x.1 x.2.1:=by
  intro l m q
  induction q with
  | nil=>intro x hx; exact nomatch hx
  | @cons p q ps qs hq t ih =>
   intro x hx
   rcases Ē.mp hx with e | hx
   ·subst e
    exact zQ2 ok (by rw [<- hq.1]; exact hq.2.1)
   ·exact ih x hx
 exact all r x hx
theorem xQ9 {kvs:List (List Key × V)} (ok:HOk P w H h) (e:H a = some (.dT kvs)):kvs.length <= sizeLine /\ (a == sysModules) = false /\
  ∃ xs,KT H kvs xs /\ h.DictOfH (tupleKind (æ P w)) a xs:=yC4 ok (.inl e)
end
noncomputable def DGet (H:Hp) (a:Addr) (y:V) (r:Option V):Prop :=
 (∃ kvs k,Rd H a (.dK kvs) /\ y = kV k /\ r = valV kvs k) \/ ∃ kvs k b,Rd H a (.dT kvs) /\ y = .ref b /\ H b = some (.tup (k.map kV)) /\ r = valV kvs k
noncomputable def DPut (H:Hp) (a:Addr) (y v:V) (H':Hp):Prop :=
 (∃ kvs k,H a = some (.dK kvs) /\ y = kV k /\ kvs.length < sizeLine /\ H' = upd H a (.dK (putK kvs k v))) \/
 ∃ kvs k b,H a = some (.dT kvs) /\ y = .ref b /\ H b = some (.tup (k.map kV)) /\ kvs.length < sizeLine /\ H' = upd H a (.dT (putK kvs k v))
theorem DGet.k {H:Hp} {a:Addr} {kvs:List (Key × V)} {k:Key} (e:H a = some (.dK kvs)):DGet H a (kV k) (valV kvs k):=.inl ⟨kvs,k,.inl e,rfl,rfl⟩
theorem DPut.k {H:Hp} {a:Addr} {kvs:List (Key × V)} {k:Key} {v:V} (e:H a = some (.dK kvs)) (hl:kvs.length < sizeLine):DPut H a (kV k) v (upd H a (.dK (putK kvs k v))):=.inl ⟨kvs,k,e,rfl,hl,rfl⟩
section
variable {X:Cx} {pins:List (Addr × Obj)} {σ:St} {H:Hp} {s:Shared} {a:Addr} {y v:V} {u r:Value} {o:Option V} {A:Around} {E:Value->Shared->Prop}
theorem Inv.big (I:Inv X pins σ H s):sysModules < s.heap.objs.size:=by
 have h:mainGlobals < s.heap.objs.size:=(I.mod.glob.keeps I.bk).lt
 exact Nat.lt_trans (by decide) h
theorem yU5 {Q:Value->Shared->Prop} (hu:A.units + 1 < cLine) (I:Inv X pins σ H s) (g:DGet H a y (some v)) (ry:RelV y u) (h:∀ w' s',Inv X pins σ H s'->RelV v w'->Q w' s') :
  wpAny (model X.prog X.w) A (getItem (.ref a) u) Q E s:=by
 rcases g with ⟨kvs,k,e,ey,l⟩ | ⟨kvs,k,b,e,ey,eb,l⟩
 ·subst ey
  obtain ⟨z,hd,vs,rel,dd⟩:=yC5 I.hok e
  obtain ⟨w',hw,rw'⟩:=RelO.some_of (v:=v) (o:=valueAt vs k) (by rw [l]; exact rel.val k)
  exact wpAny_getItem_of (zY4 ry) dd.mapOf hw (h w' _ (I.tok _) rw')
 ·subst ey
  cases (show u = Value.ref b from ry)
  obtain ⟨z,hd,xs,rel,dd⟩:=yC4 I.hok e
  obtain ⟨w',hw,rw'⟩:=RelO.some_of (v:=v) (o:=(atKey xs k).map (·.2)) (by rw [l]; exact rel.val k)
  obtain ⟨p,hp,hp2⟩:=Option.map_eq_some_iff.mp hw
  refine wpAny_getItem_heap (tupleKind_room_in1 hu) (zQ2 I.hok eb) dd hp ?_
  rw [hp2]
  exact h w' _ (I.tok _) rw'
theorem d_in {Q:Value->Shared->Prop} (hu:A.units + 1 < cLine) (I:Inv X pins σ H s) (g:DGet H a y o) (ry:RelV y u) (h:∀ s',Inv X pins σ H s'->Q (.bool o.isSome) s') :
  wpAny (model X.prog X.w) A (compareOp .In u (.ref a)) Q E s:=by
 rcases g with ⟨kvs,k,e,ey,l⟩ | ⟨kvs,k,b,e,ey,eb,l⟩
 ·subst ey
  obtain ⟨z,hd,vs,rel,dd⟩:=yC5 I.hok e
  refine wpAny_in_of (zY4 ry) hd dd.mapOf ?_
  rw [<- (rel.val k).isSome_eq,<- l]
  exact h _ (I.tok _)
 ·subst ey
  cases (show u = Value.ref b from ry)
  obtain ⟨z,hd,xs,rel,dd⟩:=yC4 I.hok e
  refine wpAny_in_heap (tupleKind_room_in1 hu) (zQ2 I.hok eb) hd dd ?_
  have q:=(rel.val k).isSome_eq
  rw [Option.isSome_map] at q
  rw [<- q,<- l]
  exact h _ (I.tok _)
theorem xH6 {Q:Value->Shared->Prop} (hu:A.units + 1 < cLine) (I:Inv X pins σ H s) (g:DGet H a y o) (ry:RelV y u) (h:∀ s',Inv X pins σ H s'->Q (.bool (!o.isSome)) s') :
  wpAny (model X.prog X.w) A (compareOp .NotIn u (.ref a)) Q E s:=by
 rcases g with ⟨kvs,k,e,ey,l⟩ | ⟨kvs,k,b,e,ey,eb,l⟩
 ·subst ey
  obtain ⟨z,hd,vs,rel,dd⟩:=yC5 I.hok e
  refine wpAny_notIn_of (zY4 ry) hd dd.mapOf ?_
  rw [<- (rel.val k).isSome_eq,<- l]
  exact h _ (I.tok _)
 ·subst ey
  cases (show u = Value.ref b from ry)
  obtain ⟨z,hd,xs,rel,dd⟩:=yC4 I.hok e
  refine wpAny_notIn_heap (tupleKind_room_in1 hu) (zQ2 I.hok eb) hd dd ?_
  have q:=(rel.val k).isSome_eq
  rw [Option.isSome_map] at q
  rw [<- q,<- l]
  exact h _ (I.tok _)
theorem zU3 {h':Heap} {t':Nat} {ob:HO} (I:Inv X pins σ H s) (mu:Mut (H a)) (hs:Heap.SameBut a s.heap h') (he:∃ q,h'.get? a = some q) (new:ObjOk X.prog X.w (upd H a ob) h' a ob) :
  Inv X pins σ (upd H a ob) { s with heap:=h',toks:=t' } :=
 I.write (x:=a) (e:=a) mu (.inl rfl) (fun b q hb z=>(hs.2 b hb).trans z) he new
theorem yT8 {P:Program} {w:World} {H':Hp} {h':Heap} {kvs:List (Key × V)} {vs:List (Key × Value)} (z:kvs.length <= sizeLine) (hd:(a == sysModules) = false) (rel:KV kvs vs) (dd:h'.DictOf (æ P w) a vs) :
  ObjOk P w H' h' a (.dK kvs):=⟨z,hd,vs,rel,dd⟩
theorem yU4 {H':Hp} {Q:Unit->Shared->Prop} (hu:A.units + 1 < cLine) (I:Inv X pins σ H s) (g:DPut H a y v H') (ry:RelV y u) (rv:RelV v r) (h:∀ s',Inv X pins σ H' s'->Q () s') :
  wpAny (model X.prog X.w) A (setItem (.ref a) u r) Q E s:=by
 rcases g with ⟨kvs,k,e,ey,l,eH⟩ | ⟨kvs,k,b,e,ey,eb,l,eH⟩
 ·subst ey eH
  obtain ⟨z,hd,vs,rel,dd⟩:=ω I.hok e
  have hz:vs.length <= sizeLine:=by rw [<- rel.length]; exact z
  have hl:(putK kvs k v).length <= sizeLine:=by have:=ð kvs k v; omega
  refine wpAny_setItem_pairs (hsz:=hz) (zY4 ry) dd fun h' dd' hs=>h _ ?_
  have he:∃ q,h'.get? a = some q:=let ⟨q,_,_,hq,_⟩:=dd'; ⟨q,hq⟩
  exact zU3 I (by rw [e]; exact True.intro) hs he (yT8 hl hd (rel.put k rv) dd')
 ·subst ey eH
  cases (show u = Value.ref b from ry)
  obtain ⟨z,hd,xs,rel,dd⟩:=xQ9 I.hok e
  have hz:xs.length <= sizeLine:=by rw [<- Paired.length rel]; exact z
  have hl:(putK kvs k v).length <= sizeLine:=by have:=ð kvs k v; omega
  refine wpAny_setItem_heap (hsz:=hz) (tupleKind_room_in1 hu) (zQ2 I.hok eb) dd fun h' dd' hs=>h _ ?_
  obtain ⟨q,es,ep,hq,h2,h3,h4,_,h5⟩:=dd'
  refine zU3 I (by rw [e]; exact True.intro) hs ⟨q,hq⟩ ⟨hl,hd,_,(rel.put k eb rv).keeps fun c ys ec=>?_,q,es,ep,hq,h2,h3,h4,h5⟩
  rw [upd_ne (ê ec e (fun z=>nomatch z))]
  exact ec
end
section
variable {X:Cx} {pins:List (Addr × Obj)} {σ:St} {H:Hp} {s:Shared} {a:Addr} {kvs:List (Key × V)} {k:Key} {u:Value} {A:Around} {E:Value->Shared->Prop}
theorem xR0 {v:V} {more:List Value} {Q:Value->Shared->Prop} (I:Inv X pins σ H s) (e:H a = some (.dK kvs)) (ry:RelV (kV k) u) (l:valV kvs k = some v) (hm:more = [] \/ ∃ x,more = [x])
  (h:∀ w' s',Inv X pins σ (upd H a (.dK (ψ kvs k))) s'->RelV v w'->Q w' s'):wpAny (model X.prog X.w) A (call (.builtin "dict.pop") (.ref a :: u :: more)) Q E s:=by
 obtain ⟨z,hd,vs,rel,dd⟩:=ω I.hok e
 obtain ⟨w',hw,rw'⟩:=RelO.some_of (v:=v) (o:=valueAt vs k) (by rw [<- l]; exact rel.val k)
 have hp:(keyPart u).isSome = true:=by
  cases k with
  | inl i=>obtain ⟨t,q⟩:=(show ∃ t,u = Value.int i t from ry); subst q; rfl
  | inr x=>obtain ⟨t,q⟩:=(show ∃ t,u = Value.str x t from ry); subst q; rfl
 have ha:argsOk "dict.pop" ⟨.ref a :: u :: more,[]⟩:=by
  rcases hm with q | ⟨x,q⟩
  ·subst q; exact PySem.F.args_dict_pop_2 _ _
  ·subst q; exact PySem.F.args_dict_pop_3 _ _ _
 refine call_meetsIn PySem.F.slot_dict_pop dd.typeIs PySem.F.entry_dict_pop ha (meets_dict_pop_there (æ X.prog X.w) a (zY4 ry) more hm hp)
  ⟨vs,w',dd,by rw [<- rel.length]; exact z,hw,fun h' dd' hs=>h w' _ ?_ rw'⟩
 have he:∃ q,h'.get? a = some q:=let ⟨q,_,_,hq,_⟩:=dd'; ⟨q,hq⟩
 exact zU3 I (by rw [e]; exact True.intro) hs he (yT8 (č (yZ5 kvs k) z) hd (rel.drop k) dd')
end
noncomputable def NoSl (i:Expr):Prop:=∀ ov iv,subscripted i false ov iv = operate [ov,iv] (getItem ov iv)
theorem xE1 {prog:Program} {w:World} {A:Around} {E:Value->Shared->Prop} {s:Shared} {env:Env} {value slice:Expr} {pos:Pos} {T id:String} {Q:Value->Shared->Prop}
  (hl:typeLookup (.type T) "__getitem__" = pure (some (.builtin id))) (hs:NoSl slice)
  (h:wpAny (model prog w) A (eval value env) (fun o s₁=>wpAny (model prog w) A (eval slice env) (fun i s₂=>s₂.TypeIs o T /\ wpAny (model prog w) A (getItem o i) Q E s₂) E s₁) E s) :
  wpAny (model prog w) A (eval (.Subscript value slice pos) env) Q E s:=by
 refine Subscript_ (wpAny_mono h (fun o s₁ h₁=>wpAny_mono h₁ (fun i s₂ h₂=>?_) fun _ _ x=>x) fun _ _ x=>x)
 obtain ⟨hT,h₂⟩:=h₂
 unfold subscriptTail
 refine wpAny_bind ?_
 rw [getitemInPython_of_ne hT.not_modules]
 refine wpAny_bind (wpAny_specialOf hT hl ?_)
 have fin:wpAny (model prog w) A (subscripted slice false o i) (fun r s₃=>wpAny (model prog w) A (letTemporaryGo value o r >>= fun _=>pure r) Q E s₃) E s₂:=by
  rw [hs o i]
  exact wpAny_operating (wpAny_mono h₂ (fun r s₃ h₃=>wpAny_bind (wpAny_letTemporaryGo (wpAny_pure h₃))) fun _ _ x=>x)
 first
  | exact wpAny_pure (wpAny_bind fin)
  | exact wpAny_bind (wpAny_pure (wpAny_bind fin))
  | exact wpAny_bind fin
theorem yC6 {X:Cx} {pins:List (Addr × Obj)} {σ:St} {H:Hp} {s:Shared} {a:Addr} {y:V} {o:Option V} (I:Inv X pins σ H s) (g:DGet H a y o):s.TypeIs (.ref a) "dict":=by
 rcases g with ⟨kvs,k,e,_,_⟩ | ⟨kvs,k,b,e,_,_,_⟩
 ·obtain ⟨_,_,vs,_,dd⟩:=yC5 I.hok e
  exact dd.typeIs
 ·obtain ⟨_,_,xs,_,dd⟩:=yC4 I.hok e
  exact dd.typeIs
noncomputable def xP3 (td ty:TE):TE:=fun σ H Q=>td σ H fun x H1=>ty σ H1 fun y H2=>∃ a v,x = .ref a /\ DGet H2 a y (some v) /\ Q v H2
noncomputable def tDIn (ty td:TE):TE:=fun σ H Q=>ty σ H fun y H1=>td σ H1 fun x H2=>∃ a o,x = .ref a /\ DGet H2 a y o /\ Q (.bl o.isSome) H2
noncomputable def xD8 (ty td:TE):TE:=fun σ H Q=>ty σ H fun y H1=>td σ H1 fun x H2=>∃ a o,x = .ref a /\ DGet H2 a y o /\ Q (.bl (!o.isSome)) H2
noncomputable def xP5 (td ty tv:TE):TS:=fun D σ H=>tv σ H fun v H1=>td σ H1 fun x H2=>ty σ H2 fun y H3=>∃ a H4,x = .ref a /\ DPut H3 a y v H4 /\ D.nx σ H4
section
variable {X:Cx} {o i e value:Expr} {pos pos' tpos:Pos} {td ty tv:TE}
theorem å (hu:X.A.units + 1 < cLine) (ho:PE X o td) (hi:PE X i ty) (hs:NoSl i):PE X (.Subscript o i pos) (xP3 td ty):=by
 intro pins s σ H Q I h
 refine xE1 PySem.F.slot_dict_getitem.lookup hs (thn (ho pins s σ H _ I h) fun u s1 ⟨x,H1,I1,rx,q1⟩=>thn (hi pins s1 σ H1 _ I1 q1) fun iv s2 ⟨y,H2,I2,ry,a,v,ex,g,q2⟩=>?_)
 subst ex
 obtain rfl:u = Value.ref a:=rx
 exact ⟨yC6 I2 g,yU5 hu I2 g ry fun w' s3 I3 rw'=>⟨v,H2,I3,rw',q2⟩⟩
theorem xC0 (hu:X.A.units + 1 < cLine) (hi:PE X i ty) (ho:PE X o td):PC X .In i o (tDIn ty td):=by
 intro pins s σ H Q I h
 refine thn (hi pins s σ H _ I h) fun iv s1 ⟨y,H1,I1,ry,q1⟩=>thn (ho pins s1 σ H1 _ I1 q1) fun u s2 ⟨x,H2,I2,rx,a,ov,ex,g,q2⟩=>?_
 subst ex
 obtain rfl:u = Value.ref a:=rx
 exact d_in hu I2 g ry fun s3 I3=>⟨.bl ov.isSome,H2,I3,rfl,q2⟩
theorem zN3 (hu:X.A.units + 1 < cLine) (hi:PE X i ty) (ho:PE X o td):PC X .NotIn i o (xD8 ty td):=by
 intro pins s σ H Q I h
 refine thn (hi pins s σ H _ I h) fun iv s1 ⟨y,H1,I1,ry,q1⟩=>thn (ho pins s1 σ H1 _ I1 q1) fun u s2 ⟨x,H2,I2,rx,a,ov,ex,g,q2⟩=>?_
 subst ex
 obtain rfl:u = Value.ref a:=rx
 exact xH6 hu I2 g ry fun s3 I3=>⟨.bl (!ov.isSome),H2,I3,rfl,q2⟩
theorem ç (hu:X.A.units + 1 < cLine) (ho:PE X o td) (hi:PE X i ty) (hv:PE X value tv) (hs:swapsWith value (some (.Subscript o i pos')) pos.line X.env = pure false) :
  PS X (.Assign [.Subscript o i pos'] value pos) (xP5 td ty tv):=by
 intro pins s σ H D I h
 refine wpAny_Assign_Subscript (thn (hv pins s σ H _ I h) fun r s1 ⟨v,H1,I1,rv,q1⟩=>thn (ho pins s1 σ H1 _ I1 q1) fun u s2 ⟨x,H2,I2,rx,q2⟩=>thn (hi pins s2 σ H2 _ I2 q2) fun iv s3 ⟨y,H3,I3,ry,a,H4,ex,g,q3⟩=>?_) hs
 subst ex
 obtain rfl:u = Value.ref a:=rx
 exact yU4 hu I3 g ry rv fun s4 I4=>⟨σ,H4,I4,q3⟩
end
theorem yH0 {P:Program} {w:World} {H:Hp} (h:Heap) (hb:sysModules < h.objs.size):ObjOk P w H (h.push { cls:=.type "dict",data:=.dict #[] }) h.objs.size (.dK []) :=
 ⟨Ī _,beq_eq_false_iff_ne.mpr (Ne.symm (Ħ hb)),[],.nil,Heap.DictOf.new h⟩
noncomputable def xI4:TE:=fun _ H Q=>∀ p,H p = none->Q (.ref p) (upd H p (.dK []))
section
variable {X:Cx} {pos:Pos}
theorem ë:PE X (.Dict [] [] pos) xI4:=fun pins s σ H Q I h =>
 wpAny_Dict_empty ⟨.ref s.heap.objs.size,_,I.laid (a:=s.heap.objs.size) (o:=.dK []) (t':=s.toks) (fun _ _ q=>Ĉ _ q) (ą _) (yH0 s.heap I.big),rfl,h _ (I.hok.fresh (ą _))⟩
end
noncomputable def yL2:List (TE × TE)->St->Hp->(List (V × V)->Hp->Prop)->Prop
 | [],_,H,Q=>Q [] H
 | (tk,tv) :: r,σ,H,Q=>tk σ H fun x H1=>tv σ H1 fun y H2=>yL2 r σ H2 fun ps H3=>Q ((x,y) :: ps) H3
noncomputable abbrev VV:List (V × V)->List (Value × Value)->Prop:=Paired fun p q=>RelV p.1 q.1 /\ RelV p.2 q.2
noncomputable def PPs (X:Cx) (pos:Pos) (keys:List (Option Expr)) (values:List Expr) (trs:List (TE × TE)):Prop :=
 ∀ (pins:List (Addr × Obj)) (s:Shared) (σ:St) (H:Hp) (Q:List (V × V)->Hp->Prop),Inv X pins σ H s->yL2 trs σ H Q ->
  wpAny (model X.prog X.w) X.A (evalPairs (pairTrees keys values X.env pos)) (fun vs s'=>∃ ps H',Inv X pins σ H' s' /\ VV ps vs /\ Q ps H') X.xe s
theorem yO6 {X:Cx} {pos:Pos}:PPs X pos [] [] []:=fun pins s σ H Q I h=>pairTrees_nil_walk ⟨[],H,I,.nil,h⟩
theorem yF3 {X:Cx} {pos:Pos} {k v:Expr} {ks:List (Option Expr)} {vs:List Expr} {tk tv:TE} {trs:List (TE × TE)} (hk:PE X k tk) (hv:PE X v tv) (hr:PPs X pos ks vs trs) :
  PPs X pos (some k :: ks) (v :: vs) ((tk,tv) :: trs):=fun pins s σ H Q I h =>
 pairTrees_cons_walk (thn (hk pins s σ H _ I h) fun u s1 ⟨x,H1,I1,rx,q1⟩=>thn (hv pins s1 σ H1 _ I1 q1) fun w2 s2 ⟨y,H2,I2,ry,q2⟩ =>
  thn (hr pins s2 σ H2 _ I2 q2) fun ws s3 ⟨ps,H3,I3,rel,q3⟩=>⟨(x,y) :: ps,H3,I3,.cons ⟨rx,ry⟩ rel,q3⟩)
noncomputable def Ι (kvs more:List (Key × V)):List (Key × V):=more.foldl (fun acc kv=>putK acc kv.1 kv.2) kvs
theorem KV.merge:∀ {more:List (Key × V)} {rs:List (Key × Value)} {kvs:List (Key × V)} {vs:List (Key × Value)},KV more rs->KV kvs vs->KV (Ι kvs more) (merged vs rs):=by
 intro more rs kvs vs r
 unfold KV at r
 induction r generalizing kvs vs with
 | nil=>intro q; exact q
 | @cons p q ps qs h t ih =>
  intro r0
  have e:KV (putK kvs p.1 p.2) (stored vs q.1 q.2):=by
   have:=r0.put p.1 h.2
   rw [<- h.1]; exact this
  exact ih e
theorem zI0:∀ (more kvs:List (Key × V)),(Ι kvs more).length <= kvs.length + more.length
 | [],kvs=>by show kvs.length <= kvs.length + 0; omega
 | p :: r,kvs=>by
  have h1:=zI0 r (putK kvs p.1 p.2)
  have h2:=ð kvs p.1 p.2
  show (Ι (putK kvs p.1 p.2) r).length <= _
  rw [ģ]; omega
theorem zQ4 {P:Program} {w:World}:∀ {kvs:List (Key × V)} {ws:List (Value × Value)},VV (kvs.map fun kv=>(kV kv.1,kv.2)) ws->∃ rs,Carries (æ P w) ws rs /\ KV kvs rs
 | [],_,r=>by rw [List.map_nil] at r; cases r; exact ⟨[],True.intro,.nil⟩
 | p :: kvs,_,r=>by
  rw [ĸ] at r
  cases r with
  | @cons a b as bs h t =>
   obtain ⟨rs,c,q⟩:=zQ4 (P:=P) (w:=w) t
   obtain ⟨b1,b2⟩:=b
   exact ⟨(p.1,b2) :: rs,⟨zY4 h.1,rfl,c⟩,.cons ⟨rfl,h.2⟩ q⟩
noncomputable def xP2 (trs:List (TE × TE)):TE:=fun σ H Q=>∀ p,H p = none->yL2 trs σ (upd H p (.dK [])) fun ps H2=>H2 p = some (.dK []) /\ ∃ kvs:List (Key × V),ps = kvs.map (fun kv=>(kV kv.1,kv.2)) /\ kvs.length <= 15 /\ Q (.ref p) (upd H2 p (.dK (Ι [] kvs)))
theorem yP2 {X:Cx} {pos:Pos} {keys:List (Option Expr)} {values:List Expr} {trs:List (TE × TE)} (h:PPs X pos keys values trs) (hall:keys.all (·.isSome) = true) (hl:keys.length = values.length) (h0:keys ≠ [])
  (h15:keys.length <= 15):PE X (.Dict keys values pos) (xP2 trs):=by
 intro pins s σ H Q I q
 have hn:=I.hok.fresh (ą s.heap.objs.size)
 have I1:=I.laid (a:=s.heap.objs.size) (o:=.dK []) (h':=s.heap.push { cls:=.type "dict",data:=.dict #[] }) (t':=s.toks) (fun _ _ q=>Ĉ _ q) (ą _) (yH0 s.heap I.big)
 refine wpAny_Dict_walk (knd:=æ X.prog X.w) hall hl h0 h15 (thn (h pins _ σ _ _ I1 (q _ hn)) fun ws s2 ⟨ps,H2,I2,rel,e,kvs,ep,lk,q2⟩=>?_)
 subst ep
 obtain ⟨rs,c,rk⟩:=zQ4 (P:=X.prog) (w:=X.w) rel
 obtain ⟨z,hd,vs0,r0,dd⟩:=ω I2.hok e
 cases r0
 refine ⟨rs,c,dd,fun h' dd' hs=>⟨.ref s.heap.objs.size,_,?_,rfl,q2⟩⟩
 have hz:(Ι [] kvs).length <= sizeLine:=by
  have h1:=zI0 kvs []
  rw [ť] at h1
  rw [sizeLine_eq]; omega
 have he:∃ q,h'.get? s.heap.objs.size = some q:=let ⟨q,_,_,hq,_⟩:=dd'; ⟨q,hq⟩
 exact zU3 I2 (by rw [e]; exact True.intro) hs he (yT8 hz hd (rk.merge .nil) dd')
structure M1 (X:Cx) (o:Expr) (m:Str) (apos:Pos) (e:Expr) (cpos:Pos):Prop where
 base:attributeBase o m X.env (eval o X.env) = eval o X.env
 few:((backTo cpos (starEach [e] X.env)).all (fun x=>!x.1) && (backToKw cpos (keywordEach [] X.env)).all (fun x=>x.1.isSome)
  && decide (([e]:List Expr).length + ([]:List Keyword).length + (if ([]:List Keyword).isEmpty then 0 else 1) < 30)) = true
 line:(apos.endLine == cpos.line) = true
 trees:backTo cpos (starEach [e] X.env) = [(false,eval e X.env)]
structure M2 (X:Cx) (o:Expr) (m:Str) (apos:Pos) (e f:Expr) (cpos:Pos):Prop where
 base:attributeBase o m X.env (eval o X.env) = eval o X.env
 few:((backTo cpos (starEach [e,f] X.env)).all (fun x=>!x.1) && (backToKw cpos (keywordEach [] X.env)).all (fun x=>x.1.isSome)
  && decide (([e,f]:List Expr).length + ([]:List Keyword).length + (if ([]:List Keyword).isEmpty then 0 else 1) < 30)) = true
 line:(apos.endLine == cpos.line) = true
 trees:backTo cpos (starEach [e,f] X.env) = [(false,eval e X.env),(false,eval f X.env)]
noncomputable def IsD (H:Hp) (a:Addr):Prop:=(∃ kvs,Rd H a (.dK kvs)) \/ ∃ kvs,Rd H a (.dT kvs)
theorem xC7 {X:Cx} {pins:List (Addr × Obj)} {σ:St} {H:Hp} {s:Shared} {a:Addr} (I:Inv X pins σ H s) (d:IsD H a) :
  s.TypeIs (.ref a) "dict" /\ (∀ b,Value.ref a = .ref b->∃ ob,s.heap.get? b = some ob /\ ob.dict = none) /\ (a == sysModules) = false:=by
 rcases d with ⟨kvs,e⟩ | ⟨kvs,e⟩
 ·obtain ⟨_,hd,vs,_,dd⟩:=yC5 I.hok e
  refine ⟨dd.typeIs,fun b q=>?_,hd⟩
  cases q
  obtain ⟨ob,_,_,h1,h2,_⟩:=dd
  exact ⟨ob,h1,h2.2.1⟩
 ·obtain ⟨_,hd,xs,_,dd⟩:=yC4 I.hok e
  refine ⟨dd.typeIs,fun b q=>?_,hd⟩
  cases q
  obtain ⟨ob,_,_,h1,h2,_⟩:=dd
  exact ⟨ob,h1,h2.2.1⟩
section
variable {X:Cx} {pins:List (Addr × Obj)} {σ:St} {H:Hp} {s:Shared} {a:Addr} {y d:V} {u r:Value} {o:Option V} {A:Around} {E:Value->Shared->Prop}
theorem xN0 {Q:Value->Shared->Prop} (hu:A.units + 1 < cLine) (I:Inv X pins σ H s) (g:DGet H a y o) (ry:RelV y u) (rd:RelV d r) (h:∀ w' s',Inv X pins σ H s'->RelV (o.getD d) w'->Q w' s') :
  wpAny (model X.prog X.w) A (call (.builtin "dict.get") [.ref a,u,r]) Q E s:=by
 rcases g with ⟨kvs,k,e,ey,l⟩ | ⟨kvs,k,b,e,ey,eb,l⟩
 ·subst ey
  obtain ⟨z,hd,vs,rel,dd⟩:=yC5 I.hok e
  refine call_meetsIn PySem.F.slot_dict_get dd.typeIs PySem.F.entry_dict_get (PySem.F.args_dict_get_3 _ _ _) (meets_dict_get_default (æ X.prog X.w) a (zY4 ry) hd r) ⟨_,dd.mapOf,h _ _ (I.tok _) ?_⟩
  rw [l]
  exact (rel.val k).getD rd
 ·subst ey
  cases (show u = Value.ref b from ry)
  obtain ⟨z,hd,xs,rel,dd⟩:=yC4 I.hok e
  refine call_meetsIn PySem.F.slot_dict_get dd.typeIs PySem.F.entry_dict_get (PySem.F.args_dict_get_3 _ _ _) (meetsH_dict_get_default (tupleKind (æ X.prog X.w)) a b hd r) ⟨tupleKind_room_in1 hu,k,xs,zQ2 I.hok eb,dd,h _ _ (I.tok _) ?_⟩
  rw [l]
  exact (rel.val k).getD rd
end
noncomputable def xI5 (td ty tx:TE):TE:=fun σ H Q=>td σ H fun x H1=>∃ a,x = .ref a /\ IsD H1 a /\ ty σ H1 fun y H2=>tx σ H2 fun z H3=>∃ o,DGet H3 a y o /\ Q (o.getD z) H3
noncomputable def xI3 (td ty:TE):TE:=fun σ H Q=>td σ H fun x H1=>∃ a,x = .ref a /\ IsD H1 a /\ ty σ H1 fun y H2=>∃ kvs k v,H2 a = some (.dK kvs) /\ y = kV k /\ valV kvs k = some v /\ Q v (upd H2 a (.dK (ψ kvs k)))
section
variable {X:Cx} {o e f:Expr} {apos cpos:Pos} {td ty tx:TE}
theorem zR7 (hu:X.A.units + 1 < cLine) (ho:PE X o td) (he:PE X e ty) (hf:PE X f tx) (m:M2 X o "get" apos e f cpos):PE X (.Call (.Attribute o "get" apos) [e,f] [] cpos) (xI5 td ty tx):=by
 intro pins s σ H Q I h
 refine wpAny_Call_method m.base m.few m.line PySem.F.plainAttrs_dict PySem.F.slot_dict_get PySem.F.type_dict_get (thn (ho pins s σ H _ I h) fun u s1 ⟨x,H1,I1,rx,a,ex,d,q1⟩=>?_)
 subst ex
 obtain rfl:u = Value.ref a:=rx
 obtain ⟨t1,t2,_⟩:=xC7 I1 d
 refine ⟨t1,t2,?_⟩
 rw [m.trees]
 refine Calls.callWith_builtin rfl (Calls.evalArgs_plain (Calls.spliced_cons (thn (he pins s1 σ H1 _ I1 q1) fun iv s2 ⟨y,H2,I2,ry,q2⟩ =>
  Calls.spliced_cons (thn (hf pins s2 σ H2 _ I2 q2) fun fv s3 ⟨z,H3,I3,rz,ov,g,q3⟩=>Calls.spliced_nil ?_))))
 exact xN0 hu I3 g ry rz fun w' s4 I4 rw'=>⟨_,H3,I4,rw',q3⟩
theorem yX3 (ho:PE X o td) (he:PE X e ty) (m:M1 X o "pop" apos e cpos):PE X (.Call (.Attribute o "pop" apos) [e] [] cpos) (xI3 td ty):=by
 intro pins s σ H Q I h
 refine wpAny_Call_method m.base m.few m.line PySem.F.plainAttrs_dict PySem.F.slot_dict_pop PySem.F.type_dict_pop (thn (ho pins s σ H _ I h) fun u s1 ⟨x,H1,I1,rx,a,ex,d,q1⟩=>?_)
 subst ex
 obtain rfl:u = Value.ref a:=rx
 obtain ⟨t1,t2,_⟩:=xC7 I1 d
 refine ⟨t1,t2,?_⟩
 rw [m.trees]
 refine Calls.callWith_builtin rfl (Calls.evalArgs_plain (Calls.spliced_cons (thn (he pins s1 σ H1 _ I1 q1) fun iv s2 ⟨y,H2,I2,ry,kvs,k,v,ea,ey,l,q2⟩=>Calls.spliced_nil ?_)))
 subst ey
 exact xR0 I2 ea ry l (.inl rfl) fun w' s3 I3 rw'=>⟨v,_,I3,rw',q2⟩
end
end L2
namespace HT
open PySem PyProof.Rows
section
variable {prog:Program} {w:World} {A:Around} {E:Value->Shared->Prop} {s:Shared}
noncomputable def sIx (n d:Nat):Option Int->Nat
 | none=>d
 | some v=>if v < 0 then (v + (n:Int)).toNat else min v.toNat n
theorem sIx_nat (n d k:Nat):sIx n d (some (k:Int)) = min k n:=by
 show (if (k:Int) < 0 then ((k:Int) + (n:Int)).toNat else min (k:Int).toNat n) = min k n
 rw [if_neg (by omega),Œ]
end
end HT
namespace L2
open PySem PySem.Spec PyProof.Rows
noncomputable abbrev TO:=St->Hp->(Option Int->Hp->Prop)->Prop
noncomputable def PO (X:Cx) (e:Option Expr) (t:TO):Prop :=
 ∀ (pins:List (Addr × Obj)) (s:Shared) (σ:St) (H:Hp) (Q:Option Int->Hp->Prop),Inv X pins σ H s->t σ H Q ->
  wpAny (model X.prog X.w) X.A (evalPart e X.env) (fun u s'=>∃ o H',Inv X pins σ H' s' /\ IsPart u o /\ Q o H') X.xe s
noncomputable def xO8 (t:TE):TO:=fun σ H Q=>t σ H fun x H1=>∃ i,x = .int i /\ Q (some i) H1
section
variable {X:Cx} {e:Expr} {te:TE} {lo hi:Option Expr} {tl th:TO} {pos p2:Pos}
theorem yO8 (h:PE X e te):PO X (some e) (xO8 te):=by
 intro pins s σ H Q I hw
 rw [evalPart_some]
 refine thn (h pins s σ H _ I hw) fun u s1 ⟨x,H1,I1,r1,q1⟩=>?_
 obtain ⟨i,rfl,q⟩:=q1
 obtain ⟨t,rfl⟩:=r1
 exact ⟨some i,H1,I1,.int i t,q⟩
noncomputable def SlR (X:Cx) (r:V->Option Int->Option Int->Hp->VK->Prop):Prop :=
 ∀ (pins:List (Addr × Obj)) (s:Shared) (σ:St) (H:Hp) (x:V) (v vl vu:Value) (lo hi:Option Int) (sl:Addr) (Q:VK),Inv X pins σ H s->RelV x v->s.heap.IsSliceOf sl vl vu .none->IsPart vl lo->IsPart vu hi->r x lo hi H Q ->
  ∃ T id,typeLookup (.type T) "__getitem__" = pure (some (.builtin id)) /\ s.TypeIs v T /\ wpAny (model X.prog X.w) X.A (getItem v (.ref sl)) (EP X pins σ Q) X.xe s
noncomputable def tSl (r:V->Option Int->Option Int->Hp->VK->Prop) (te:TE) (tl th:TO):TE:=fun σ H Q=>te σ H fun x H1=>tl σ H1 fun l H2=>th σ H2 fun u H3=>r x l u H3 Q
theorem yX2 {r:V->Option Int->Option Int->Hp->VK->Prop} (hr:SlR X r) (he:PE X e te) (hl:PO X lo tl) (hu:PO X hi th):PE X (.Subscript e (.Slice lo hi none p2) pos) (tSl r te tl th):=by
 intro pins s σ H Q I h
 refine Subscript_ (thn (he pins s σ H _ I h) fun v s1 ⟨x,H1,I1,r1,q1⟩=>?_)
 refine wpAny_Slice (thn (hl pins s1 σ H1 _ I1 q1) fun vl s2 ⟨l,H2,I2,pl,q2⟩=>thn (hu pins s2 σ H2 _ I2 q2) fun vu s3 ⟨u,H3,I3,pu,q3⟩=>?_)
 rw [evalPart_none]
 refine wpAny_pure ?_
 have I4:Inv X pins σ H3 { s3 with heap:=s3.heap.push { cls:=.type "slice",data:=.fields #[vl,vu,.none] } }:=I3.kept (t':=s3.toks) fun b ob q=>Ĉ _ q
 obtain ⟨T,id,hT,ht,hg⟩:=hr pins { s3 with heap:=s3.heap.push { cls:=.type "slice",data:=.fields #[vl,vu,.none] } } σ H3 x v vl vu l u s3.heap.objs.size Q I4 r1 (Heap.IsSliceOf.new ..) pl pu q3
 show wpAny (model X.prog X.w) X.A (subscriptTail e (.Slice lo hi none p2) v (.ref s3.heap.objs.size)) (EP X pins σ Q) X.xe { s3 with heap:=s3.heap.push { cls:=.type "slice",data:=.fields #[vl,vu,.none] } }
 exact tail_any (ops:=[.ref s3.heap.objs.size,v]) ht hT hg (by with_unfolding_all rfl)
noncomputable def cutV (xs:List V) (lo hi:Option Int):List V:=(xs.drop (HT.sIx xs.length 0 lo)).take (HT.sIx xs.length xs.length hi - HT.sIx xs.length 0 lo)
theorem yC8 (xs:List V) (lo hi:Option Int):(cutV xs lo hi).length <= xs.length:=by
 unfold cutV
 rw [ē,ņ]
 omega
end
noncomputable def ixN (n:Nat) (i:Int):Option Nat:=if 0 <= i then (if i < n then some i.toNat else none) else if -(n:Int) <= i then some (i + n).toNat else none
noncomputable def atI {α:Type} (xs:List α) (i:Int):Option α:=(ixN xs.length i).bind fun j=>xs[j]?
theorem yS1 {n:Nat} {i:Int} {j:Nat} (h:ixN n i = some j):seqIndex? i n = some j /\ j < n /\ -(n:Int) <= i /\ i < n:=by
 unfold ixN at h
 by_cases h0:0 <= i
 ·rw [if_pos h0] at h
  by_cases h1:i < n
  ·rw [if_pos h1] at h
   have e:i.toNat = j:=Option.some.inj h
   exact ⟨by rw [seqIndex_of h0 h1,e],by omega,by omega,h1⟩
  ·rw [if_neg h1] at h; cases h
 ·rw [if_neg h0] at h
  by_cases h1:-(n:Int) <= i
  ·rw [if_pos h1] at h
   have e:(i + n).toNat = j:=Option.some.inj h
   exact ⟨by rw [seqIndex_neg (by omega) h1,e],by omega,h1,by omega⟩
  ·rw [if_neg h1] at h; cases h
theorem yD3 {α:Type} {xs:List α} {i:Int} {v:α} (h:atI xs i = some v):∃ j,seqIndex? i xs.length = some j /\ xs[j]? = some v /\ j < xs.length /\ -(xs.length:Int) <= i /\ i < xs.length:=by
 unfold atI at h
 cases e:ixN xs.length i with
 | none=>rw [e] at h; cases h
 | some j =>
  rw [e] at h
  obtain ⟨h1,h2,h3,h4⟩:=yS1 e
  exact ⟨j,h1,h,h2,h3,h4⟩
theorem zK7 {α:Type} {xs:List α} {j:Nat} {v:α} (h:xs[j]? = some v):atI xs (j:Int) = some v:=by
 have hj:j < xs.length:=(Ą.mp h).1
 have e:ixN xs.length (j:Int) = some j:=by
  unfold ixN
  rw [if_pos (by omega),if_pos (by omega)]; simp
 unfold atI; rw [e]; exact h
noncomputable def yD4 (b:Expr):Prop:=∀ o i,subscripted b false o i = operate [o,i] (getItem o i)
noncomputable def IxR (X:Cx) (r:R2):Prop :=
 ∀ (value slice:Expr) (pins:List (Addr × Obj)) (s:Shared) (σ:St) (H:Hp) (x y:V) (v u:Value) (Q:VK),Inv X pins σ H s->RelV x v->RelV y u->r x y H Q ->
  subscripted slice false v u = operate [v,u] (getItem v u)->wpAny (model X.prog X.w) X.A (subscriptTail value slice v u) (EP X pins σ Q) X.xe s
noncomputable def MtR (X:Cx) (id:String) (r:V->List V->Hp->VK->Prop):Prop :=
 ∀ (pins:List (Addr × Obj)) (s:Shared) (σ:St) (H:Hp) (x:V) (xs:List V) (v:Value) (us:List Value) (Q:VK),Inv X pins σ H s->RelV x v->Vals xs us->r x xs H Q ->
  wpAny (model X.prog X.w) X.A (call (.builtin id) (v :: us)) (EP X pins σ Q) X.xe s
section
variable {X:Cx} {a b:Expr} {ta tb:TE} {pos:Pos}
theorem xF2 {r:R2} (hr:IxR X r) (ha:PE X a ta) (hb:PE X b tb) (hs:yD4 b):PE X (.Subscript a b pos) (tOp r ta tb):=by
 intro pins s σ H Q I h
 exact Subscript_ (binT ha hb I h fun v u s2 x y H2 I2 rx ry q=>hr a b pins s2 σ H2 x y v u Q I2 rx ry q (hs _ _))
noncomputable def rIxL (K:Ā):R2:=fun x y H Q=>∃ p xs i v,x = .ref p /\ y = .int i /\ SqL K H p xs /\ atI xs i = some v /\ Q v H
noncomputable def rIxT (K:Ā):R2:=fun x y H Q=>∃ p xs i v,x = .ref p /\ y = .int i /\ SqT K H p xs /\ atI xs i = some v /\ Q v H
noncomputable def rIxS:R2:=fun x y H Q=>∃ z i c,x = .str z /\ y = .int i /\ z.length <= sizeLine /\ atI z.cps.toList i = some c /\ Q (.str ⟨#[c]⟩) H
theorem xG8:IxR X (rIxL X.K):=by
 intro value slice pins s σ H x y v u Q I rx ry h hs
 obtain ⟨p,xs,i,z,rfl,rfl,hq,he,q⟩:=h
 cases rx
 obtain ⟨t,rfl⟩:=ry
 obtain ⟨its,r,pl,hz⟩:=I.list hq
 obtain ⟨j,h1,h2,h3,h4,h5⟩:=yD3 he
 obtain ⟨w,ew,rw'⟩:=r.get h2
 have hl:=r.length
 have hn:=zY2
 have fin:EP X pins σ Q w s:=⟨z,H,I,rw',q⟩
 by_cases h0:0 <= i
 ·have hj:i.toNat = j:=by
   rw [seqIndex_of h0 h5] at h1
   exact Option.some.inj h1
  exact item_listR pl.isList h0 (by omega) (by rw [hj]; simpa using ew) fin hs
 ·have hj:(i + (its.toArray.size:Int)).toNat = j:=by
   rw [seqIndex_neg (by omega) h4] at h1
   rw [ę,<- hl]
   exact Option.some.inj h1
  exact subscriptTail_builtinR (x:=w) pl.isList.typeIs slot_list_getitem.lookup
   (wpAny_getItem_list_neg (Q:=fun r s'=>r = w /\ EP X pins σ Q r s') pl.isList (by omega) (by rw [ę] <;> omega) (by omega) (by rw [hj]; simpa using ew) ⟨rfl,fin⟩) hs
theorem xL8:IxR X (rIxT X.K):=by
 intro value slice pins s σ H x y v u Q I rx ry h hs
 obtain ⟨p,xs,i,z,rfl,rfl,hq,he,q⟩:=h
 cases rx
 obtain ⟨t,rfl⟩:=ry
 obtain ⟨its,r,pl,hz⟩:=I.tuple hq
 obtain ⟨j,h1,h2,h3,h4,h5⟩:=yD3 he
 obtain ⟨w,ew,rw'⟩:=r.get h2
 have hl:=r.length
 have hn:=zY2
 have fin:EP X pins σ Q w s:=⟨z,H,I,rw',q⟩
 exact subscriptTail_builtinR (x:=w) pl.typeIs slot_tuple_getitem.lookup
  (getItem_tuple (j:=j) (Q:=fun r s'=>r = w /\ EP X pins σ Q r s') pl (by omega) (by omega) (by rw [ę,<- hl]; exact h1) (by simpa using ew) ⟨rfl,fin⟩) hs
theorem xL9:IxR X rIxS:=by
 intro value slice pins s σ H x y v u Q I rx ry h hs
 obtain ⟨z,i,c,rfl,rfl,hz,he,q⟩:=h
 obtain ⟨t,rfl⟩:=rx
 obtain ⟨t',rfl⟩:=ry
 obtain ⟨j,h1,h2,h3,h4,h5⟩:=yD3 he
 have hl:z.cps.toList.length = z.length:=by simp [Str.length]
 rw [hl] at h1 h4 h5
 have hn:=zY2
 exact tail_any (typeIs_str s z t) slot_str_getitem.lookup (getItem_str (c:=c) (by
  have e1:decide (i < -(2 ^ 63:Int)) = false:=decide_eq_false (by omega)
  have e2:decide (i ≥ 2 ^ 63) = false:=decide_eq_false (by omega)
  rw [e1,e2,Bool.or_false]) (by rw [h1]; simpa using h2) ⟨.str ⟨#[c]⟩,H,I.tok _,⟨_,rfl⟩,q⟩) hs
theorem yJ7 (its:List Value) (n j:Nat) (u:Value):Obj.mapSeq (·.setIfInBounds j u) { cls:=.type "list",data:=.seq its.toArray n } = { cls:=.type "list",data:=.seq (its.set j u).toArray n }:=by
 simp [Obj.mapSeq]
theorem Inv.lst {pins:List (Addr × Obj)} {σ:St} {H:Hp} {s:Shared} {p:Addr} {xs:List V} (I:Inv X pins σ H s) (h:H p = some (.lst xs)) :
  ∃ (its:List Value) (n:Nat),Vals xs its /\ s.heap.get? p = some { cls:=.type "list",data:=.seq its.toArray n } /\ xs.length <= sizeLine:=by
 obtain ⟨z,its,n,r,e⟩:=I.hok p _ h
 exact ⟨its,n,r,e,z⟩
theorem Inv.lstUpd {pins:List (Addr × Obj)} {σ:St} {H:Hp} {s:Shared} {p:Addr} {xs ys:List V} {its its':List Value} {n n':Nat} {f:Obj->Obj} (I:Inv X pins σ H s) (h:H p = some (.lst xs))
  (ho:s.heap.get? p = some { cls:=.type "list",data:=.seq its.toArray n }) (hf:f { cls:=.type "list",data:=.seq its.toArray n } = { cls:=.type "list",data:=.seq its'.toArray n' }) (r:Vals ys its') (hz:ys.length <= sizeLine) (t:Nat) :
  Inv X pins σ (upd H p (.lst ys)) { s with heap:=s.heap.update p f,toks:=t }:=by
 have e:(s.heap.update p f).get? p = some { cls:=.type "list",data:=.seq its'.toArray n' }:=by
  rw [Heap.get?_update_self f ho (by rw [hf] <;> rfl),hf]
 refine I.write (x:=p) (e:=p) (by rw [h]; trivial) (.inl rfl) (fun b u hb q=>(Heap.get?_update_other _ _ (Ne.symm hb)).trans q) ⟨_,e⟩ ?_
 exact ⟨hz,its',n',r,e⟩
noncomputable def xP7:V->V->V->Hp->(Hp->Prop)->Prop:=fun o i v H Q=>∃ p xs k j,o = .ref p /\ i = .int k /\ H p = some (.lst xs) /\ ixN xs.length k = some j /\ Q (upd H p (.lst (xs.set j v)))
theorem yE7:PSet X xP7:=by
 intro pins s σ H o i v ov iv u Q I ro ri rv h
 obtain ⟨p,xs,k,j,rfl,rfl,hp,hj,q⟩:=h
 cases ro
 obtain ⟨t,rfl⟩:=ri
 obtain ⟨its,n,r,ho,hz⟩:=I.lst hp
 obtain ⟨h1,h2,h3,h4⟩:=yS1 hj
 have hl:=r.length
 have hn:=zY2
 have I':Inv X pins σ (upd H p (.lst (xs.set j v))) { s with heap:=s.heap.update p (Obj.mapSeq (·.setIfInBounds j u)) } :=
  I.lstUpd hp ho (yJ7 its n j u) (r.set rv j) (by rw [List.length_set]; exact hz) s.toks
 by_cases h0:0 <= k
 ·have hk:k.toNat = j:=by
   rw [seqIndex_of h0 h4] at h1
   exact Option.some.inj h1
  exact PySem.W.ki_setAt ho h0 (by omega) (by rw [ę,<- hl]; exact h4) (by rw [hk]; exact ⟨_,I',q⟩)
 ·have hk:(k + (its.toArray.size:Int)).toNat = j:=by
   rw [seqIndex_neg (by omega) h3] at h1
   rw [ę,<- hl]
   exact Option.some.inj h1
  exact PySem.W.ki_setBack ho (by omega) (by rw [ę,<- hl]; exact h3) (by omega) (by rw [hk]; exact ⟨_,I',q⟩)
theorem zW5 (lo hi:Option Int) (n:Nat):(sliceBounds lo hi none n).1 = ((HT.sIx n 0 lo:Nat):Int) /\ (sliceBounds lo hi none n).2.1 = ((HT.sIx n n hi:Nat):Int) /\ (sliceBounds lo hi none n).2.2 = 1:=by
 refine ⟨?_,?_,rfl⟩
 ·cases lo with
  | none=>simp [sliceBounds,HT.sIx]
  | some i =>
   simp only [sliceBounds,HT.sIx,Option.getD_none,show (1:Int) > 0 by decide,if_true]
   by_cases h:i < 0
   ·simp only [h,if_true] <;> omega
   ·simp only [h,if_false] <;> omega
 ·cases hi with
  | none=>simp [sliceBounds,HT.sIx]
  | some i =>
   simp only [sliceBounds,HT.sIx,Option.getD_none,show (1:Int) > 0 by decide,if_true]
   by_cases h:i < 0
   ·simp only [h,if_true] <;> omega
   ·simp only [h,if_false] <;> omega
theorem zR3 (its:List Value) (lo hi:Option Int):slicePick its.toArray lo hi none = ((its.drop (HT.sIx its.length 0 lo)).take (HT.sIx its.length its.length hi - HT.sIx its.length 0 lo)).toArray:=by
 obtain ⟨h1,h2,h3⟩:=zW5 lo hi its.toArray.size
 unfold slicePick
 rw [h1,h2,h3]
 simp only [sliceRange_one,pick_run,ę] <;> rfl
noncomputable def rSlL (K:Ā):V->Option Int->Option Int->Hp->VK->Prop:=fun x lo hi H Q=>∃ a xs,x = .ref a /\ SqL K H a xs /\ ∀ p,H p = none->Q (.ref p) (upd H p (.lst (cutV xs lo hi)))
theorem xE3:SlR X (rSlL X.K):=by
 intro pins s σ H x v vl vu lo hi sl Q I rx hs pl pu h
 obtain ⟨a,xs,rfl,hx,q⟩:=h
 cases rx
 obtain ⟨its,r,ht,hz⟩:=I.list hx
 have hlen:=r.length
 refine ⟨"list",_,slot_list_getitem.lookup,ht.isList.typeIs,?_⟩
 refine wpAny_getItem_list_slice ht.isList hs pl pu .none (by simp) ?_ (by rw [ę] <;> omega)
 rw [zR3,<- hlen]
 refine ⟨.ref s.heap.objs.size,_,I.laid (t':=s.toks) (o:=.lst (cutV xs lo hi)) (fun b ob q=>Ĉ _ q) (ą _) ?_,rfl,q _ (I.hok.fresh (ą _))⟩
 exact ⟨č (yC8 xs lo hi) hz,_,0,(r.drop (HT.sIx xs.length 0 lo)).take (HT.sIx xs.length xs.length hi - HT.sIx xs.length 0 lo),Ĕ _ rfl⟩
theorem zZ6:Υ X (.type "list") (fun xs H Q=>∃ p ys,xs = [.ref p] /\ (SqL X.K H p ys \/ SqT X.K H p ys) /\ ∀ l,H l = none->Q (.ref l) (upd H l (.lst ys))):=by
 intro pins s σ H xs us Q I r h
 obtain ⟨p,ys,rfl,hq,q⟩:=h
 obtain ⟨u,rfl,rx⟩:=ν r
 cases rx
 have fin:∀ (its:List Value),Vals ys its->ys.length <= sizeLine->∀ (h':Heap) (c':Nat),(∀ b o',s.heap.get? b = some o'->h'.get? b = some o') ->
   h'.get? s.heap.objs.size = some { cls:=.type "list",dict:=none,data:=.seq its.toArray c',slots:=#[] }->EP X pins σ Q (.ref s.heap.objs.size) { s with heap:=h' }:=fun its r' hz h' c' kp e =>
  ⟨.ref s.heap.objs.size,_,I.laid (t':=s.toks) kp (ą _) (show ObjOk X.prog X.w _ h' _ (.lst ys) from ⟨hz,its,c',r',e⟩),rfl,q _ (I.hok.fresh (ą _))⟩
 rcases hq with hq | hq
 ·obtain ⟨its,r',pl,hz⟩:=I.list hq
  have hlen:=r'.length
  obtain ⟨o,ho,hc,n,hd⟩:=pl.isList
  exact call_list_seq p (.inl rfl) ho hc hd (fun h' c' kp e=>fin its r' hz h' c' kp e) (by simp only [ę] <;> omega)
 ·obtain ⟨its,r',pl,hz⟩:=I.tuple hq
  have hlen:=r'.length
  obtain ⟨o,ho,hc,n,hd⟩:=pl
  exact call_list_seq p (.inr rfl) ho hc hd (fun h' c' kp e=>fin its r' hz h' c' kp e) (by simp only [ę] <;> omega)
noncomputable def tyV (K:Ā) (T:String) (x:V) (H:Hp):Prop:=match x with
 | .str _=>T = "str"
 | .int _=>T = "int"
 | .ref p=>(T = "list" /\ ∃ xs,SqL K H p xs) \/ (T = "tuple" /\ ∃ o,K.lookup p = some o /\ o.cls = .type "tuple" /\ o.dict = none) \/
   (T = "dict" /\ ((∃ kvs,H p = some (.dK kvs)) \/ ∃ kvs,H p = some (.dT kvs))) \/ (T = "set" /\ ∃ S n,H p = some (.set S n))
 | _=>False
theorem xA6 {pins:List (Addr × Obj)} {σ:St} {H:Hp} {s:Shared} {T:String} {x:V} {v:Value} (I:Inv X pins σ H s) (r:RelV x v) (ty:tyV X.K T x H) :
  s.TypeIs v T /\ ∀ a,v = .ref a->∃ ob,s.heap.get? a = some ob /\ ob.dict = none:=by
 cases x with
 | str z =>
  obtain ⟨t,rfl⟩:=r
  cases (show T = "str" from ty)
  exact ⟨typeIs_str s z t,fun _ e=>nomatch e⟩
 | int i =>
  obtain ⟨t,rfl⟩:=r
  cases (show T = "int" from ty)
  exact ⟨typeIs_int s i t,fun _ e=>nomatch e⟩
 | ref p =>
  cases r
  rcases ty with ⟨rfl,xs,hq⟩ | ⟨rfl,o,hk,hc,hd⟩ | ⟨rfl,hk⟩ | ⟨rfl,S,n,hk⟩
  ·obtain ⟨its,_,pl,_⟩:=I.list hq
   refine ⟨pl.isList.typeIs,fun a e=>?_⟩
   cases e
   obtain ⟨o,n,e,c,hd,_⟩:=pl
   exact ⟨o,e,hd⟩
  ·refine ⟨⟨o,I.kIn p o hk,hc⟩,fun a e=>?_⟩
   cases e
   exact ⟨o,I.kIn _ o hk,hd⟩
  ·have z:∃ o,s.heap.get? p = some o /\ o.ExactDict:=by
    rcases hk with ⟨kvs,hk⟩ | ⟨kvs,hk⟩
    ·obtain ⟨_,_,_,_,o,_,_,e,ex,_⟩:=I.hok p _ hk
     exact ⟨o,e,ex⟩
    ·obtain ⟨_,_,_,_,o,_,_,e,ex,_⟩:=I.hok p _ hk
     exact ⟨o,e,ex⟩
   obtain ⟨o,e,ex⟩:=z
   refine ⟨⟨o,e,ex.1⟩,fun a e2=>?_⟩
   cases e2
   exact ⟨o,e,ex.2.1⟩
  ·obtain ⟨o,_,_,_,e,ex,_⟩:=I.hok p _ hk
   refine ⟨⟨o,e,ex.1⟩,fun a e2=>?_⟩
   cases e2
   exact ⟨o,e,ex.2.1⟩
 | _=>exact False.elim ty
noncomputable def tBM0 (K:Ā) (T:String) (r:V->List V->Hp->VK->Prop) (to:TE):TE:=fun σ H Q=>to σ H fun x H1=>tyV K T x H1 /\ r x [] H1 Q
noncomputable def tBM (K:Ā) (T:String) (r:V->List V->Hp->VK->Prop) (to:TE) (t:TA):TE:=fun σ H Q=>to σ H fun x H1=>tyV K T x H1 /\ t σ H1 fun xs H2=>r x xs H2 Q
variable {o e:Expr} {es:List Expr} {to:TE} {t:TA} {name:Str} {apos cpos:Pos} {T id:String} {r:V->List V->Hp->VK->Prop}
theorem xK2 (pa:PlainAttrs T) (slot:Slot T name id) (hty:typeOf (.builtin id) = pure (.type "method_descriptor")) (hm:MtR X id r) (ho:PE X o to)
  (hbase:attributeBase o name X.env (eval o X.env) = eval o X.env:=by rfl) (hline:(apos.endLine == cpos.line) = true:=by rfl):PE X (.Call (.Attribute o name apos) [] [] cpos) (tBM0 X.K T r to):=by
 intro pins s σ H Q I h
 refine wpAny_Call_method0_late hbase hline (thn (ho pins s σ H _ I h) fun v s1 ⟨x,H1,I1,r1,ty,q1⟩=>?_)
 obtain ⟨h1,h2⟩:=xA6 I1 r1 ty
 exact ⟨T,id,pa,slot,hty,h1,h2,Calls.callWith_builtin rfl (PySem.evalArgs_none (hm pins s1 σ H1 x [] v [] Q I1 r1 .nil q1))⟩
theorem ρ (pa:PlainAttrs T) (slot:Slot T name id) (hty:typeOf (.builtin id) = pure (.type "method_descriptor")) (hm:MtR X id r) (ho:PE X o to) (ha:PA X (e :: es) t)
  (hbase:attributeBase o name X.env (eval o X.env) = eval o X.env:=by rfl)
  (hfew:((backTo cpos (starEach (e :: es) X.env)).all (fun x=>!x.1) && (backToKw cpos (keywordEach [] X.env)).all (fun x=>x.1.isSome)
   && decide ((e :: es).length + ([]:List Keyword).length + (if ([]:List Keyword).isEmpty then 0 else 1) < 30)) = true:=by rfl)
  (hline:(apos.endLine == cpos.line) = true:=by rfl) (hs:starEach (e :: es) X.env = (false,eval e X.env) :: starEach es X.env:=by rfl) (hplain:(backTo cpos (starEach es X.env)).any (·.1) = false:=by rfl) :
  PE X (.Call (.Attribute o name apos) (e :: es) [] cpos) (tBM X.K T r to t):=by
 intro pins s σ H Q I h
 refine wpAny_Call_method_late hbase hfew hline rfl (thn (ho pins s σ H _ I h) fun v s1 ⟨x,H1,I1,r1,ty,q1⟩=>?_)
 obtain ⟨h1,h2⟩:=xA6 I1 r1 ty
 refine ⟨T,id,pa,slot,hty,h1,h2,?_⟩
 have hA:=ha cpos pins s1 σ H1 _ I1 q1
 rw [hs] at hA ⊢
 refine Calls.callWith_builtin (by show (false || (backTo cpos (starEach es X.env)).any (·.1)) = false; rw [hplain] <;> rfl) (Calls.evalArgs_plain ?_)
 exact thn hA fun us s2 ⟨vs,H2,I2,r2,q2⟩=>hm pins s2 σ H2 x vs v us Q I2 r1 r2 q2
end
noncomputable def MtM (X:Cx) (id:String) (r:V->List V->Hp->VK->Prop):Prop :=
 ∀ (pins:List (Addr × Obj)) (s:Shared) (σ:St) (H:Hp) (x:V) (xs:List V) (v:Value) (us:List Value) (Q:VK),Inv X pins σ H s->RelV x v->Vals xs us->r x xs H Q ->
  wpAny (model X.prog X.w) X.A (call (.builtin id) (v :: us)) (EP X pins σ Q) X.xe s
theorem Vals.one:∀ {x:V} {us:List Value},Vals [x] us->∃ u,us = [u] /\ RelV x u
 | _,_,.cons r .nil=>⟨_,rfl,r⟩
theorem Vals.zero:∀ {us:List Value},Vals [] us->us = []
 | _,.nil=>rfl
theorem Vals.reverse {xs:List V} {us:List Value} (h:Vals xs us):Vals xs.reverse us.reverse:=by
 induction h with
 | nil=>exact .nil
 | cons r t ih=>rw [List.reverse_cons,List.reverse_cons]; exact Vals.append ih (.cons r .nil)
section
variable {X:Cx} {pins:List (Addr × Obj)} {σ:St} {H:Hp} {s:Shared} {l b:Addr} {xs ys zs:List V}
theorem Inv.lset {its its':List Value} {n:Nat} {f:Array Value->Array Value} {t':Nat} (I:Inv X pins σ H s) (hH:H l = some (.lst xs))
  (e:s.heap.get? l = some { cls:=.type "list",data:=.seq its.toArray n }) (hf:f its.toArray = its'.toArray) (hv:Vals ys its') (hz:ys.length <= sizeLine) :
  Inv X pins σ (upd H l (.lst ys)) { s with heap:=s.heap.update l (Obj.mapSeq f),toks:=t' }:=by
 have q:=PySem.IsL.update e f
 rw [hf] at q
 refine I.write (x:=l) (e:=l) (by rw [hH]; exact trivial) (.inl rfl) (fun b' u hb hu=>(Heap.get?_update_other s.heap (Obj.mapSeq f) (Ne.symm hb)).trans hu) ⟨_,q⟩ ?_
 exact ⟨hz,its',_,hv,q⟩
theorem Inv.lnew {its:List Value} {t':Nat} (I:Inv X pins σ H s) (hv:Vals ys its) (hz:ys.length <= sizeLine) :
  Inv X pins σ (upd H s.heap.objs.size (.lst ys)) { s with heap:=s.heap.push { cls:=.type "list",data:=.seq its.toArray },toks:=t' } :=
 I.laid (fun _ _ q=>Ĉ _ q) (ą _) ⟨hz,its,0,hv,Ĕ _ rfl⟩
theorem Inv.fresh (I:Inv X pins σ H s):H s.heap.objs.size = none:=I.hok.fresh (ą _)
theorem Inv.lstM (I:Inv X pins σ H s) (hH:H l = some (.lst xs)):xs.length <= sizeLine /\ ∃ (its:List Value) (n:Nat),Vals xs its /\ xs.length = its.length /\ s.heap.get? l = some { cls:=.type "list",data:=.seq its.toArray n }:=by
 obtain ⟨z,its,n,r,e⟩:=I.hok l _ hH
 exact ⟨z,its,n,r,r.length,e⟩
end
section
variable {X:Cx}
noncomputable def xE7:V->List V->Hp->VK->Prop:=fun x vs H Q=>∃ l xs y,x = .ref l /\ vs = [y] /\ H l = some (.lst xs) /\ xs.length < sizeLine /\ Q .non (upd H l (.lst (xs ++ [y])))
theorem û:MtM X "list.append" xE7:=by
 intro pins s σ H x vs v us Q I rx rv h
 obtain ⟨l,xs,y,rfl,rfl,hH,hz,q⟩:=h
 cases rx
 obtain ⟨u,rfl,ru⟩:=rv.one
 obtain ⟨z,its,n,r,hl,e⟩:=I.lstM hH
 refine call_meets F.slot_list_append ⟨_,e,rfl⟩ F.entry_list_append (F.args_list_append_2 _ _) (PySem.list_append l its.toArray n u (by rw [ę]; omega)) ⟨e,?_⟩
 refine ⟨.non,_,I.lset (its':=its ++ [u]) hH e (by simp) (r.append (.cons ru .nil)) ?_,rfl,q⟩
 rw [Ĝ,ś]
 omega
noncomputable def yW7:V->List V->Hp->VK->Prop:=fun x vs H Q=>∃ l xs,x = .ref l /\ vs = [] /\ H l = some (.lst xs) /\ Q .non (upd H l (.lst xs.reverse))
theorem yJ6:MtM X "list.reverse" yW7:=by
 intro pins s σ H x vs v us Q I rx rv h
 obtain ⟨l,xs,rfl,rfl,hH,q⟩:=h
 cases rx
 have hus:=rv.zero
 subst hus
 obtain ⟨z,its,n,r,hl,e⟩:=I.lstM hH
 refine call_meets F.slot_list_reverse ⟨_,e,rfl⟩ F.entry_list_reverse (F.args_list_reverse_1 _) (AutoSeq1.list_reverse_list_0 l its.toArray n (by rw [ę]; omega)) ⟨e,?_⟩
 refine ⟨.non,_,I.lset (its':=its.reverse) hH e (by simp) r.reverse ?_,rfl,q⟩
 rw [List.length_reverse]
 omega
noncomputable def xJ5:V->List V->Hp->VK->Prop:=fun x vs H Q=>∃ l xs,x = .ref l /\ vs = [] /\ H l = some (.lst xs) /\ Q .non (upd H l (.lst []))
theorem yY1:MtM X "list.clear" xJ5:=by
 intro pins s σ H x vs v us Q I rx rv h
 obtain ⟨l,xs,rfl,rfl,hH,q⟩:=h
 cases rx
 have hus:=rv.zero
 subst hus
 obtain ⟨z,its,n,r,hl,e⟩:=I.lstM hH
 refine call_meets F.slot_list_clear ⟨_,e,rfl⟩ F.entry_list_clear (F.args_list_clear_1 _) (AutoSeq1.list_clear_list_0 l its.toArray n (by rw [ę]; omega)) ⟨e,?_⟩
 exact ⟨.non,_,I.lset (its':=[]) (ys:=[]) hH e rfl .nil (Ī _),rfl,q⟩
noncomputable def rCat:R2:=fun x y H Q=>∃ l b xs zs,x = .ref l /\ y = .ref b /\ H l = some (.lst xs) /\ H b = some (.lst zs) /\ xs.length + zs.length <= sizeLine /\ ∀ p,H p = none->Q (.ref p) (upd H p (.lst (xs ++ zs)))
theorem xC3:OpR X (binaryOp .Add) rCat:=by
 intro pins s σ H x y v u Q I rx ry h
 obtain ⟨l,b,xs,zs,rfl,rfl,hH,hB,hz,q⟩:=h
 cases rx
 cases ry
 obtain ⟨z,its,n,r,hl,e⟩:=I.lstM hH
 obtain ⟨z2,its2,n2,r2,hl2,e2⟩:=I.lstM hB
 refine PySem.P.add_list e e2 ?_ (by rw [ę,ę]; omega)
 have ea:its.toArray ++ its2.toArray = (its ++ its2).toArray:=by simp
 rw [ea]
 exact ⟨.ref _,_,I.lnew (t':=s.toks) (r.append r2) (by rw [Ĝ]; omega),rfl,q _ I.fresh⟩
end
end L2
namespace Att
open PySem PySem.W PySem.Calls PyProof.Rows
theorem zO2 {P:Params} {h:Heap}:∀ (ns:List Int) (vs:List Value),WellAll P h vs (ns.map WData.int)->IntsAre vs ns:=by
 intro ns
 induction ns with
 | nil =>
  intro vs w
  rw [List.map_nil] at w
  cases w
  exact .nil
 | cons n ns ih =>
  intro vs w
  rw [ĸ] at w
  cases w with
  | cons a b =>
   cases a
   exact .cons _ _ (ih _ b)
theorem yN3 {l:OpenLaw} {n:Nat} (hn:l.most = some n) {P:Params} {h:Heap} {args:List WData} {vals:List Value}
  (hpre:l.row.toRowW.claim.pre args = true) (hwl:WellAll P h vals args) :
  ∃ a vs ns,vals = [Value.ref a] /\ args = [WData.list (ns.map WData.int)] /\ h.get? a = some { cls:=.type "list",data:=.seq vs.toArray } /\ IntsAre vs ns /\ ns.length <= n:=by
 have hsh:WShape.hasAll [] args [.list .int] = true:=(pre_splitW hpre).1
 have hc:l.pre.holds [] { args:=args } = true:=(pre_splitW hpre).2
 obtain ⟨d,r,rfl,h1,h2⟩:=hasAllW_cons hsh
 obtain rfl:=hasAllW_nil h2
 obtain ⟨xs,rfl,h3⟩:=hasW_list h1
 obtain ⟨ns,rfl⟩:=items_int h3
 have hlen:ns.length <= n:=by
  unfold OpenLaw.pre at hc
  have h4:(WTm.not (.lt (.lit (.int (n:Int))) (.len (.arg 0)))).holds [] { args:=[.list (ns.map .int)] } = true:=by
   have h4:=(holds_andW hc).1
   rw [hn] at h4
   exact h4
  have h5:=condW_of h4 (w_not (w_lt w_lit (w_len_list (w_arg rfl))))
  rw [ā] at h5
  refine Nat.le_of_not_lt fun q=>?_
  have q':(n:Int) < ((ns.length:Nat):Int):=by omega
  first
   | (rw [decide_eq_true q'] at h5; exact absurd h5 (by decide))
   | (simp at h5; omega)
 cases hwl with
 | cons w1 w2 =>
  cases w2
  cases w1 with
  | list ho hall=>exact ⟨_,_,ns,rfl,rfl,ho,zO2 ns _ hall,hlen⟩
theorem yO7 (l:OpenLaw) (args:List WData):l.row.toRowW.claim.post args (.bool true) args = true :=
 postW_of (r:=l.row.toRowW) (X:=(true == true))
  (show WShape.has [] (.bool true) .bool = true by first | rfl | decide | simp [WShape.has,WShape.arms,WShape.armsAll])
  (show (WTm.eq .res (.lit (.bool true))).value [] { args:=args,res:=some (.bool true),after:=args } = some (.bool (true == true)) from w_eq_bool (w_res rfl) w_lit) rfl
theorem attach_call {l:OpenLaw} {n:Nat} {q:Program} {loose:List Str} {XP:(Str->Option Value)->Heap->Prop} {YP:World->Heap->Prop} {d:DefRec}
  (hn:l.most = some n) (hdf:d.params.defaults = [])
  (call:∀ (w:World) (s₀ s₁:Shared) (mg mb:Str->Option Value) (fa:Addr) (o:Obj) (pm cd doc:Value) (a:Addr) (vs:List Value) (ns:List Int),
   Ground q loose [] XP w s₀ mg mb s₁.heap->YP w s₁.heap ->
   s₁.heap.get? fa = some o->o.data = .func (docDef d.name d.params d.body d.scope pm cd doc)->s₁.heap.CodeRec cd d.name->mg d.name = some (.ref fa) ->
   s₁.heap.get? a = some { cls:=.type "list",data:=.seq vs.toArray }->IntsAre vs ns->ns.length <= n->s₁.gens = #[] ->
   codeAny (model l.prog w) callerA (.call (.ref fa) ⟨[.ref a],[]⟩) (fun r s'=>r = .ok (.ret (.bool true)) /\ OldK s₁.heap s'.heap /\ s'.os = s₁.os /\ AllBare s'.gens) s₁) :
  WalkO q loose XP YP l.row.toRowW d [] (fun f vs=>PySem.call f vs):=by
 intro w s₀ s₁ mg mb G Y fa o pm cd doc dV kV ho hd hcd hD hmg hg args vals as hpre hlay hrd hwl hlo
 obtain rfl:dV = .none:=Dflts.none hD hdf
 obtain rfl:kV = .none:=Dflts.noKw hD
 obtain ⟨a,vs,ns,rfl,rfl,hobj,hints,hlen⟩:=yN3 hn hpre hwl
 refine enter_call (codeAny_mono (call w s₀ s₁ mg mb fa o pm cd doc a vs ns G Y ho (fd_plain hd) hcd hmg hobj hints hlen hg) fun r s' hq=>?_)
 obtain ⟨rfl,h2,h3,h4⟩:=hq
 exact ⟨.inl ⟨.bool true,.bool true,[],rfl,fun _=>rfl,.bool true,yO7 l _,fun _=>⟨List.Pairwise.nil,fun _ hm=>(nomatch hm)⟩⟩,h2,h3,h4⟩
end Att
namespace L2
open PySem PySem.Spec PyProof.Rows
theorem zV4:∀ {vs:List Value} {ns:List Int},IntsAre vs ns->Vals (ns.map V.int) vs
 | _,_,.nil=>.nil
 | _,_,.cons n t h=>.cons ⟨t,rfl⟩ (zV4 h)
noncomputable def Only (H:Hp):Prop:=∀ b,H b = none \/ ∃ o xs,H b = some (.frz o (.lst xs))
theorem yY2 {P:Program} {w:World} {K:Ā} {mg mb:Str->Option Value} {CX:CXT} {k:Nat} {fa a:Addr} {fd:FuncData} {x:Str} {sp:Sp} {s₁:Shared} {vs:List Value} {ns:List Int}
  (KX:K.In s₁.heap) (hns:s₁.heap.Ns mainGlobals mg) (hb:s₁.heap.Ns builtinsNs mb) (hbb:∀ x:Str,x ≠ "__name__"->mb x = bootBuiltins x) (hlim:s₁.heap.NoLimit) (hg:s₁.gens = #[])
  (ha:s₁.heap.get? a = some { cls:=.type "list",data:=.seq vs.toArray }) (hi:IntsAre vs ns) (hl:ns.length <= sizeLine) (hr:Room k callerA)
  (F:∀ base:Heap,K.In base->base.Ns mainGlobals mg->FnOk P w K mg base CX k fa fd [x] sp) (hbind:∀ (s:Shared) (u:Value),BindsTo s fd ⟨[u],[]⟩ [(x,u)])
  (hsp:∀ H:Hp,Only H->SqL K H a (ns.map V.int)->sp [.ref a] H (fun v _=>v = .bl true) fun _ _ _=>False)
  (hCX:∀ H e s',CX [] H s₁ (fun _ _ _=>False) e s'->False) :
  codeAny (model P w) callerA (.call (.ref fa) ⟨[.ref a],[]⟩) (fun r s'=>r = .ok (.ret (.bool true)) /\ OldK s₁.heap s'.heap /\ s'.os = s₁.os /\ AllBare s'.gens) s₁:=by
 have rv:=zV4 hi
 have lenV:=hi.length
 have core:∀ H:Hp,Only H->SqL K H a (ns.map V.int)->HOk P w H s₁.heap->(∀ b,H b ≠ none->b = a)->(H a ≠ none->K.lookup a = none) ->
   codeAny (model P w) callerA (.call (.ref fa) ⟨[.ref a],[]⟩) (fun r s'=>r = .ok (.ret (.bool true)) /\ OldK s₁.heap s'.heap /\ s'.os = s₁.os /\ AllBare s'.gens) s₁:=by
  intro H hO hS hok hA hK
  have base_of:∀ {b:Addr} {o:Obj},s₁.heap.get? b = some o->H b = none->(hidT s₁.heap H).get? b = some o:=fun e n=>yY9 e n
  have noA:∀ {b:Addr} {o:Obj} {es:Array DictEntry} {ep:Nat},s₁.heap.get? b = some o->o.data = .dict es ep->H b = none:=fun {b o es ep} e d=>by
   cases q:H b with
   | none=>rfl
   | some u =>
    have e':b = a:=hA b (by rw [q]; simp)
    subst e'
    rw [ha] at e; cases e
    have d':Data.seq vs.toArray _ = Data.dict es ep:=d
    cases d'
  have nsK:∀ {b:Addr} {m:Str->Option Value},s₁.heap.Ns b m->(hidT s₁.heap H).Ns b m:=fun {b m} ⟨o,es,ep,e,d,r⟩=>⟨o,es,ep,base_of e (noA e d),d,r⟩
  have hKb:K.In (hidT s₁.heap H):=fun b o e=>base_of (KX b o e) (by
   cases q:H b with
   | none=>rfl
   | some u =>
    have e':b = a:=hA b (by rw [q]; simp)
    subst e'
    rw [hK (by rw [q]; simp)] at e; cases e)
  have hM:Mod K mg (hidT s₁.heap H):=⟨hKb,nsK hns,⟨mb,nsK hb,hbb⟩,let ⟨mc,h1,h2⟩:=hlim; ⟨mc,nsK h1,h2⟩⟩
  have e0:Env0 P w K mg (hidT s₁.heap H) callerA [] s₁ H:=⟨rfl,hM,fun b o e=>xG1 e,Nat.le_of_eq (yS8 _ _),trivial,fun b hb=>absurd (show b ∈ ([]:List Addr) from hb) (by simp),hok,.of_eq hg⟩
  refine codeAny_mono ((F _ hKb (nsK hns)).run callerA [] s₁ H ⟨[.ref a],[]⟩ [.ref a] [.ref a] _ _ hr e0 (hbind s₁ (.ref a)) (.cons rfl .nil) (hsp H hO hS)) fun r s' h=>?_
  cases r with
  | error e=>exact (hCX H e s' h).elim
  | ok fl =>
   cases fl with
   | next=>exact False.elim h
   | brk=>exact False.elim h
   | cont=>exact False.elim h
   | ret u =>
    obtain ⟨v,H',os,bare,un,hok',r',q⟩:=h
    have q':v = .bl true:=q
    subst q'
    obtain rfl:u = Value.bool true:=r'
    refine ⟨rfl,OldK.of_keep fun b o e=>?_,os,bare⟩
    cases q:H b with
    | none=>exact un.keep b o e q (by intro z; exact absurd (show b ∈ ([]:List Addr) from z) (by simp)) (by simp)
    | some u =>
     rcases hO b with z | ⟨ob,xs,z⟩
     ·rw [q] at z; cases z
     ·have z2:=un.frzs b ob _ z
      obtain ⟨e1,_⟩:=hok b _ z
      obtain ⟨e2,_⟩:=hok' b _ z2
      rw [e] at e1; cases e1
      exact e2
 cases hk:K.lookup a with
 | some o =>
  have e:=KX a o hk
  rw [ha] at e
  cases e
  refine core (fun _=>none) (fun _=>.inl rfl) (.inr ⟨_,vs.toArray,_,hk,rfl,rfl,rfl,by rw [ę,lenV]; exact hl,by simpa using rv⟩) (fun b u z=>by have z':(none:Option HO) = some u:=z; cases z') (fun b z=>absurd rfl z) fun z=>absurd rfl z
 | none =>
  refine core (fun b=>if b = a then some (.frz { cls:=.type "list",data:=.seq vs.toArray } (.lst (ns.map V.int))) else none) (fun b=>?_) (.inl (.inr ⟨{ cls:=.type "list",data:=.seq vs.toArray },if_pos rfl⟩)) (fun b u z=>?_) (fun b z=>?_) fun _=>hk
  ·by_cases hb:b = a
   ·exact .inr ⟨_,_,if_pos hb⟩
   ·exact .inl (if_neg hb)
  ·by_cases hb:b = a
   ·have z':=(if_pos hb).symm.trans z
    cases z'
    subst hb
    exact ⟨ha,by rw [ā]; exact hl,vs,_,rv,ha⟩
   ·have z':=(if_neg hb).symm.trans z
    cases z'
  ·by_cases hb:b = a
   ·exact hb
   ·exact absurd (if_neg hb) z
theorem walk_of {l:PySem.W.OpenLaw} {n k:Nat} {q:Program} {loose:List Str} {XP:(Str->Option Value)->Heap->Prop} {YP:World->Heap->Prop} {d:DefRec} {K:Params->Ā} {CX:World->CXT} {sp:World->Sp} {x:Str}
  (hn:l.most = some n) (hn2:n <= sizeLine) (hdf:d.params.defaults = []) (hr:Room k callerA)
  (hY:∀ (w:World) (h:Heap),YP w h->(K w.params).In h)
  (F:∀ (w:World) (mg:Str->Option Value) (fa:Addr) (h:Heap),(K w.params).In h->h.Ns mainGlobals mg->mg d.name = some (.ref fa) ->
   ∃ fd:FuncData,(∀ (s:Shared) (u:Value),BindsTo s fd ⟨[u],[]⟩ [(x,u)]) /\
    ∀ base:Heap,(K w.params).In base->base.Ns mainGlobals mg->FnOk l.prog w (K w.params) mg base (CX w) k fa fd [x] (sp w))
  (hsp:∀ (w:World) (H:Hp) (a:Addr) (ns:List Int),ns.length <= n->Only H->SqL (K w.params) H a (ns.map V.int)->sp w [.ref a] H (fun v _=>v = .bl true) fun _ _ _=>False)
  (hCX:∀ (w:World) (H:Hp) (s:Shared) (e:Value) (s':Shared),CX w [] H s (fun _ _ _=>False) e s'->False) :
  PySem.W.WalkO q loose XP YP l.row.toRowW d [] (fun f vs=>PySem.call f vs):=by
 refine Att.attach_call hn hdf fun w s₀ s₁ mg mb fa o pm cd doc a vs ns G Y ho hd hcd hmg hobj hints hlen hg=>?_
 have KX:=hY w _ Y
 obtain ⟨fd,hb,hF⟩:=F w mg fa _ KX G.T.g hmg
 exact yY2 KX G.T.g G.T.b G.T.builtins G.T.nolimit hg hobj hints (č hlen hn2) hr hF hb (fun H hO hS=>hsp w H a ns hlen hO hS) fun H e s'=>hCX w H s₁ e s'
theorem walk_ofK {l:PySem.W.OpenLaw} {n k:Nat} {q:Program} {loose:List Str} {XP:(Str->Option Value)->Heap->Prop} {YP:World->Heap->Prop} {d:DefRec} {K:Params->Ā} {CX:CXT} {sp:Ā->Sp} {x:Str}
  (hn:l.most = some n) (hn2:n <= sizeLine) (hdf:d.params.defaults = []) (hr:Room k callerA)
  (hY:∀ (w:World) (h:Heap),YP w h->(K w.params).In h)
  (F:∀ (w:World) (mg:Str->Option Value) (fa:Addr) (h:Heap),(K w.params).In h->h.Ns mainGlobals mg->mg d.name = some (.ref fa) ->
   ∃ fd:FuncData,(∀ (s:Shared) (u:Value),BindsTo s fd ⟨[u],[]⟩ [(x,u)]) /\
    ∀ base:Heap,(K w.params).In base->base.Ns mainGlobals mg->FnOk l.prog w (K w.params) mg base CX k fa fd [x] (sp (K w.params)))
  (hsp:∀ (K:Ā) (H:Hp) (a:Addr) (ns:List Int),ns.length <= n->Only H->SqL K H a (ns.map V.int)->sp K [.ref a] H (fun v _=>v = .bl true) fun _ _ _=>False)
  (hCX:∀ (H:Hp) (s:Shared) (e:Value) (s':Shared),CX [] H s (fun _ _ _=>False) e s'->False) :
  PySem.W.WalkO q loose XP YP l.row.toRowW d [] (fun f vs=>PySem.call f vs) :=
 walk_of (K:=K) (CX:=fun _=>CX) (sp:=fun w=>sp (K w.params)) hn hn2 hdf hr hY F (fun w H a ns h1 h2 h3=>hsp (K w.params) H a ns h1 h2 h3) fun _ H s e s'=>hCX H s e s'
end L2
namespace L2
open PySem PySem.Spec PyProof.Rows
noncomputable def Ë (s:Stmt):Arguments:=match s with
 | .FunctionDef _ a _ _ _ _ _ _ _ _=>a
 | _=>{ posonlyargs:=[],args:=[],vararg:=none,kwonlyargs:=[],kw_defaults:=[],kwarg:=none,defaults:=[] }
noncomputable def É (s:Stmt):List Stmt:=match s with
 | .FunctionDef _ _ b _ _ _ _ _ _ _=>b
 | _=>[]
noncomputable def Å (s:Stmt):Scope:=match s with
 | .FunctionDef _ _ _ _ _ _ sc _ _ _=>sc
 | _=>{ kind:=.function,names:=[],isGenerator:=false,isCoroutine:=false }
noncomputable abbrev CX0:CXT:=fun _ _ _ _ _ _=>False
noncomputable abbrev E0:XK:=fun _ _ _=>False
theorem xP8 {X:Cx}:yA5 CX0 X E0:=fun _ _ _ _ _ _ _ h=>h.elim
structure Fun (K:Ā) (x qual:Str) (st:Stmt) (f:Addr) (fd:FuncData):Prop where
 ex:∃ (oc:Value) (od:Option Addr) (kV doc pm:Value) (an:Option Addr) (cdv ct:Value) (osl:Array (Option Value)),
  fd = Ď x qual (Ë st) (É st) (Å st) .none kV doc pm an cdv ct /\ K.lookup f = some ⟨oc,od,.func fd,osl⟩ /\ Ċ K cdv qual = true
 kp:ĉ K (.ref f) = true
section
variable {P:Program} {w:World} {K:Ā} {mg:Str->Option Value} {base:Heap}
theorem Fun.ok {x qual:Str} {st:Stmt} {f:Addr} {fd:FuncData} {N ps:List Str} {k:Nat} {sp:Sp} (F:Fun K x qual st f fd) (S:Ì N ps (Å st)) (len:∀ vs H Q E,sp vs H Q E->vs.length = ps.length)
  (hbody:∀ (cdv:Value) (A:Around) (outer:List Env) (s:Shared) (H:Hp) (vs:List V) (Q:VK) (E:XK),Room k (A.deeper (envOfC qual (Å st) s.heap.objs.size f cdv))->sp vs H Q E ->
   ∃ t,PSs (cxOf CX0 P w K mg base N qual (Å st) f cdv A outer s H E).nox (É st) t /\ t { nx:=fun _ H'=>Q .non H',rt:=Q } (start N vs) H):FnOk P w K mg base CX0 (k + 1) f fd ps sp:=by
 obtain ⟨oc,od,kV,doc,pm,an,cdv,ct,osl,rfl,lk,hcd⟩:=F.ex
 refine xM6 lk hcd S len fun A outer s H vs Q E hr hsp=>?_
 obtain ⟨t,h,q⟩:=hbody cdv A outer s H vs Q E hr hsp
 exact ⟨t,h.nox,q⟩
theorem Fun.binds {x qual:Str} {st:Stmt} {f:Addr} {fd:FuncData} {ps:List Str} (F:Fun K x qual st f fd)
  (h:∀ (kV doc pm:Value) (an:Option Addr) (cdv ct:Value) (us:List Value),us.length = ps.length->bindArgs (Ď x qual (Ë st) (É st) (Å st) .none kV doc pm an cdv ct) ⟨us,[]⟩ = pure (ps.zip us)):Binds K fd ps []:=by
 obtain ⟨oc,od,kV,doc,pm,an,cdv,ct,osl,rfl,lk,hcd⟩:=F.ex
 exact .all (h kV doc pm an cdv ct)
theorem xD0 {x qual:Str} {st:Stmt} {f:Addr} {oc:Value} {od an:Option Addr} {osl:Array (Option Value)} {kV doc pm cdv ct:Value} (l:K.lookup f = some ⟨oc,od,.func (Ď x qual (Ë st) (É st) (Å st) .none kV doc pm an cdv ct),osl⟩)
  (c:Ċ K cdv qual = true) (k:ĉ K (.ref f) = true):Fun K x qual st f (Ď x qual (Ë st) (É st) (Å st) .none kV doc pm an cdv ct):=⟨⟨oc,od,kV,doc,pm,an,cdv,ct,osl,rfl,l,c⟩,k⟩
end
theorem â {A:Around} {k:Nat} (hr:Room k A):A.units + 1 < cLine:=Ę (Nat.add_le_add_left (by decide:1 <= 64) _) hr.units
theorem zH6 {n:Nat} (h:n <= 1000):n < sizeLine:=Ę h (by decide)
section
variable {X:Cx}
theorem pv (i:Nat) {x:Str} {pos:Pos} (hN:X.N[i]? = some x:=by rfl) (hv:Vis X.env.scope x:=by first | exact Or.inl rfl | exact Or.inr (Or.inl rfl) | exact Or.inr (Or.inr rfl)) (hd:(x == ("__debug__":Str)) = false:=by decide)
  (hcd:(x == ("__classdict__":Str)) = false:=by decide):PE X (.Name x pos) (tVar i):=xJ9 hN hv hd hcd
end
theorem iteF {A B:Prop} (h:B):if false = true then A else B:=by
 rw [if_neg ĝ]
 exact h
theorem iteT {A B:Prop} (h:A):if true = true then A else B:=by
 rw [if_pos rfl]
 exact h
theorem ite2 {c A B:Prop} [Decidable c] (h1:c->A) (h2:¬ c->B):if c then A else B:=by
 by_cases h:c
 ·rw [if_pos h]
  exact h1 h
 ·rw [if_neg h]
  exact h2 h
noncomputable def Same (H H':Hp):Prop:=∀ b o,H b = some o->H' b = some o
theorem Same.refl (H:Hp):Same H H:=fun _ _ h=>h
theorem Same.trans {H H1 H2:Hp} (a:Same H H1) (b:Same H1 H2):Same H H2:=fun c o h=>b c o (a c o h)
theorem Same.free {H H':Hp} (e:Same H H') {l:Addr} (h:H' l = Option.none):H l = Option.none:=by
 cases q:H l with
 | none=>rfl
 | some o =>
  rw [e l o q] at h
  cases h
theorem Same.seq {K:Ā} {H H':Hp} {a:Addr} {xs:List V} (e:Same H H') (h:SqL K H a xs):SqL K H' a xs:=by
 rcases h with (h | ⟨o,h⟩) | h
 ·exact .inl (.inl (e _ _ h))
 ·exact .inl (.inr ⟨o,e _ _ h⟩)
 ·exact .inr h
end L2
namespace Tc
noncomputable def dv (t b:Int):Int:=if b < 0 then -(Ĵ t b:Int) else (Ĵ t b:Int)
theorem zL8 {t b:Int} (h:0 < b):0 <= t.fmod b /\ t.fmod b < b:=by
 rw [Int.fmod_eq_emod_of_nonneg _ (Int.le_of_lt h)]
 exact ⟨Int.emod_nonneg _ (by omega),Int.emod_lt_of_pos _ h⟩
theorem yG8 {t b:Int} (h:b < 0):b < t.fmod b /\ t.fmod b <= 0:=by
 have e:t.fmod b = -((-t).fmod (-b)):=by
  have h1:=Int.mul_fdiv_add_fmod t b
  have h2:=Int.mul_fdiv_add_fmod (-t) (-b)
  rw [Int.neg_fdiv_neg] at h2
  have h3:-b * t.fdiv b = -(b * t.fdiv b):=Int.neg_mul _ _
  rw [h3] at h2
  omega
 have p:=zL8 (t:=-t) (b:=-b) (by omega)
 omega
theorem yG6 (t b:Int):Ĵ b (t.fmod b) = Ĵ t b:=by
 have h1:=Int.mul_fdiv_add_fmod t b
 have e:t.fmod b = t + b * (-(t.fdiv b)):=by
  rw [Int.mul_neg]; omega
 rw [e,Int.gcd_comm,Int.gcd_add_mul_left_left]
structure Dv (t₀ b₀ t b:Int):Prop where
 g:Ĵ t b = Ĵ t₀ b₀
 p:0 < b₀->0 <= b /\ (b = 0->0 < t)
 n:b₀ < 0->b <= 0 /\ (b = 0->t < 0)
theorem Dv.start {t b:Int} (h:b ≠ 0):Dv t b t b:=⟨rfl,fun p=>⟨Int.le_of_lt p,fun e=>absurd e h⟩,fun p=>⟨Int.le_of_lt p,fun e=>absurd e h⟩⟩
theorem Dv.turn {t₀ b₀ t b:Int} (d:Dv t₀ b₀ t b) (h:b ≠ 0):Dv t₀ b₀ b (t.fmod b):=by
 refine ⟨(yG6 t b).trans d.g,fun p=>?_,fun p=>?_⟩
 ·have q:=d.p p
  have r:=zL8 (t:=t) (b:=b) (by omega)
  exact ⟨r.1,fun _=>by omega⟩
 ·have q:=d.n p
  have r:=yG8 (t:=t) (b:=b) (by omega)
  exact ⟨r.2,fun _=>by omega⟩
theorem Dv.less {t b:Int} (h:b ≠ 0):(t.fmod b).natAbs < b.natAbs:=by
 rcases Int.lt_or_gt_of_ne h with q | q
 ·have r:=yG8 (t:=t) q; omega
 ·have r:=zL8 (t:=t) q; omega
theorem Dv.done {t₀ b₀ t b:Int} (d:Dv t₀ b₀ t b) (h:b = 0) (h0:b₀ ≠ 0):t = dv t₀ b₀:=by
 subst h
 have g:=d.g
 rw [Int.gcd_zero_right] at g
 unfold dv
 rw [<- g]
 split
 ·rename_i q; have:=(d.n q).2 rfl; omega
 ·have:=(d.p (by omega)).2 rfl; omega
theorem zU1 {t b:Int} (h:b ≠ 0):0 < Ĵ t b:=Nat.pos_of_ne_zero fun e=>h (Int.gcd_eq_zero_iff.mp e).2
theorem zY9 {t b:Int} (h:b ≠ 0):dv t b ≠ 0:=by
 have:=zU1 (t:=t) h
 unfold dv; split <;> omega
theorem zF2 (t b:Int):dv t b ∣ t:=by
 have:=Int.gcd_dvd_left t b
 unfold dv; split
 ·exact Int.neg_dvd.mpr this
 ·exact this
theorem zE2 (t b:Int):dv t b ∣ b:=by
 have:=Int.gcd_dvd_right t b
 unfold dv; split
 ·exact Int.neg_dvd.mpr this
 ·exact this
theorem yT5 (t b:Int):(dv t b).natAbs = Ĵ t b:=by
 unfold dv; split <;> omega
theorem yT4 {t b:Int} (h:b ≠ 0):(dv t b).natAbs <= b.natAbs:=by
 rw [yT5]
 have:=Int.gcd_dvd_right t b
 exact Nat.le_of_dvd (by omega) (Int.natAbs_dvd_natAbs.mpr this |> (by simpa using ·))
theorem zY8 {t b:Int} (h:b ≠ 0):t.fdiv (dv t b) = (Ě t b).num:=by
 rw [Int.fdiv_eq_ediv_of_dvd (zF2 t b),Rat.num_divInt,Int.gcd_comm]
 unfold dv
 rcases Int.lt_or_gt_of_ne h with q | q
 ·rw [if_pos q,Int.sign_eq_neg_one_of_neg q,Int.ediv_neg,Int.neg_one_mul,Int.neg_ediv_of_dvd (Int.gcd_dvd_left t b)]
 ·rw [if_neg (by omega),Int.sign_eq_one_of_pos q,Int.one_mul]
theorem zZ0 {t b:Int} (h:b ≠ 0):b.fdiv (dv t b) = ((Ě t b).den:Int):=by
 rw [Int.fdiv_eq_ediv_of_dvd (zE2 t b),Rat.den_divInt,if_neg h,Int.gcd_comm]
 unfold dv
 rw [Int.natCast_ediv]
 rcases Int.lt_or_gt_of_ne h with q | q
 ·rw [if_pos q,Int.ediv_neg,<- Int.neg_ediv_of_dvd (Int.gcd_dvd_right t b)]
  congr 1; omega
 ·rw [if_neg (by omega)]
  congr 1; omega
theorem zQ3 {t b:Int} (h:0 < b):dv t b = (Ĵ t b:Int):=by unfold dv; rw [if_neg (by omega)]
theorem low {n d:Int} (hd:0 < d) (hg:Ĵ n d = 1):(Ě n d).num = n /\ ((Ě n d).den:Int) = d:=by
 have h1:=zY8 (t:=n) (b:=d) (by omega)
 have h2:=zZ0 (t:=n) (b:=d) (by omega)
 rw [zQ3 hd,hg] at h1 h2
 constructor
 ·rw [<- h1]; simp
 ·rw [<- h2]; simp
theorem ã (r:Rat):(0:Int) < r.den:=by have:=r.den_pos; omega
theorem zR4 (r:Rat):Ĵ r.num r.den = 1:=by
 have:=r.reduced
 unfold Nat.Coprime at this
 unfold Ĵ
 simpa using this
theorem xE8 (r q:Rat) {s rest top d:Int} (hs:s = dv r.den q.den) (hr:rest = (r.den:Int).fdiv s) (ht:top = r.num * ((q.den:Int).fdiv s) + q.num * rest) (hd:d = dv top s) :
  top.fdiv d = (r + q).num /\ rest * ((q.den:Int).fdiv d) = ((r + q).den:Int):=by
 have p1:=r.den_pos
 have p2:=q.den_pos
 have gp:0 < ő r.den q.den:=Nat.gcd_pos_of_pos_left _ p1
 have es:s = ((ő r.den q.den:Nat):Int):=by
  rw [hs,zQ3 (by omega)]; unfold Ĵ; simp
 have e1:(r.den:Int).fdiv s = ((r.den / ő r.den q.den:Nat):Int):=by
  rw [es,Š _ (by omega),Int.natCast_ediv]
 have e2:(q.den:Int).fdiv s = ((q.den / ő r.den q.den:Nat):Int):=by
  rw [es,Š _ (by omega),Int.natCast_ediv]
 have er:rest = ((r.den / ő r.den q.den:Nat):Int):=hr.trans e1
 have et:top = r.num * ((q.den / ő r.den q.den:Nat):Int) + q.num * ((r.den / ő r.den q.den:Nat):Int):=by rw [ht,e2,er]
 have key:top.natAbs.gcd (ő r.den q.den) = top.natAbs.gcd ((r.den / ő r.den q.den) * q.den):=by
  rw [et]
  exact Rat.add.aux r q rfl rfl rfl
 have ed:d = ((top.natAbs.gcd (ő r.den q.den):Nat):Int):=by
  rw [hd,es,zQ3 (by omega)]; unfold Ĵ; simp
 have hrd:ő r.den q.den ∣ r.den:=Nat.gcd_dvd_left _ _
 have hqd:ő r.den q.den ∣ q.den:=Nat.gcd_dvd_right _ _
 have rp:0 < r.den / ő r.den q.den:=Nat.div_pos (Nat.le_of_dvd p1 hrd) gp
 have sum:r + q = Ě top (((r.den / ő r.den q.den) * q.den:Nat):Int):=by
  have h:=Rat.divInt_add_divInt r.num q.num (d₁:=r.den) (d₂:=q.den) (by omega) (by omega)
  rw [Ł,Ł] at h
  rw [h]
  rw [Rat.divInt_eq_divInt_iff (ũ (by omega) (by omega)) (by have:=Ľ rp p2; omega)]
  rw [et]
  obtain ⟨a,ha⟩:=hrd
  obtain ⟨b,hb⟩:=hqd
  generalize ő r.den q.den = g at *
  have a1:r.den / g = a:=by rw [ha]; exact Nat.mul_div_cancel_left _ gp
  have b1:q.den / g = b:=by rw [hb]; exact Nat.mul_div_cancel_left _ gp
  rw [a1,b1]
  rw [ha,hb]
  push_cast
  grind
 have dp:(0:Int) < (((r.den / ő r.den q.den) * q.den:Nat):Int):=by have:=Ľ rp p2; omega
 have n1:=zY8 (t:=top) (b:=(((r.den / ő r.den q.den) * q.den:Nat):Int)) (by omega)
 have n2:=zZ0 (t:=top) (b:=(((r.den / ő r.den q.den) * q.den:Nat):Int)) (by omega)
 have edd:dv top (((r.den / ő r.den q.den) * q.den:Nat):Int) = d:=by
  rw [ed,zQ3 dp,key]; unfold Ĵ; rw [Int.natAbs_natCast]
 rw [<- sum,edd] at n1 n2
 refine ⟨n1,?_⟩
 rw [<- n2,er]
 have dq:d ∣ (q.den:Int):=by
  rw [ed]
  exact Int.natCast_dvd_natCast.mpr (Nat.dvd_trans (Nat.gcd_dvd_right _ _) hqd)
 have dpos:0 < d:=by
  rw [ed]; have:=Nat.gcd_pos_of_pos_right top.natAbs gp; omega
 rw [Š _ (by omega),Š _ (by omega)]
 push_cast
 exact (Int.mul_ediv_assoc _ dq).symm
theorem yU8 {a d t b:Int} (h:Ĵ t b = 1) (ha:a ∣ t) (hd:d ∣ b):Ĵ a d = 1 :=
 Nat.Coprime.coprime_dvd_left (Int.natAbs_dvd_natAbs.mpr ha) (Nat.Coprime.coprime_dvd_right (Int.natAbs_dvd_natAbs.mpr hd) h)
theorem xH7 {a b c d:Int} (h1:Ĵ a d = 1) (h2:Ĵ a b = 1) (h3:Ĵ c d = 1) (h4:Ĵ c b = 1):Ĵ (a * c) (d * b) = 1:=by
 show Nat.Coprime (a * c).natAbs (d * b).natAbs
 rw [ŀ,ŀ]
 exact Nat.coprime_mul_iff_left.mpr ⟨Nat.coprime_mul_iff_right.mpr ⟨h1,h2⟩,Nat.coprime_mul_iff_right.mpr ⟨h3,h4⟩⟩
theorem yV8 {t1 b1 t2 b2:Int} (h1:0 < b1) (h2:b2 ≠ 0) (c1:Ĵ t1 b1 = 1) (c2:Ĵ t2 b2 = 1) {l r:Int} (hl:l = dv t1 b2) (hr:r = dv t2 b1) :
  (t1.fdiv l) * (t2.fdiv r) = (Ě (t1 * t2) (b1 * b2)).num /\ (b1.fdiv r) * (b2.fdiv l) = ((Ě (t1 * t2) (b1 * b2)).den:Int):=by
 have l0:l ≠ 0:=by rw [hl]; exact zY9 h2
 have r0:0 < r:=by rw [hr,zQ3 h1]; have:=zU1 (t:=t2) (b:=b1) (by omega); omega
 obtain ⟨a,ha⟩:l ∣ t1:=by rw [hl]; exact zF2 _ _
 obtain ⟨b,hb⟩:l ∣ b2:=by rw [hl]; exact zE2 _ _
 obtain ⟨c,hc⟩:r ∣ t2:=by rw [hr]; exact zF2 _ _
 obtain ⟨d,hd⟩:r ∣ b1:=by rw [hr]; exact zE2 _ _
 have e1:t1.fdiv l = a:=by rw [ha,ŧ _ l0]
 have e2:b2.fdiv l = b:=by rw [hb,ŧ _ l0]
 have e3:t2.fdiv r = c:=by rw [hc,ŧ _ (by omega)]
 have e4:b1.fdiv r = d:=by rw [hd,ŧ _ (by omega)]
 have gl:Ĵ t1 b2 = l.natAbs:=by rw [hl,yT5]
 have gr:Ĵ t2 b1 = r.natAbs:=by rw [hr,yT5]
 have la:0 < l.natAbs:=by omega
 have ra:0 < r.natAbs:=by omega
 have cab:Ĵ a b = 1:=by
  rw [ha,hb,Int.gcd_mul_left] at gl
  exact Nat.eq_of_mul_eq_mul_left la (by omega)
 have ccd:Ĵ c d = 1:=by
  rw [hc,hd,Int.gcd_mul_left] at gr
  exact Nat.eq_of_mul_eq_mul_left ra (by omega)
 have cad:Ĵ a d = 1:=yU8 c1 ⟨l,by rw [ha,Int.mul_comm]⟩ ⟨r,by rw [hd,Int.mul_comm]⟩
 have cbc:Ĵ c b = 1:=yU8 c2 ⟨r,by rw [hc,Int.mul_comm]⟩ ⟨l,by rw [hb,Int.mul_comm]⟩
 have dp:0 < d:=by
  rcases Int.lt_trichotomy d 0 with z | z | z
  ·have:=Int.mul_neg_of_pos_of_neg r0 z; omega
  ·subst z; omega
  ·exact z
 have bp:0 < b:=by
  rcases Int.lt_or_gt_of_ne h2 with z | z
  ·have ln:l < 0:=by
    rw [hl]; unfold dv; rw [if_pos z]; have:=zU1 (t:=t1) h2; omega
   rcases Int.lt_trichotomy b 0 with y | y | y
   ·have:=Int.mul_pos_of_neg_of_neg ln y; omega
   ·subst y; omega
   ·exact y
  ·have lp:0 < l:=by
    rw [hl,zQ3 z]; have:=zU1 (t:=t1) h2; omega
   rcases Int.lt_trichotomy b 0 with y | y | y
   ·have:=Int.mul_neg_of_pos_of_neg lp y; omega
   ·subst y; omega
   ·exact y
 have lw:=low (n:=a * c) (d:=d * b) (Int.mul_pos dp bp) ?_
 ·have ee:Ě (t1 * t2) (b1 * b2) = Ě (a * c) (d * b):=by
   rw [Rat.divInt_eq_divInt_iff (ũ (by omega) h2) (ũ (by omega) (by omega))]
   rw [ha,hb,hc,hd]; grind
  rw [e1,e2,e3,e4,ee]
  exact ⟨lw.1.symm,lw.2.symm⟩
 ·exact xH7 cad cab ccd cbc
theorem yQ5 (r q:Rat):Ě (r.num * q.num) (r.den * q.den) = r * q:=by
 rw [<- Rat.divInt_mul_divInt,Ł,Ł]
theorem xM9 (r q:Rat) (h:q.num ≠ 0):Ě (r.num * q.den) (r.den * q.num) = r / q:=by
 rw [<- Rat.divInt_mul_divInt,Ł,Rat.div_def]
 congr 1
 rw [Rat.inv_def]
theorem yG5 (r:Rat):Ĵ (r.den:Int) r.num = 1:=by rw [Int.gcd_comm]; exact zR4 r
theorem yF9 (r:Rat):(0 - r.num) = (-r).num /\ (r.den:Int) = ((-r).den:Int):=by
 constructor
 ·rw [Rat.neg_num]; omega
 ·rw [Rat.neg_den]
theorem xA8 (r q:Rat):r + -q = r - q:=(Rat.sub_eq_add_neg r q).symm
theorem lt_ok (r q:Rat):decide (r.num * q.den < q.num * r.den) = decide (r < q):=by
 rw [decide_eq_decide,Rat.lt_iff]
theorem xM5 {r q:Rat} (h1:r.num = q.num) (h2:(r.den:Int) = q.den):r = q:=Rat.ext h1 (by omega)
end Tc
namespace L2
open PySem PySem.Spec PyProof.Rows
theorem xN8:bootBuiltins "abs" = some (.builtin "abs"):=by decide +kernel
theorem î:bootBuiltins "isinstance" = some (.builtin "isinstance"):=by decide +kernel
theorem zI8:bootBuiltins "sorted" = some (.builtin "sorted"):=by decide +kernel
theorem xN6:bootBuiltins "int" = some (.type "int"):=by decide +kernel
theorem xH8:bootBuiltins "bool" = some (.type "bool"):=by decide +kernel
theorem xN5:bootBuiltins "str" = some (.type "str"):=by decide +kernel
theorem γ:bootBuiltins "list" = some (.type "list"):=by decide +kernel
theorem yH3:bootBuiltins "tuple" = some (.type "tuple"):=by decide +kernel
theorem zK5:bootBuiltins "dict" = some (.type "dict"):=by decide +kernel
section
variable {X:Cx}
theorem ź:OpR X (binaryOp .Mult) (rI IntMulOk fun i j=>.int (i * j)):=opI fun _ _ _ _ _ _ _ hc q=>mul_int q hc
noncomputable def ς (_ j:Int):Prop:=j ≠ 0 /\ j.natAbs.log2 < 9000
theorem á:OpR X (binaryOp .FloorDiv) (rI ς fun i j=>.int (i.fdiv j)):=opI fun _ _ _ _ _ _ _ hc q=>floordiv_int hc.1 q (.inl (PyProof.noPylong_of_log2 hc.2))
theorem log2_lt {n k:Nat} (h:n < 2 ^ k) (hk:0 < k):n.log2 < k:=by
 rcases Nat.eq_zero_or_pos n with h0 | hp
 ·subst h0
  have:Nat.log2 0 = 0:=by decide
  omega
 ·exact (Nat.log2_lt (Ĩ hp)).mpr h
theorem ý {a b:Int} (k:Nat) (ha:a.natAbs < 2 ^ k) (hb:b.natAbs < 2 ^ k) (h:k <= 67108864):IntMulOk a b:=by
 have bits:∀ x:Int,x.natAbs < 2 ^ k->Builtin.Int.intBits x <= k:=fun x hx=>by
  unfold Builtin.Int.intBits
  split
  ·exact Ī _
  ·rename_i hx0
   rcases Nat.eq_zero_or_pos k with h0 | hp
   ·subst h0
    have:x = 0:=by
     have:x.natAbs < 1:=hx
     omega
    simp [this] at hx0
   ·have:=log2_lt hx hp
    omega
 exact IntMulOk.of_le (bits a ha) (bits b hb) (by omega)
theorem zK1 {i j:Int} (h:j ≠ 0) (hb:j.natAbs < 2 ^ 9000):ς i j:=⟨h,log2_lt hb (by decide)⟩
theorem yZ8:Υ X (.builtin "isinstance") (fun xs H Q=>∃ x n t b,xs = [x,.ty n] /\ TyOf X.K H x t /\ PySem.W.kitOne X.K t (.type n) = some b /\ Q (.bl b) H):=by
 intro pins s σ H xs us Q I r h
 obtain ⟨x,n,t,b,rfl,ty,e,q⟩:=h
 obtain ⟨u,u',rfl,ru,ru'⟩:=xD7 r
 cases ru'
 exact yS3 I ru ty e fun tk=>⟨.bl b,H,I.tok tk,rfl,q⟩
end
structure FnAt (P:Program) (w:World) (K:Ā) (mg:Str->Option Value) (base:Heap) (CX:CXT) (k:Nat) (x:Str) (ps:List Str) (sp:Sp):Prop where
 ex:∃ (f:Addr) (fd:FuncData),FnOk P w K mg base CX k f fd ps sp /\ mg x = some (.ref f) /\ ĉ K (.ref f) = true /\ Binds K fd ps []
structure DefAt (K:Ā) (mg:Str->Option Value) (x:Str) (st:Stmt):Prop where
 ex:∃ (f:Addr) (fd:FuncData),Fun K x x st f fd /\ mg x = some (.ref f)
theorem DefAt.mk' {K:Ā} {h:Heap} {mg:Str->Option Value} {x:Str} {st:Stmt} {f:Addr} {oc:Value} {od an:Option Addr} {osl:Array (Option Value)} {kV doc pm cdv ct:Value} (X:K.In h) (G:h.Ns mainGlobals mg)
  (a:Ć K mainGlobals x = some (some (.ref f))) (l:K.lookup f = some ⟨oc,od,.func (Ď x x (Ë st) (É st) (Å st) .none kV doc pm an cdv ct),osl⟩)
  (c:Ċ K cdv x = true) (k:ĉ K (.ref f) = true):DefAt K mg x st:=⟨f,_,xD0 (st:=st) l c k,PySem.W.mg_of X G a⟩
section
variable {P:Program} {w:World} {K:Ā} {mg:Str->Option Value} {base:Heap}
theorem DefAt.ok {x:Str} {st:Stmt} {N ps:List Str} {k:Nat} {sp:Sp} (D:DefAt K mg x st) (S:Ì N ps (Å st)) (len:∀ vs H Q E,sp vs H Q E->vs.length = ps.length)
  (hb:∀ (kV doc pm:Value) (an:Option Addr) (cdv ct:Value) (us:List Value),us.length = ps.length->bindArgs (Ď x x (Ë st) (É st) (Å st) .none kV doc pm an cdv ct) ⟨us,[]⟩ = pure (ps.zip us))
  (hbody:∀ (f:Addr) (cdv:Value) (A:Around) (outer:List Env) (s:Shared) (H:Hp) (vs:List V) (Q:VK) (E:XK),Room k (A.deeper (envOfC x (Å st) s.heap.objs.size f cdv))->sp vs H Q E ->
   ∃ t,PSs (cxOf CX0 P w K mg base N x (Å st) f cdv A outer s H E).nox (É st) t /\ t { nx:=fun _ H'=>Q .non H',rt:=Q } (start N vs) H):FnAt P w K mg base CX0 (k + 1) x ps sp:=by
 obtain ⟨f,fd,F,m⟩:=D.ex
 exact ⟨f,fd,F.ok S len fun cdv A outer s H vs Q E hr h=>hbody f cdv A outer s H vs Q E hr h,m,F.kp,F.binds hb⟩
end
section
variable {X:Cx} {CX:CXT} {k j:Nat} {ps:List Str} {sp:Sp} {E:XK} {x:Str} {p pos:Pos} {e:Expr} {es:List Expr} {t:TA}
theorem xF3 (F:FnAt X.prog X.w X.K X.mg X.base CX j x ps sp) (hr:Room k X.A) (hg:Gl X x) (hx:yA5 CX X E) (ha:PA X (e :: es) t) (hj:j <= k:=by decide)
  (hdb:(x == ("__debug__":Str)) = false:=by decide) (he:starEach (e :: es) X.env = (false,eval e X.env) :: starEach es X.env:=by rfl) (hpl:(backTo pos (starEach es X.env)).any (·.1) = false:=by rfl) :
  PE X (.Call (.Name x p) (e :: es) [] pos) (xE0 sp [] E t):=by
 obtain ⟨f,fd,G,m,kp,b⟩:=F.ex
 exact xF4 G (hr.mono hj) hg m kp b .nil hx ha hdb he hpl
end
noncomputable def tyH:Option HO->Option String
 | some (.lst _)=>some "list"
 | some (.frz _ (.lst _))=>some "list"
 | some (.tup _)=>some "tuple"
 | some (.dK _)=>some "dict"
 | some (.dT _)=>some "dict"
 | _=>none
noncomputable def tyS (H:Hp):V->Option String
 | .non=>some "NoneType"
 | .bl _=>some "bool"
 | .int _=>some "int"
 | .str _=>some "str"
 | .ref a=>tyH (H a)
 | _=>none
theorem zV6 {o:Option HO} {n:String} (h:tyH o = some n) :
  (n = "list" /\ ((∃ xs,o = some (.lst xs)) \/ ∃ ob xs,o = some (.frz ob (.lst xs)))) \/ (n = "tuple" /\ ∃ xs,o = some (.tup xs)) \/ (n = "dict" /\ ((∃ kvs,o = some (.dK kvs)) \/ ∃ kvs,o = some (.dT kvs))):=by
 cases o with
 | none=>cases h
 | some u =>
  cases u with
  | lst xs=>cases h; exact .inl ⟨rfl,.inl ⟨xs,rfl⟩⟩
  | tup xs=>cases h; exact .inr (.inl ⟨rfl,xs,rfl⟩)
  | dK kvs=>cases h; exact .inr (.inr ⟨rfl,.inl ⟨kvs,rfl⟩⟩)
  | dT kvs=>cases h; exact .inr (.inr ⟨rfl,.inr ⟨kvs,rfl⟩⟩)
  | frz ob v =>
   cases v with
   | lst xs=>cases h; exact .inl ⟨rfl,.inr ⟨ob,xs,rfl⟩⟩
   | _=>cases h
  | _=>cases h
theorem Φ {K:Ā} {H:Hp} {v:V} {n:String} (h:tyS H v = some n):TyOf K H v (.type n):=by
 cases v with
 | non=>cases h; exact .non
 | bl b=>cases h; exact .bl b
 | int i=>cases h; exact .int i
 | str x=>cases h; exact .str x
 | byt b=>cases h
 | flt b=>cases h
 | ty b=>cases h
 | ref a =>
  rcases zV6 (show tyH (H a) = some n from h) with ⟨rfl,⟨xs,e⟩ | ⟨ob,xs,e⟩⟩ | ⟨rfl,xs,e⟩ | ⟨rfl,⟨kvs,e⟩ | ⟨kvs,e⟩⟩
  ·exact .lst e
  ·exact .frz e
  ·exact .tup e
  ·exact .dK e
  ·exact .dT e
theorem yK5 {H:Hp} {v:V} {n:String} (h:tyS H v = some n):n ∈ ["NoneType","bool","int","str","list","tuple","dict"]:=by
 cases v with
 | ref a=>rcases zV6 (show tyH (H a) = some n from h) with ⟨rfl,_⟩ | ⟨rfl,_⟩ | ⟨rfl,_⟩ <;> simp
 | _=>first | (cases h; done) | (cases h; simp)
noncomputable def subS (n m:String):Bool:=n == m || (n == "bool" && m == "int")
theorem zK8 {K:Ā} {n m:String} (hn:n ∈ ["NoneType","bool","int","str","list","tuple","dict"]) (hm:m ∈ ["int","bool","str","list","tuple","dict"]) :
  PySem.W.kitOne K (.type n) (.type m) = some (subS n m):=by
 simp only [Ē,Ŕ,or_false] at hn hm
 rcases hn with rfl | rfl | rfl | rfl | rfl | rfl | rfl <;> rcases hm with rfl | rfl | rfl | rfl | rfl | rfl <;> first | rfl | (with_unfolding_all rfl) | decide +kernel
theorem Same.upd {H:Hp} {p:Addr} {o:HO} (h:H p = none):Same H (upd H p o):=fun b u e=>by
 rw [upd_ne (Ç e h)]; exact e
section
variable {P:Program} {w:World} {H H':Hp} {h h':Heap} {a:Addr} {o:HO}
theorem ObjOk.there (x:ObjOk P w H h a o):∃ ob,h.get? a = some ob:=by
 cases o with
 | lst xs=>obtain ⟨_,_,_,_,e⟩:=x; exact ⟨_,e⟩
 | tup xs=>obtain ⟨_,_,_,ob,e,_⟩:=x; exact ⟨ob,e⟩
 | dK kvs=>obtain ⟨_,_,_,_,ob,_,_,e,_⟩:=x; exact ⟨ob,e⟩
 | dT kvs=>obtain ⟨_,_,_,_,ob,_,_,e,_⟩:=x; exact ⟨ob,e⟩
 | set S n=>obtain ⟨ob,_,_,_,e,_⟩:=x; exact ⟨ob,e⟩
 | ins C dx fs=>obtain ⟨_,_,_,e,_⟩:=x; exact ⟨_,e⟩
 | own y=>obtain ⟨ob,e⟩:=x; exact ⟨ob,e⟩
 | xd fs=>obtain ⟨_,⟨ob,_,_,e,_⟩,_⟩:=x; exact ⟨ob,e⟩
 | rng lo hi=>obtain ⟨_,_,_,e⟩:=x; exact ⟨_,e⟩
 | frz ob u=>obtain ⟨e,_⟩:=x; exact ⟨_,e⟩
 | tbl ps=>exact ⟨_,(show h.get? a = some _ from x)⟩
 | met f y=>exact ⟨_,(show h.get? a = some _ from x)⟩
 | ext φ=>obtain ⟨_,⟨ob,e⟩,_⟩:=x; exact ⟨ob,e⟩
theorem HOk.via (x:HOk P w H h) (k:∀ b u ob,H b = some u->h.get? b = some ob->h'.get? b = some ob):HOk P w H h':=fun b u e =>
 (x b u e).stay (fun c ob hc q=>by
  rcases hc with z | z
  ·subst z; exact k c u ob e q
  ·exact k c _ ob z q) (fun _ q=>q) fun _ _ q=>q
end
theorem yZ0 {env:Env} {L:Addr} {outer:List Env} (hf:env.frame = some L):frs (env :: outer) = L :: frs outer:=by
 unfold frs; rw [List.filterMap_cons,hf]
structure Kp (P:Program) (w:World) (outer:List Env) (H:Hp) (h:Heap) (H':Hp) (h':Heap) (B:Heap):Prop where
 hok:HOk P w H' h'
 un:Un (frs outer) [] H H' h h'
 old:∀ b o,h.get? b = some o->H b = none->b ∉ frs outer->B.get? b = some o
 has:∀ b o,h.get? b = some o->b ∉ frs outer->∃ o',B.get? b = some o'
 trk:∀ b u,H' b = some u->∃ o,h'.get? b = some o /\ B.get? b = some o
section
variable {X:Cx} {pins:List (Addr × Obj)} {σ:St} {H1 H2:Hp} {s1:Shared} {h2 h3 B:Heap} {a:Addr} {C a0:Value} {vs:List Value}
theorem Kp.raise (I:Inv X pins σ H1 s1) (hx:Heap.MadeExcOf s1.heap h2 a C vs):Kp X.prog X.w X.stack H1 s1.heap H1 h2 (PySem.W.hideAll s1.heap (frs X.stack)) where
 hok:=I.hok.kept hx.keeps
 un:=Un.kept hx.keeps
 old:=fun b o e _ hb=>PySem.W.hideAll_get _ e hb
 has:=fun b o e hb=>⟨o,PySem.W.hideAll_get _ e hb⟩
 trk:=fun b u e=>by
  obtain ⟨o,q⟩:=(I.hok b u e).there
  refine ⟨o,hx.keeps b o q,PySem.W.hideAll_get _ q fun hb=>?_⟩
  rw [I.stkFree b hb] at e; cases e
theorem Kp.slots (I:Inv X pins σ H1 s1) (K:Kp X.prog X.w X.stack H1 s1.heap H2 h2 B) (st:B.StaysIn h3) (sl:h2.UpToSlots h3):Kp X.prog X.w X.stack H1 s1.heap H2 h3 B:=by
 have trk3:∀ b u,H2 b = some u->∃ o,h3.get? b = some o /\ B.get? b = some o:=fun b u e=>by
  obtain ⟨o,_,q⟩:=K.trk b u e
  exact ⟨o,st b o q,q⟩
 have fr:∀ b o,s1.heap.get? b = some o->H1 b = none->b ∈ frs X.stack->∃ sl,h3.get? b = some { o with slots:=sl }:=fun b o e n hb=>by
  obtain ⟨sl1,e1⟩:=K.un.slot b o e n hb (by simp)
  obtain ⟨_,o',e',d⟩:=I.stack.mem hb
  rw [e] at e'
  cases e'
  obtain ⟨sl2,e2⟩:=sl b _ e1 d
  exact ⟨sl2,e2⟩
 refine ⟨K.hok.via fun b u ob e q=>?_,⟨fun b o e n hb _=>st b o (K.old b o e n hb),fun b o e n hb _=>fr b o e n hb,K.un.free,fun b o e hx=>?_,K.un.tups,K.un.frzs,K.un.tbls⟩,K.old,K.has,trk3⟩
 ·obtain ⟨o,q1,q2⟩:=K.trk b u e
  rw [q] at q1
  cases q1
  exact st b ob q2
 ·by_cases hb:b ∈ frs X.stack
  ·obtain ⟨sl1,e1⟩:=fr b o e (I.stkFree b hb) hb
   exact ⟨_,e1⟩
  ·obtain ⟨o',e'⟩:=K.has b o e hb
   exact ⟨o',st b o' e'⟩
theorem Kp.leave (I:Inv X pins σ H1 s1) (hex:X.ex = []) (hst:X.stack = X.env :: X.outer) (hf:X.env.frame = some X.env.locals) (K:Kp X.prog X.w X.stack H1 s1.heap H2 h2 B) (st:B.StaysIn h3) (sl:h2.UpToSlots h3) :
  Kp X.prog X.w X.outer X.H₀ X.s₀.heap H2 h3 B:=by
 have K3:=K.slots I st sl
 have fe:frs X.stack = X.env.locals :: X.fs:=by rw [hst]; exact yZ0 hf
 have nex:∀ b:Addr,b ∉ X.ex:=fun b z=>by rw [hex] at z; cases z
 have nin:∀ b o,X.s₀.heap.get? b = some o->b ∉ X.fs->b ∉ frs X.stack:=fun b o e hb z=>by
  rw [fe] at z
  rcases Ē.mp z with z | z
  ·have h1:=ć e
   have h2:=I.ok.above
   rw [z] at h1
   exact absurd (ď h1 h2) (Ń _)
  ·exact hb z
 have old:∀ b o,X.s₀.heap.get? b = some o->X.H₀ b = none->b ∉ frs X.outer->B.get? b = some o:=fun b o e n hb =>
  K.old b o (I.base.keep b o e n hb (nex b)) (I.base.free b o e n (nex b)) (nin b o e hb)
 refine ⟨K3.hok,⟨fun b o e n hb _=>st b o (old b o e n hb),fun b o e n hb _=>?_,fun b o e n _=>?_,fun b o e _=>?_,fun b xs e=>K3.un.tups b xs (I.base.tups b xs e),fun b o u e=>K3.un.frzs b o u (I.base.frzs b o u e),fun b ps e=>?_⟩,old,fun b o e hb=>?_,K3.trk⟩
 ·obtain ⟨sl1,e1⟩:=I.base.slot b o e n hb (nex b)
  obtain ⟨sl2,e2⟩:=K3.un.slot b _ e1 (I.base.free b o e n (nex b)) (by rw [fe]; exact Ă _ hb) (by simp)
  exact ⟨sl2,e2⟩
 ·obtain ⟨o1,e1⟩:=I.base.there b o e (nex b)
  exact K3.un.free b o1 e1 (I.base.free b o e n (nex b)) (by simp)
 ·obtain ⟨o1,e1⟩:=I.base.there b o e (nex b)
  exact K3.un.there b o1 e1 (by simp)
 ·obtain ⟨m1,e1⟩:=I.base.tbls b ps e
  obtain ⟨m2,e2⟩:=K3.un.tbls b _ e1
  exact ⟨m1 ++ m2,by rw [e2,Array.append_assoc]⟩
 ·obtain ⟨o1,e1⟩:=I.base.there b o e (nex b)
  exact K.has b o1 e1 (nin b o e hb)
end
noncomputable def CXE (P:Program) (w:World):CXT:=fun outer H s E e s'=>∃ (a:Addr) (C:Value) (H':Hp) (B:Heap) (a0:Value),
 e = .ref a /\ s'.os = s.os /\ AllBare s'.gens /\ Kp P w outer H s.heap H' s'.heap B /\ Heap.FlyingW B outer a C a0 s'.heap /\ E C none H'
noncomputable def xD5 (X:Cx) (E:XK):Prop:=∀ (C:Value) (pins:List (Addr × Obj)) (σ:St) (H1:Hp) (s1:Shared) (h2:Heap) (a:Addr) (vs:List Value),Inv X pins σ H1 s1->Heap.MadeExcOf s1.heap h2 a C vs->E C none H1->X.xe (.ref a) { s1 with heap:=h2 }
section
variable {P:Program} {w:World} {K:Ā} {mg:Str->Option Value} {base:Heap} {N:List Str} {qual:Str} {scope:Scope} {f:Addr} {cd:Value} {A:Around} {outer:List Env} {s:Shared} {H:Hp} {E:XK}
theorem yO1:xD5 (cxOf (CXE P w) P w K mg base N qual scope f cd A outer s H E) E:=by
 intro C pins σ H1 s1 h2 a vs I hx q
 have hl:=PySem.W.funFrames_hide (as:=frs (cxOf (CXE P w) P w K mg base N qual scope f cd A outer s H E).stack) I.stack fun env he b hb=>Ũ.mpr ⟨env,he,hb⟩
 refine wpAny_leaves_madeW I.ok.frames rfl (fun b o q=>PySem.W.of_hideAll _ q) hl hx fun h3 t fl _ _ sl=>?_
 exact ⟨a,C,H1,_,.ref t,rfl,I.os,I.bare,(Kp.raise I hx).leave I rfl rfl rfl fl.1 sl,fl,q⟩
end
theorem yT2 {K:Ā} {h:Heap} {C:Addr} {bmB:List Value} {newId:String} (X:K.In h) (q:PySem.W.excIn K C bmB newId = true) :
  ∃ bm N nm qn bs hdct sn sub ab col dd k0 k1 k2 k3 k5 mN,h.get? C = some (excClassObj nm qn C N bs bm hdct sn sub ab col dd k0 k1 k2 k3 k5 newId) /\ h.Ns N mN /\ mN "__init__" = none /\ OwnTail h bmB bm:=by
 unfold PySem.W.excIn at q
 split at q
 ·rename_i d1 cd1 sl1 look
  split at q
  ·rename_i C1 bm1 s0 s1 s2 s3 n1 s5 hmro hslots
   simp only [beq_iff_eq,Bool.not_eq_true',ŗ] at q
   obtain ⟨⟨⟨⟨⟨q1,q2⟩,hdel⟩,htl⟩,hns⟩,hini⟩:=q
   subst q1 q2
   obtain ⟨u1,u2,u3,u4,u5,u6,u7,u8,u9,u10,u11⟩:=cd1
   dsimp only at hmro hdel hns hini
   subst hmro hdel
   have es:sl1 = #[s0,s1,s2,s3,some (.builtin n1),s5]:=by
    cases sl1 with
    | mk l =>
     have:l = [s0,s1,s2,s3,some (.builtin n1),s5]:=hslots
     rw [this]
   subst es
   have at_:=X _ _ look
   refine ⟨bm1,u4,u1,u5,u2,u6,u7,u8,u9,u10,d1,s0,s1,s2,s3,s5,_,at_,.of_isNs (PySem.W.isNs_of_in X hns),?_,PySem.W.tail_of_in X htl⟩
   exact PySem.W.nsMap_none_of_in X hns hini
  ·cases q
 ·cases q
section
variable {X:Cx} {E:XK} {C:Addr} {B newId initId:String} {bmB:List Value} {x:Str} {np cpos pos:Pos} {e₀:Expr} {rest:List Expr} {t:TA}
noncomputable def xI2 (C:Addr) (E:XK) (t:TA):TS:=fun _ σ H=>t σ H fun vs H1=>vs.length <= sizeLine /\ E (.ref C) none H1
theorem yX0 (R:xD5 X E) (hc:X.calm = true) (hg:Gl X x) (hm:X.mg x = some (.ref C)) (hq:PySem.W.excIn X.K C bmB newId = true) (FB:ExcBaseFacts B newId initId bmB) (ha:PA X (e₀ :: rest) t)
  (he:starEach (e₀ :: rest) X.env = (false,eval e₀ X.env) :: starEach rest X.env:=by rfl) (hpl:(backTo cpos (starEach rest X.env)).any (·.1) = false:=by rfl) (hd:(x == ("__debug__":Str)) = false:=by decide) :
  PS X (.Raise (some (.Call (.Name x np) (e₀ :: rest) [] cpos)) none pos) (xI2 C E t):=by
 intro pins s σ H D I h
 obtain ⟨tl,N,nm,qn,bs,hdct,sn,sub,ab,col,dd,k0,k1,k2,k3,k5,mN,hC,hN,hni,T⟩:=yT2 I.mod.kin hq
 refine wpAny_Raise_call_subT (k5:=k5) (k3:=k3) (k2:=k2) (k1:=k1) (k0:=k0) (dd:=dd) (col:=col) (ab:=ab) (sub:=sub) (sn:=sn) (hdct:=hdct) (bm:=tl) (bs:=bs) (N:=N) (q:=qn) (nm:=nm) (C:=C) FB (mN:=mN) (T.hasType FB.hasBase) (I.ok.hd hc) ?_ hni (yR3 I hg hm ⟨rfl,?_⟩ hd)
 ·rw [he]
  show (false || (backTo cpos (starEach rest X.env)).any (·.1)) = false
  rw [hpl]; rfl
 ·have h1:=ha cpos pins s σ H _ I h
  rw [he] at h1 ⊢
  refine Calls.evalArgs_plain (wpAny_mono h1 (fun us s1 z=>?_) fun _ _ y=>y)
  obtain ⟨vs,H1,I1,r,hz,q⟩:=z
  exact ⟨rfl,by rw [<- r.length]; exact hz,I1.bk _ _ hC,hN.keeps I1.bk,T.keeps I1.bk,fun h' a hx=>R _ pins σ H1 s1 h' a us I1 hx q⟩
end
section
variable {X:Cx} {pins:List (Addr × Obj)} {σ:St} {H:Hp} {s:Shared} {a:Addr} {o:HO}
theorem Inv.track (I:Inv X pins σ H s) (hn:H a = none) (hnew:X.s₀.heap.get? a = none) (hL:a ≠ X.env.locals) (hC:∀ x c,X.env.cells.lookup x = some c->c ≠ a) (hP:∀ p ∈ X.pn ++ pins,p.1 ≠ a)
  (ho:ObjOk X.prog X.w (upd H a o) s.heap a o):Inv X pins σ (upd H a o) s:=by
 have ne:∀ b u,H b = some u->b ≠ a:=fun b u e z=>by rw [z,hn] at e; cases e
 refine ⟨I.ok,I.os,I.bare,⟨I.base.keep,I.base.slot,fun b ob e n hx=>?_,I.base.there,fun b xs e=>?_,fun b ob u e=>?_,fun b ps e=>?_⟩,I.loc,I.cell,?_,fun x c e=>?_,fun p hp=>?_,fun b u e=>?_,I.len⟩
 ·rw [upd_ne (fun z=>by rw [z,hnew] at e; cases e)]
  exact I.base.free b ob e n hx
 ·have q:=I.base.tups b xs e
  rw [upd_ne (ne b _ q)]; exact q
 ·have q:=I.base.frzs b ob u e
  rw [upd_ne (ne b _ q)]; exact q
 ·obtain ⟨m,q⟩:=I.base.tbls b ps e
  exact ⟨m,by rw [upd_ne (ne b _ q)]; exact q⟩
 ·rw [upd_ne (Ne.symm hL)]; exact I.free
 ·rw [upd_ne (hC x c e)]; exact I.freeC x c e
 ·obtain ⟨e1,e2,e3⟩:=I.pin p hp
  exact ⟨e1,by rw [upd_ne (hP p hp)]; exact e2,e3⟩
 ·by_cases z:b = a
  ·subst z; rw [Á] at e; cases e; exact ho
  ·rw [upd_ne z] at e
   exact (I.hok b u e).stay (fun _ _ _ q=>q) (fun c q=>by rw [upd_ne (ne c _ q)]; exact q) fun c xs q=>by rw [upd_ne (ne c _ q)]; exact q
end
open PySem PySem.Spec PyProof.Rows PySem.W PySem.Builtin PySem.Builtin.ObjectAttr PySem.Builtin.Getset_descriptor
section
variable {prog:Program} {w:World} {A:Around} {E:Value->Shared->Prop}
structure ExcK (K:Frag) (C:Addr):Prop where
 ga:findIn K (.ref C) "__getattribute__" = some (some (.builtin "BaseException.__getattribute__"))
 g2:findIn K (.ref C) "__getattr__" = some none
 cl:findIn K (.ref C) "__class__" = some (some (.builtin "object.__class__"))
 mB:mroIn K C (.type "BaseException") = some true
 mO:mroIn K C (.type "object") = some true
end
noncomputable def ü (cells:List (Str × Addr)):List (Str × NameKind)->List (Str × Addr)->List (Str × Addr)
 | [],cs=>cs
 | x :: r,cs=>ü cells r (if x.2 == .free then (match cells.lookup x.1 with | some a=>(x.1,a) :: cs | none=>cs) else cs)
theorem zI6 {scope:Scope} {env:Env} (h:∀ x ∈ scope.names,x.2 = .free->∃ a,env.cells.lookup x.1 = some a):closureFor scope env = pure (ü env.cells scope.names []):=by
 have aux:∀ (names:List (Str × NameKind)) (cs:List (Str × Addr)),(∀ x ∈ names,x.2 = .free->∃ a,env.cells.lookup x.1 = some a) ->
   (forIn (m:=Sem) names cs fun x r=>do
    if (x.2 == NameKind.free) = true then do
     let a <- cellOf env x.1
     pure (ForInStep.yield ((x.1,a) :: r))
    else pure (ForInStep.yield r)) = pure (ü env.cells names cs):=by
  intro names
  induction names with
  | nil=>intro cs _; rfl
  | cons x r ih =>
   intro cs hx
   rw [List.forIn_cons]
   cases hk:(x.2 == NameKind.free) with
   | false =>
    simp only [ĭ,if_false,pure_bind]
    rw [ih cs fun y hy=>hx y (Ă _ hy)]
    show _ = pure (ü env.cells r (if x.2 == .free then _ else cs))
    rw [hk]; rfl
   | true =>
    obtain ⟨a,ha⟩:=hx x ă (by simpa using hk)
    have e:cellOf env x.1 = pure a:=by unfold cellOf; rw [ha]
    simp only [if_true,e,pure_bind]
    rw [ih _ fun y hy=>hx y (Ă _ hy)]
    show _ = pure (ü env.cells r (if x.2 == .free then (match env.cells.lookup x.1 with | some a=>(x.1,a) :: cs | none=>cs) else cs))
    rw [hk,ha]; rfl
 have h1:=aux scope.names [] h
 unfold closureFor
 simp only [bind_pure]
 exact h1
theorem zK2 {cells:List (Str × Addr)}:∀ {names:List (Str × NameKind)} {cs:List (Str × Addr)},(∀ p ∈ cs,cells.lookup p.1 = some p.2)->∀ p ∈ ü cells names cs,cells.lookup p.1 = some p.2
 | [],_,h=>h
 | x :: r,cs,h=>zK2 (names:=r) fun p hp=>by
  split at hp
  ·split at hp
   ·rename_i a ha
    rcases Ē.mp hp with rfl | hp
    ·exact ha
    ·exact h p hp
   ·exact h p hp
  ·exact h p hp
theorem zO3 {cells:List (Str × Addr)}:∀ {names:List (Str × NameKind)} {cs:List (Str × Addr)} {p:Str × Addr},p ∈ cs->p ∈ ü cells names cs
 | [],_,_,h=>h
 | x :: r,cs,p,h=>zO3 (names:=r) (by
  split
  ·split
   ·exact Ă _ h
   ·exact h
  ·exact h)
theorem zK3 {cells:List (Str × Addr)} {x:Str} {a:Addr} (ha:cells.lookup x = some a):∀ {names:List (Str × NameKind)} {cs:List (Str × Addr)},(x,NameKind.free) ∈ names->(x,a) ∈ ü cells names cs
 | y :: r,cs,h=>by
  rcases Ē.mp h with rfl | h
  ·refine zO3 (names:=r) ?_
   simp [ha]
  ·exact zK3 ha (names:=r) h
theorem zE8 {α:Type} {x:Str} {v:α}:∀ {l:List (Str × α)},l.lookup x = some v->(x,v) ∈ l
 | [],h=>by simp at h
 | (y,u) :: r,h=>by
  rw [ŕ] at h
  cases e:x == y with
  | true=>rw [e] at h; cases h; rw [beq_iff_eq.mp e]; exact ă
  | false=>rw [e] at h; exact Ă _ (zE8 h)
theorem zK0 {α:Type} {x:Str} {v:α}:∀ {l:List (Str × α)},(x,v) ∈ l->∃ u,l.lookup x = some u
 | (y,u) :: r,h=>by
  rw [ŕ]
  cases e:x == y with
  | true=>exact ⟨u,rfl⟩
  | false =>
   rcases Ē.mp h with z | z
   ·cases z; simp at e
   ·exact zK0 z
noncomputable def yH1 (osc scope:Scope) (N Tn Fn:List Str) (js:List Nat):Bool :=
 (scope.kind == .function) && (osc.kind == .function) && (scope.names.all fun y=>match y.2 with
  | .cell=>false
  | .local=>scope.names.lookup y.1 == some .local
  | .free=>osc.names.lookup y.1 == some .cell && scope.names.lookup y.1 == some .free
  | _=>true) && (js.map (fun j=>N[j]?) == Fn.map some) && (Fn.all fun x=>scope.names.lookup x == some .free) && (Tn.all fun x=>scope.names.lookup x == some .local) && decide (Tn ++ Fn).Nodup
structure CompScope (osc scope:Scope) (N Tn Fn:List Str) (js:List Nat):Prop where
 kind:scope.kind = .function
 okind:osc.kind = .function
 nocell:∀ y ∈ scope.names,y.2 ≠ .cell
 loc:∀ y ∈ scope.names,y.2 = .local->scope.names.lookup y.1 = some .local
 fre:∀ y ∈ scope.names,y.2 = .free->osc.names.lookup y.1 = some .cell
 idx:js.map (fun j=>N[j]?) = Fn.map some
 fn:∀ x ∈ Fn,scope.names.lookup x = some .free
 tn:∀ x ∈ Tn,scope.names.lookup x = some .local
 nd:(Tn ++ Fn).Nodup
theorem CompScope.of {osc scope:Scope} {N Tn Fn:List Str} {js:List Nat} (h:yH1 osc scope N Tn Fn js = true):CompScope osc scope N Tn Fn js:=by
 unfold yH1 at h
 simp only [ŗ,beq_iff_eq,decide_eq_true_eq,List.all_eq_true] at h
 obtain ⟨⟨⟨⟨⟨⟨h1,h1'⟩,h2⟩,h3⟩,h4⟩,h5⟩,h6⟩:=h
 refine ⟨h1,h1',fun y hy e=>?_,fun y hy e=>?_,fun y hy e=>?_,h3,h4,h5,h6⟩
 ·have:=h2 y hy; rw [e] at this; cases this
 ·have:=h2 y hy; rw [e] at this; simpa using this
 ·have:=h2 y hy; rw [e] at this; simp only [ŗ,beq_iff_eq] at this; exact this.1
noncomputable def cxIn (X:Cx) (N:List Str) (scope:Scope) (cl:List (Str × Addr)) (C:Addr) (s:Shared) (H:Hp) (fp:List Addr):Cx :=
 { X with N:=N,s₀:=s,H₀:=H,env:=compEnvC scope cl C X.env,outer:=X.stack,ex:=fp,fn:=fun _=>false,pn:=[],xe:=fun _ _=>False }
noncomputable def innS (k:Nat) (js:List Nat) (σ:St):St:=List.replicate k none ++ js.map fun j=>(σ[j]?).join
theorem zG4 {env:Env} (hk:env.scope.kind = .function):∀ {names:List (Str × NameKind)} {x:Str} {k:NameKind},(∀ y ∈ names,y.2 = .free->env.kindOf y.1 = some .cell)->names.lookup x = some k ->
  (names.map fun (n,k)=>if (k == NameKind.free && env.scope.kind == .function && env.kindOf n == some .cell) then (n,NameKind.cell) else (n,k)).lookup x = some (if k = .free then .cell else k)
 | [],_,_,_,h=>by simp at h
 | (n,k') :: r,x,k,hf,h=>by
  have ih:=@zG4 env hk r x k fun y hy=>hf y (Ă _ hy)
  have h0:=hf (n,k') ă
  rw [ĸ]
  show List.lookup x ((if (k' == NameKind.free && env.scope.kind == .function && env.kindOf n == some .cell) = true then (n,NameKind.cell) else (n,k')) :: _) = _
  rw [ŕ] at h
  by_cases hk':k' = .free
  ·subst hk'
   have e:(NameKind.free == NameKind.free && env.scope.kind == .function && env.kindOf n == some .cell) = true:=by rw [h0 rfl,hk]; decide
   rw [if_pos e,ŕ]
   cases hx:x == n with
   | true=>rw [hx] at h; cases h; rfl
   | false=>rw [hx] at h; exact ih h
  ·have e:¬ (k' == NameKind.free && env.scope.kind == .function && env.kindOf n == some .cell) = true:=by
    intro z; simp only [ŗ,beq_iff_eq] at z; exact hk' z.1.1
   rw [if_neg e,ŕ]
   cases hx:x == n with
   | true=>rw [hx] at h; cases h; simp [hk']
   | false=>rw [hx] at h; exact ih h
theorem zJ5 {env:Env}:∀ {names:List (Str × NameKind)} {x:Str} {k:NameKind},(names.map fun (n,k)=>if (k == NameKind.free && env.scope.kind == .function && env.kindOf n == some .cell) then (n,NameKind.cell) else (n,k)).lookup x = some k ->
  ∃ k',(x,k') ∈ names /\ (k' = k \/ (k' = .free /\ k = .cell))
 | [],_,_,h=>by simp at h
 | (n,k') :: r,x,k,h=>by
  have ih:=@zJ5 env r x k
  rw [ĸ] at h
  have h:List.lookup x ((if (k' == NameKind.free && env.scope.kind == .function && env.kindOf n == some .cell) = true then (n,NameKind.cell) else (n,k')) :: _) = some k:=h
  by_cases e:(k' == NameKind.free && env.scope.kind == .function && env.kindOf n == some .cell) = true
  ·rw [if_pos e,ŕ] at h
   cases hx:x == n with
   | true =>
    rw [hx] at h; cases h
    simp only [ŗ,beq_iff_eq] at e
    refine ⟨.free,?_,.inr ⟨rfl,rfl⟩⟩
    rw [beq_iff_eq.mp hx,<- e.1.1]; exact ă
   | false=>rw [hx] at h; obtain ⟨q,m,z⟩:=ih h; exact ⟨q,Ă _ m,z⟩
  ·rw [if_neg e,ŕ] at h
   cases hx:x == n with
   | true=>rw [hx] at h; cases h; refine ⟨k',?_,.inl rfl⟩; rw [beq_iff_eq.mp hx]; exact ă
   | false=>rw [hx] at h; obtain ⟨q,m,z⟩:=ih h; exact ⟨q,Ă _ m,z⟩
section
variable {X:Cx} {pins:List (Addr × Obj)} {σ:St} {H:Hp} {s:Shared} {scope:Scope} {Tn Fn:List Str} {js:List Nat} {fp:List Addr}
theorem xM0 {C:Addr} {h1:Heap} {tk:Nat} {mC:Str->Option Value} (cs:CompScope X.env.scope scope X.N Tn Fn js) (I:Inv X pins σ H s) (hC:C = s.heap.objs.size) (hn:h1.Ns C mC) (k1:∀ b o,s.heap.get? b = some o->h1.get? b = some o)
  (hf:∀ b ∈ fp,FpOk X pins H b) (ho:∀ b ∈ fp,∃ o,s.heap.get? b = some o) :
  Inv (cxIn X (Tn ++ Fn) scope (ü X.env.cells scope.names []) C s H fp) (X.pn ++ pins) (innS Tn.length js σ) H { s with heap:=h1,toks:=tk }:=by
 have hcl:∀ x c,(ü X.env.cells scope.names []).lookup x = some c->X.env.cells.lookup x = some c:=fun x c e=>zK2 (names:=scope.names) (cs:=[]) (fun _ z=>nomatch z) _ (zE8 e)
 have hlen:(js.map fun j=>X.N[j]?).length = (Fn.map some).length:=congrArg List.length cs.idx
 rw [ā,ā] at hlen
 have hfr:∀ y ∈ scope.names,y.2 = .free->X.env.kindOf y.1 = some .cell:=cs.fre
 subst hC
 refine ⟨⟨I.ok.mod,cs.kind,I.ok.glob,I.ok.blt,ą _,fun x y c e1 e2=>I.ok.inj x y c (hcl x c e1) (hcl y c e2),fun x hx=>?_,fun x c z=>absurd z ĝ,I.ok.hd,I.ok.frames,.inl rfl,fun b hb=>⟨?_,fun x c e=>(hf b hb).2.2.2.2.1 x c (hcl x c e)⟩,I.bs,
  č I.ok.bsz I.sz,fun b o e hb=>?_,fun b hb z=>?_,I.stack,I.stkFree⟩,rfl,I.bare,Un.kept k1,⟨mC,hn,fun i x v e1 e2 e3=>?_⟩,fun x c e=>?_,I.fresh,fun x c e=>I.freeC x c (hcl x c e),fun p hp=>?_,I.hok.kept k1,?_⟩
 ·-- has
  have hx:(relabel scope X.env).names.lookup x = some .cell \/ (relabel scope X.env).names.lookup x = some .free:=hx
  have key:(x,NameKind.free) ∈ scope.names:=by
   rcases hx with hx | hx
   ·obtain ⟨k',m,z⟩:=zJ5 hx
    rcases z with z | ⟨z,_⟩
    ·subst z; exact absurd rfl (cs.nocell _ m)
    ·subst z; exact m
   ·obtain ⟨k',m,z⟩:=zJ5 hx
    rcases z with z | ⟨_,z⟩
    ·subst z; exact m
    ·cases z
  obtain ⟨a,ha⟩:=I.ok.has x (.inl (hfr _ key rfl))
  exact zK0 (zK3 ha key)
 ·obtain ⟨o,e⟩:=ho b hb
  exact Ħ (ć e)
 ·rcases (hf b hb).2.2.2.1 with z | z
  ·exact I.ok.noex b o e z
  ·exact absurd (ď (ć (I.ok.bs b o e).1) z) (Ń _)
 ·rcases Ē.mp (I.stkSub b z) with q | q
  ·exact (hf b hb).2.1 q
  ·exact (hf b hb).2.2.1 q
 ·-- names
  have e1:(Tn ++ Fn)[i]? = some x:=e1
  have e2:(List.replicate Tn.length none ++ js.map fun j=>(σ[j]?).join)[i]? = some (some v):=e2
  by_cases hi:i < Tn.length
  ·rw [List.getElem?_append_left (by simpa using hi),List.getElem?_replicate] at e2
   split at e2 <;> cases e2
  ·rw [ş (by simpa using hi)] at e2
   rw [ş (by simpa using hi)] at e1
   rw [List.length_replicate,đ] at e2
   cases ej:js[i - Tn.length]? with
   | none=>rw [ej] at e2; cases e2
   | some j =>
    rw [ej] at e2
    have e2:(σ[j]?).join = some v:=by simpa using e2
    have e2':σ[j]? = some (some v):=by
     cases q:σ[j]? with
     | none=>rw [q] at e2; cases e2
     | some o=>rw [q] at e2; cases o with
      | none=>cases e2
      | some v'=>cases e2; rfl
    have ej':X.N[j]? = some x:=by
     have h0:(js.map fun j=>X.N[j]?)[i - Tn.length]? = (Fn.map some)[i - Tn.length]?:=by rw [cs.idx]
     rw [đ,ej,đ,e1] at h0
     simpa using h0
    have hx:scope.names.lookup x = some .free:=cs.fn x (ċ e1)
    have hox:X.env.kindOf x = some .cell:=hfr _ (zE8 hx) rfl
    obtain ⟨m,hm,hl⟩:=I.loc
    obtain ⟨u,r,l⟩:=hl j x v ej' e2' (.inr (.inl hox))
    refine ⟨u,r,.inr ⟨.inl ?_,?_⟩⟩
    ·show (relabel scope X.env).names.lookup x = some .cell
     have z:=zG4 (env:=X.env) cs.okind (names:=scope.names) hfr hx
     rw [if_pos rfl] at z
     exact z
    ·rcases l with ⟨k,_⟩ | ⟨_,c,ec,z⟩
     ·rw [hox] at k; cases k
     ·obtain ⟨c',e'⟩:=zK0 (zK3 (cs:=[]) ec (zE8 hx))
      have:c' = c:=Option.some.inj ((hcl x c' e').symm.trans ec)
      subst this
      obtain ⟨o,q1,q2⟩:=z
      exact ⟨c',e',o,k1 _ _ q1,q2⟩
 ·obtain ⟨v,o,q1,q2⟩:=I.cell x c (hcl x c e)
  exact ⟨v,o,k1 _ _ q1,q2⟩
 ·have hp:p ∈ ([]:List (Addr × Obj)) ++ (X.pn ++ pins):=hp
  rw [List.nil_append] at hp
  obtain ⟨e,n,ne,nf,d⟩:=I.pin p hp
  refine ⟨k1 _ _ e,n,Ħ (ć e),fun z=>?_,d⟩
  rcases Ē.mp (I.stkSub p.1 z) with q | q
  ·exact ne q
  ·exact nf q
 ·show (List.replicate Tn.length none ++ js.map fun j=>(σ[j]?).join).length = (Tn ++ Fn).length
  rw [Ĝ,Ĝ,List.length_replicate,ā,hlen]
structure xA5 (X:Cx) (pins:List (Addr × Obj)) (C:Addr):Prop where
 nl:C ≠ X.env.locals
 yg:X.s₀.heap.objs.size <= C
 nc:∀ x c,X.env.cells.lookup x = some c->c ≠ C
 np:∀ p ∈ X.pn ++ pins,p.1 ≠ C
theorem Inv.letgo {C:Addr} {h2:Heap} (I:Inv X pins σ H s) (hn:H C = none) (c:xA5 X pins C) (sb:Heap.SameBut C s.heap h2):Inv X pins σ H { s with heap:=h2 } :=
 I.turned (t':=s.toks) (it:=C) (fun b o hb e=>(sb.2 b hb).trans e) hn c.nl (.inr c.yg) c.nc c.np
theorem Inv.cfree {C:Addr} (I:Inv X pins σ H s) (hC:C = s.heap.objs.size):xA5 X pins C:=by
 refine ⟨by rw [hC]; exact Ĩ I.lt,by rw [hC]; exact I.sz,fun x c e z=>?_,fun p hp z=>?_⟩
 ·obtain ⟨v,q⟩:=I.cell x c e
  have:=q.lt
  rw [z,hC] at this; exact absurd this (Ń _)
 ·have:=ć (I.pin p hp).1
  rw [z,hC] at this; exact absurd this (Ń _)
theorem xG9 {C:Addr} {cl:List (Str × Addr)} {N:List Str} {σ':St} {H':Hp} {pins':List (Addr × Obj)} {s':Shared} (I:Inv X pins σ H s) (hf:∀ b ∈ fp,FpOk X pins H b) (J:Inv (cxIn X N scope cl C s H fp) pins' σ' H' s'):Inv X pins σ H' s' :=
 I.call' (ch:=fp) J.os J.base J.hok J.bare fun b hb=>⟨(hf b hb).2.2.2.1,(hf b hb).2.1,(hf b hb).2.2.2.2.1,(hf b hb).2.2.2.2.2⟩
end
section
variable {prog:Program} {w:World} {A:Around} {s:Shared}
theorem yC9 {elt target iter:Expr} {ifs:List Expr} {scope:Scope} {pos:Pos} {it acc:Value} {env:Env} {R:Result->Shared->Prop} (I:Nat->Shared->Prop)
  (turn:∀ n s,I n s->wpAny (model prog w) A (pyNext it) (fun r s₁=>match r with
   | none=>R (.ok .next) s₁
   | some v=>wpAny (model prog w) A (letOwnedTupleGo target it v) (fun _ s₀=>wpAny (model prog w) A (assign target env v) (fun _ s₂ =>
     wpAny (model prog w) A (forIn ifs true fun c r=>if r = true then do let ok <- isTrue c env (eval c env); pure (ForInStep.yield ok) else pure (ForInStep.yield r)) (fun ok s₃ =>
      if ok = true then wpAny (model prog w) A (eval elt env) (fun x s₄ =>
       wpAny (model prog w) A (call (.builtin "list.append") [acc,x]) (fun _ s₅=>∃ m,m < n /\ I m s₅) (fun _ _=>False) s₄) (fun _ _=>False) s₃
      else ∃ m,m < n /\ I m s₃) (fun _ _=>False) s₂) (fun _ _=>False) s₀) (fun _ _=>False) s₁) (fun _ _=>False) s)
  (n:Nat) (h:I n s):codeAny (model prog w) A (.compLoop (.ListComp elt [⟨target,iter,ifs,0⟩] scope pos) 0 it acc env) R s:=by
 refine codeAny_loop rfl I (fun n s hI=>?_) n h
 show wpAny _ A ((compTurn (.ListComp elt [⟨target,iter,ifs,0⟩] scope pos) 0 it acc env).onRaise (fun x=>do noteFrame x env; theTreesLotGoes x)) _ _ s
 refine wpAny_noted ?_
 rw [compTurn_list]
 refine wpAny_bind (wpAny_standAt (wpAny_bind (wpAny_mono (turn n s hI) (fun r s₁ h₁=>?_) fun _ _ h'=>h'.elim)))
 cases r with
 | none=>exact wpAny_pure h₁
 | some v =>
  refine wpAny_bind (wpAny_mono h₁ (fun _ s₀ h₀'=>?_) fun _ _ h'=>h'.elim)
  refine wpAny_bind (wpAny_mono h₀' (fun _ s₂ h₂=>wpAny_bind (wpAny_mono h₂ (fun ok s₃ h₃=>?_) fun _ _ h'=>h'.elim)) fun _ _ h'=>h'.elim)
  cases ok with
  | false=>exact wpAny_pure ⟨rfl,h₃⟩
  | true =>
   exact wpAny_bind (wpAny_bind (wpAny_mono h₃ (fun x s₄ h₄=>wpAny_bind (wpAny_mono h₄ (fun _ s₅ h₅=>wpAny_pure (wpAny_pure ⟨rfl,h₅⟩)) fun _ _ h'=>h'.elim)) fun _ _ h'=>h'.elim))
end
noncomputable def PIfs (X:Cx) (ifs:List Expr) (t:TT):Prop :=
 ∀ (pins:List (Addr × Obj)) (s:Shared) (σ:St) (H:Hp) (Q:Bool->Hp->Prop),Inv X pins σ H s->t σ H Q ->
  wpAny (model X.prog X.w) X.A (forIn ifs true fun c r=>if r = true then do let ok <- isTrue c X.env (eval c X.env); pure (ForInStep.yield ok) else pure (ForInStep.yield r)) (TP X pins σ Q) X.xe s
noncomputable abbrev xO5:TT:=fun _ H Q=>Q true H
theorem Η {X:Cx}:PIfs X [] xO5:=fun _ _ _ H _ I h=>wpAny_tests_nil ⟨H,I,h⟩
theorem zN2 {X:Cx} {c:Expr} {t:TT} (h:PT X c t):PIfs X [c] t:=fun pins s σ H Q I hq=>wpAny_tests_one (h pins s σ H Q I hq)
noncomputable def zM1 (J:It) (g:TG) (tc:TT) (te:TE) (D:Addr) (Z:Hp->Prop) (σ:St) (H:Hp):Prop :=
 ∃ W:Nat->Nat->St->Hp->Prop,(∃ m,W 0 m σ H) /\ ∀ i m σ H,W i m σ H ->
  (J.stop i H /\ Z H) \/ (J.go i H /\ ∃ N:St->Hp->Prop,(∀ σ' H',N σ' H'->∃ m',m' < m /\ W (i + 1) m' σ' H') /\
   ∀ x H',J.yld i H x H'->g x σ H' fun σ2 H2=>tc σ2 H2 fun b H3=>if b = true then te σ2 H3 fun y H4=>∃ ys,H4 D = some (.lst ys) /\ ys.length < sizeLine /\ N σ2 (upd H4 D (.lst (ys ++ [y]))) else N σ2 H3)
section
variable {X:Cx} {scope:Scope} {Tn Fn:List Str} {js:List Nat} {tg iter elt:Expr} {ifs:List Expr} {wi:TI} {g:TG} {tc:TT} {te:TE} {pos:Pos}
theorem zZ8 {pins:List (Addr × Obj)} {σ:St} {H2:Hp} {s2:Shared} {it:Addr} {fp:List Addr} {tn:Nat->Heap->Prop} {J:It} {Z:Addr->Hp->Prop} {RR:Value->Addr->Result->Shared->Prop} {E:Value->Shared->Prop} (hc:X.calm = true)
  (cs:CompScope X.env.scope scope X.N Tn Fn js)
  (hg:∀ C s H fp,PG (cxIn X (Tn ++ Fn) scope (ü X.env.cells scope.names []) C s H fp) tg g) (ht:∀ C s H fp,PIfs (cxIn X (Tn ++ Fn) scope (ü X.env.cells scope.names []) C s H fp) ifs tc)
  (he:∀ C s H fp,PE (cxIn X (Tn ++ Fn) scope (ü X.env.cells scope.names []) C s H fp) elt te)
  (I2:Inv X pins σ H2 s2) (T:Turn X.prog X.w X.K tg J fp it tn) (st2:tn 0 s2.heap) (f2:∀ b ∈ fp,FpOk X pins H2 b)
  (hb:∀ D,H2 D = none->zM1 J g tc te D (Z D) (innS Tn.length js σ) (upd H2 D (.lst [])))
  (fin:∀ D C s' H' m,s'.heap.Ns C m->Inv X pins σ H' s'->H' C = none->xA5 X pins C->Z D H'->RR (.ref D) C (.ok .next) s') :
  wpAny (model X.prog X.w) X.A (newList []) (fun acc s₃=>wpAny (model X.prog X.w) X.A (newFunctionEnv scope X.env.globals (ü X.env.cells scope.names []) [] X.env.qual none .none (some X.env)) (fun cenv s₄ =>
   codeAny (model X.prog X.w) X.A (.compStart (.ListComp elt [⟨tg,iter,ifs,0⟩] scope pos) 0 (.ref it) acc { cenv with scope:=relabel scope X.env }) (RR acc cenv.locals) s₄) E s₃) E s2:=by
 refine wpAny_newObj_type (wpAny_newFunctionEnv cs.nocell (by intro y hy; simp at hy) (fun h₁ hns₁ hsb₁=>?_) cs.kind)
 dsimp only at hns₁ hsb₁ ⊢
 have I3:=I2.lnew (its:=[]) (ys:=[]) (t':=s2.toks) .nil (Ī _)
 have fD:H2 s2.heap.objs.size = none:=I2.fresh
 obtain ⟨W,⟨m0,w0⟩,turn⟩:=hb _ fD
 generalize hH2:s2.heap.push { cls:=.type "list",dict:=none,data:=.seq ([]:List Value).toArray } = g2 at hns₁ hsb₁ I3 ⊢
 have up2:∀ b o,s2.heap.get? b = some o->g2.get? b = some o:=fun b o e=>hH2 ▸ Ĉ _ e
 generalize hD:s2.heap.objs.size = D at *
 have up3:∀ b o,g2.get? b = some o->h₁.get? b = some o:=fun b o e=>hsb₁.extBut b o (Ħ (ć e)) (Ĉ _ e)
 have hob:∀ b ∈ fp,∃ o,s2.heap.get? b = some o:=fun b hb=>let ⟨o,e,_⟩:=T.obj 0 _ st2 b hb; ⟨o,e⟩
 have neD:∀ b ∈ fp,b ≠ D:=fun b hb=>by
  obtain ⟨o,e⟩:=hob b hb
  rw [<- hD]; exact Ħ (ć e)
 have f3:∀ b ∈ fp,FpOk X pins (upd H2 D (.lst [])) b:=fun b hb=>⟨by rw [upd_ne (neD b hb)]; exact (f2 b hb).1,(f2 b hb).2⟩
 have J0:=xM0 (fp:=fp) (tk:=s2.toks + ([]:List (Str × Value)).length) cs I3 rfl hns₁ up3 f3 fun b hb=>let ⟨o,e⟩:=hob b hb; ⟨o,up2 b o e⟩
 have tn0:tn 0 h₁:=T.keep _ _ _ st2 fun b hb o e=>up3 b o (up2 b o e)
 have cf:xA5 X pins g2.objs.size:=I3.cfree rfl
 generalize hX':cxIn X (Tn ++ Fn) scope (ü X.env.cells scope.names []) g2.objs.size { s2 with heap:=g2,toks:=s2.toks } (upd H2 D (.lst [])) fp = X' at J0
 have eP:X'.prog = X.prog:=by rw [<- hX']; rfl
 have ew:X'.w = X.w:=by rw [<- hX']; rfl
 have eK:X'.K = X.K:=by rw [<- hX']; rfl
 have eA:X'.A = X.A:=by rw [<- hX']; rfl
 have ec:X'.calm = true:=by rw [<- hX']; exact hc
 have ee:X'.env = compEnvC scope (ü X.env.cells scope.names []) g2.objs.size X.env:=by rw [<- hX']; rfl
 have ex:X'.xe = fun _ _=>False:=by rw [<- hX']; rfl
 have Hg:PG X' tg g:=by rw [<- hX']; exact hg _ _ _ _
 have Ht:PIfs X' ifs tc:=by rw [<- hX']; exact ht _ _ _ _
 have He:PE X' elt te:=by rw [<- hX']; exact he _ _ _ _
 have out:∀ {pins' σ' H' s'},Inv X' pins' σ' H' s'->Inv X pins σ H' s':=by
  intro pins' σ' H' s' J
  rw [<- hX'] at J
  exact xG9 I3 f3 J
 have fsX:∀ b ∈ fp,b ∉ X'.fs:=by
  intro b hb z
  rw [<- hX'] at z
  rcases Ē.mp (I3.stkSub b z) with q | q
  ·exact (f3 b hb).2.1 q
  ·exact (f3 b hb).2.2.1 q
 have stat:∀ {H':Hp},(∀ b ∈ fp,H' b = none)->∀ b ∈ fp,FpOk X' (X.pn ++ pins) H' b:=fun {H'} hn b hb=>by
  refine ⟨hn b hb,?_,fsX b hb,.inl (by rw [<- hX']; exact hb),?_,?_⟩
  ·rw [ee]
   obtain ⟨o,e⟩:=hob b hb
   exact Ħ (ć (up2 b o e))
  ·intro x c e
   rw [ee] at e
   exact (f3 b hb).2.2.2.2.1 x c (zK2 (names:=scope.names) (cs:=[]) (fun _ z=>nomatch z) _ (zE8 e))
  ·intro p hp
   have hp:p ∈ X.pn ++ pins:=by rw [<- hX'] at hp; simpa [cxIn] using hp
   exact (f3 b hb).2.2.2.2.2 p hp
 have loop:∀ s4:Shared,s4 = { s2 with heap:=h₁,toks:=s2.toks + ([]:List (Str × Value)).length } ->
   codeAny (model X.prog X.w) X.A (.compLoop (.ListComp elt [⟨tg,iter,ifs,0⟩] scope pos) 0 (.ref it) (.ref D) (compEnvC scope (ü X.env.cells scope.names []) g2.objs.size X.env)) (RR (.ref D) g2.objs.size) s4:=by
  rintro s4 rfl
  refine yC9 (fun n s'=>∃ i σ' H',Inv X' (X.pn ++ pins) σ' H' s' /\ tn i s'.heap /\ (∀ b ∈ fp,H' b = none) /\ W i n σ' H') ?_ m0 ⟨0,_,_,J0,tn0,fun b hb=>(f3 b hb).1,w0⟩
  rintro n s5 ⟨i,σ5,H5,I5,st5,fr5,w5⟩
  rw [<- ee,<- eA,<- eP,<- ew,<- ex]
  rcases turn i n σ5 H5 w5 with ⟨stop,qz⟩ | ⟨go,N,hN,step⟩
  ·have td:=T.done X' eP ew eK ec i (X.pn ++ pins) s5 σ5 H5 X'.xe I5 (stat fr5) st5 stop
   rw [<- eP,<- ew] at td
   refine thn td fun r s6 ⟨hr,I6⟩=>?_
   subst hr
   obtain ⟨m,hm,_⟩:=id I6.loc
   rw [ee] at hm
   have hfr:=I6.free
   rw [ee] at hfr
   exact fin D _ s6 H5 m hm (out I6) hfr cf qz
  ·have ti:=T.item X' eP ew eK ec i (X.pn ++ pins) s5 σ5 H5 X'.xe I5 (stat fr5) st5 go
   rw [<- eP,<- ew] at ti
   refine thn ti fun r s6 ⟨u,hr,h6⟩=>?_
   subst hr
   refine thn h6 fun _ s7 ⟨x,H7,I7,r7,y7,st7,fr7⟩=>?_
   have I7':=I7.pinned (stat fr7) (T.obj _ _ st7)
   refine thn (Hg _ s7 σ5 H7 x u _ I7' r7 (step x H7 y7)) fun _ s8 ⟨σ8,H8,I8,q8⟩=>?_
   refine thn (Ht _ s8 σ8 H8 _ I8 q8) fun ok s9 ⟨H9,I9,q9⟩=>?_
   have again:∀ {σa:St} {Ha:Hp} {sa:Shared},Inv X' ((X.pn ++ pins) ++ zX4 fp s7.heap) σa Ha sa->N σa Ha->∃ m,m < n /\ ∃ i σ' H',Inv X' (X.pn ++ pins) σ' H' sa /\ tn i sa.heap /\ (∀ b ∈ fp,H' b = none) /\ W i m σ' H':=fun {σa Ha sa} Ia na=>by
    obtain ⟨m',hm,wa⟩:=hN σa Ha na
    refine ⟨m',hm,i + 1,σa,Ha,Ia.unpinned,T.keep _ _ _ st7 fun b hb o e=>(Ia.pin (b,o) (ĩ _ (ĩ _ (zG2 hb e)))).1,fun b hb=>?_,wa⟩
    obtain ⟨o,e,d⟩:=T.obj _ _ st7 b hb
    exact (Ia.pin (b,o) (ĩ _ (ĩ _ (zG2 hb e)))).2.1
   cases ok with
   | false=>exact again I9 q9
   | true =>
    refine thn (He _ s9 σ8 H9 _ I9 q9) fun y s10 ⟨yv,H10,I10,r10,ys,e10,l10,n10⟩=>?_
    exact thn (û (X:=X') _ s10 σ8 H10 (.ref D) [yv] (.ref D) [y] (fun _ H'=>N σ8 H') I10 rfl (.cons r10 .nil) ⟨D,ys,yv,rfl,rfl,e10,l10,n10⟩) fun _ s11 ⟨_,H11,I11,_,n11⟩=>again I11 n11
 exact codeAny_compStart_list (loop _ rfl) (T.self _ 0 _ _ _ tn0 (loop _ rfl))
noncomputable def xI6 (wi:TI) (g:TG) (tc:TT) (te:TE) (k:Nat) (js:List Nat):TE:=fun σ H Q=>wi σ H fun J H1=>∀ D,H1 D = none->zM1 J g tc te D (Q (.ref D)) (innS k js σ) (upd H1 D (.lst []))
theorem Κ (Tn Fn:List Str) (js:List Nat) (hc:X.calm = true) (h:yH1 X.env.scope scope X.N Tn Fn js = true) (hi:PI X tg iter wi)
  (hg:∀ C s H fp,PG (cxIn X (Tn ++ Fn) scope (ü X.env.cells scope.names []) C s H fp) tg g) (ht:∀ C s H fp,PIfs (cxIn X (Tn ++ Fn) scope (ü X.env.cells scope.names []) C s H fp) ifs tc)
  (he:∀ C s H fp,PE (cxIn X (Tn ++ Fn) scope (ü X.env.cells scope.names []) C s H fp) elt te) (hs:∀ x,foldedSetIterable iter X.env x = pure x:=by intro _; rfl) :
  PE X (.ListComp elt [⟨tg,iter,ifs,0⟩] scope pos) (xI6 wi g tc te Tn.length js):=by
 intro pins s σ H Q I hq
 have cs:=CompScope.of h
 rw [eval_ListComp]
 refine wpAny_comprehension_free (use:=none) rfl hs (zI6 ?_) cs.kind cs.loc (thn (hi pins s σ H _ I hq) fun xv s1 h1=>thn h1 fun itv s2 h2=>?_)
 ·intro x hx e; exact I.ok.has x.1 (.inl (cs.fre x hx e))
 obtain ⟨it,fp,tn,J,H2,rfl,I2,T,st2,f2,hb⟩:=h2
 refine zZ8 (Z:=fun D H'=>Q (.ref D) H') (RR:=fun acc C=>compPost (model X.prog X.w) X.A X.xe none (EP X pins σ Q) acc C) hc cs hg ht he I2 T st2 f2 hb ?_
 intro D C s' H' m hm I' hn cf z
 exact ⟨m,hm,fun h' sb=>⟨.ref D,H',I'.letgo hn cf sb,rfl,z⟩⟩
theorem zJ6 (Tn Fn:List Str) (js:List Nat) {i:Nat} {y:Str} {py spos:Pos} (hN:X.N.Nodup) (hiN:X.N[i]? = some y) (hy:X.env.scope.names.lookup y = some .local) (hc:X.calm = true) (h:yH1 X.env.scope scope X.N Tn Fn js = true) (hi:PI X tg iter wi)
  (hg:∀ C s H fp,PG (cxIn X (Tn ++ Fn) scope (ü X.env.cells scope.names []) C s H fp) tg g) (ht:∀ C s H fp,PIfs (cxIn X (Tn ++ Fn) scope (ü X.env.cells scope.names []) C s H fp) ifs tc)
  (he:∀ C s H fp,PE (cxIn X (Tn ++ Fn) scope (ü X.env.cells scope.names []) C s H fp) elt te) (hsw:swapsWith (.ListComp elt [⟨tg,iter,ifs,0⟩] scope pos) (some (.Name y py)) spos.line X.env = pure true:=by rfl)
  (hs:∀ x,foldedSetIterable iter X.env x = pure x:=by intro _; rfl) :
  PS X (.Assign [.Name y py] (.ListComp elt [⟨tg,iter,ifs,0⟩] scope pos) spos) (tAsg (xI6 wi g tc te Tn.length js) (xH2 i)):=by
 intro pins s σ H D0 I hq
 have cs:=CompScope.of h
 rw [exec_Assign_Name_used _ _ _ _ hsw]
 refine wpAny_bind (wpAny_standAt (wpAny_bind ?_))
 show wpAny _ X.A (do let _ <- comprehension (.ListComp elt [⟨tg,iter,ifs,0⟩] scope pos) scope X.env _ (newList []) false (eval iter X.env) (some (assign (.Name y py) X.env))) _ _ s
 refine wpAny_bind (wpAny_mono (wpAny_comprehension_free (use:=some (assign (.Name y py) X.env)) (Q:=fun _ s'=>SP X pins D0 .next s') rfl hs (zI6 ?_) cs.kind cs.loc
  (thn (hi pins s σ H _ I hq) fun xv s1 h1=>thn h1 fun itv s2 h2=>?_)) (fun _ s' hq=>wpAny_pure (wpAny_pure hq)) fun _ _ e=>e)
 ·intro x hx e; exact I.ok.has x.1 (.inl (cs.fre x hx e))
 obtain ⟨it,fp,tn,J,H2,rfl,I2,T,st2,f2,hb⟩:=h2
 refine zZ8 (Z:=fun D H'=>D0.nx (σ.set i (some (.ref D))) H') (RR:=fun acc C=>compPost (model X.prog X.w) X.A X.xe (some (assign (.Name y py) X.env)) (fun _ s'=>SP X pins D0 .next s') acc C) hc cs hg ht he I2 T st2 f2 hb ?_
 intro D C s' H' m hm I' hn cf z
 show wpAny _ X.A (assign (.Name y py) X.env (.ref D)) _ _ s'
 refine wpAny_assign_Name (zV9 (v:=.ref D) I' hN hiN (.inl hy) rfl (fun s'' I'' sb=>?_) (.inr hy))
 obtain ⟨a,sb,ha⟩:=sb
 have hCa:C ≠ a:=by
  rcases ha with e | e
  ·rw [e]; exact cf.nl
  ·exact fun z=>cf.nc _ _ e z.symm
 exact ⟨m,hm.sameBut sb hCa,fun h' sb'=>⟨_,H',I''.letgo hn cf sb',z⟩⟩
end
theorem zD9 {K:Ā} {a:Addr} {xs:List V} {g:TG} {tc:TT} {te:TE} {D:Addr} {Z:Hp->Prop} {σ:St} {H:Hp} (Pv:Nat->St->Hp->Prop) (h0:Pv 0 σ H) (hl:∀ i σ H,i <= xs.length->Pv i σ H->SqL K H a xs)
  (hs:∀ i x σ H,xs[i]? = some x->Pv i σ H->g x σ H fun σ2 H2=>tc σ2 H2 fun b H3=>if b = true then te σ2 H3 fun y H4=>∃ ys,H4 D = some (.lst ys) /\ ys.length < sizeLine /\ Pv (i + 1) σ2 (upd H4 D (.lst (ys ++ [y]))) else Pv (i + 1) σ2 H3)
  (hd:∀ σ H,Pv xs.length σ H->Z H):zM1 (Itl K a) g tc te D Z σ H:=by
 refine ⟨fun i m σ H=>m = xs.length - i /\ i <= xs.length /\ Pv i σ H,⟨xs.length,by simp,Ī _,h0⟩,?_⟩
 rintro i m σ H ⟨rfl,hi,p⟩
 have q:=hl i σ H hi p
 by_cases hlt:i < xs.length
 ·refine .inr ⟨⟨xs,xs[i],q,by simp [hlt]⟩,Pv (i + 1),fun σ' H' p'=>⟨xs.length - (i + 1),by omega,rfl,hlt,p'⟩,fun x H' y=>?_⟩
  obtain ⟨e,y⟩:=y
  subst e
  exact hs i x σ _ (y xs q) p
 ·have e:i = xs.length:=by omega
  subst e
  exact .inl ⟨⟨xs,q,ą _⟩,hd σ H p⟩
theorem zO5 {lo:Int} {n:Nat} {g:TG} {tc:TT} {te:TE} {D:Addr} {Z:Hp->Prop} {σ:St} {H:Hp} (Pv:Nat->St->Hp->Prop) (h0:Pv 0 σ H)
  (hs:∀ i σ H,i < n->Pv i σ H->g (.int (lo + i)) σ H fun σ2 H2=>tc σ2 H2 fun b H3=>if b = true then te σ2 H3 fun y H4=>∃ ys,H4 D = some (.lst ys) /\ ys.length < sizeLine /\ Pv (i + 1) σ2 (upd H4 D (.lst (ys ++ [y]))) else Pv (i + 1) σ2 H3)
  (hd:∀ σ H,Pv n σ H->Z H):zM1 (Itr lo n) g tc te D Z σ H:=by
 refine ⟨fun i m σ H=>m = n - i /\ i <= n /\ Pv i σ H,⟨n,by simp,Ī _,h0⟩,?_⟩
 rintro i m σ H ⟨rfl,hi,p⟩
 by_cases hlt:i < n
 ·refine .inr ⟨hlt,Pv (i + 1),fun σ' H' p'=>⟨n - (i + 1),by omega,rfl,hlt,p'⟩,fun x H' y=>?_⟩
  obtain ⟨e,y⟩:=y
  subst e y
  exact hs i σ _ hlt p
 ·have e:i = n:=by omega
  subst e
  exact .inl ⟨ą _,hd σ H p⟩
mutual
noncomputable def RepD (K:Ā) (H:Hp):PyData->V->Prop
 | .none,v=>v = .non
 | .bool b,v=>v = .bl b
 | .int i,v=>v = .int i
 | .str x,v=>v = .str x /\ (PyData.str x).canLay0 = true
 | .tuple xs,v=>∃ a vs,v = .ref a /\ SqT K H a vs /\ RepDs K H xs vs
 | .list xs,v=>∃ a vs,v = .ref a /\ SqL K H a vs /\ RepDs K H xs vs
 | .dict _,_=>False
noncomputable def RepDs (K:Ā) (H:Hp):List PyData->List V->Prop
 | [],vs=>vs = []
 | d :: ds,vs=>∃ v r,vs = v :: r /\ RepD K H d v /\ RepDs K H ds r
end
section
variable {X:Cx} {pins:List (Addr × Obj)} {σ:St} {H:Hp} {s:Shared}
mutual
theorem RepD.reads (I:Inv X pins σ H s):∀ {d:PyData} {v:V} {u:Value},RepD X.K H d v->RelV v u->∃ as,Reads s.heap u d as
 | .none,v,u,h,r=>by
  have h:v = .non:=by simpa [RepD] using h
  subst h; cases r; exact ⟨_,.none⟩
 | .bool b,v,u,h,r=>by
  have h:v = .bl b:=by simpa [RepD] using h
  subst h; cases r; exact ⟨_,.bool b⟩
 | .int i,v,u,h,r=>by
  have h:v = .int i:=by simpa [RepD] using h
  subst h; obtain ⟨t,rfl⟩:=r; exact ⟨_,.int i t⟩
 | .str x,v,u,h,r=>by
  simp only [RepD] at h
  obtain ⟨rfl,_⟩:=h
  obtain ⟨t,rfl⟩:=r; exact ⟨_,.str x t⟩
 | .tuple xs,v,u,h,r=>by
  have h:∃ a vs,v = .ref a /\ SqT X.K H a vs /\ RepDs X.K H xs vs:=by simpa [RepD] using h
  obtain ⟨a,vs,rfl,q,rs⟩:=h
  cases r
  obtain ⟨its,rv,p,_⟩:=I.tuple q
  obtain ⟨o,e,c,n,d⟩:=(show s.heap.IsTuple a its.toArray from p)
  obtain ⟨as,ra⟩:=RepDs.reads I rs rv
  exact ⟨_,.tuple e c d (by simpa using ra)⟩
 | .list xs,v,u,h,r=>by
  have h:∃ a vs,v = .ref a /\ SqL X.K H a vs /\ RepDs X.K H xs vs:=by simpa [RepD] using h
  obtain ⟨a,vs,rfl,q,rs⟩:=h
  cases r
  obtain ⟨its,rv,p,_⟩:=I.list q
  obtain ⟨o,e,c,n,d⟩:=p.isList
  obtain ⟨as,ra⟩:=RepDs.reads I rs rv
  exact ⟨_,.list e c d (by simpa using ra)⟩
 | .dict _,v,u,h,r=>by
  have h:False:=by simpa [RepD] using h
  exact h.elim
theorem RepDs.reads (I:Inv X pins σ H s):∀ {ds:List PyData} {vs:List V} {us:List Value},RepDs X.K H ds vs->Vals vs us->∃ as,ReadsAll s.heap us ds as
 | [],vs,us,h,r=>by
  have h:vs = []:=by simpa [RepDs] using h
  subst h; cases r; exact ⟨_,.nil⟩
 | d :: ds,vs,us,h,r=>by
  have h:∃ v r,vs = v :: r /\ RepD X.K H d v /\ RepDs X.K H ds r:=by simpa [RepDs] using h
  obtain ⟨v,rs,rfl,h1,h2⟩:=h
  cases r with
  | cons a b =>
   obtain ⟨as,r1⟩:=RepD.reads I h1 a
   obtain ⟨bs,r2⟩:=RepDs.reads I h2 b
   exact ⟨_,.cons r1 r2⟩
end
mutual
theorem RepD.lay {K:Ā}:∀ {d:PyData} {v:V},RepD K H d v->d.canLay0 = true
 | .none,_,_=>rfl
 | .bool _,_,_=>rfl
 | .int _,_,_=>rfl
 | .str x,v,h=>by
  simp only [RepD] at h
  exact h.2
 | .tuple xs,v,h=>by
  have h:∃ a vs,v = .ref a /\ SqT K H a vs /\ RepDs K H xs vs:=by simpa [RepD] using h
  obtain ⟨a,vs,rfl,q,rs⟩:=h
  have:=RepDs.lay rs
  simpa [PyData.canLay0] using this
 | .list xs,v,h=>by
  have h:∃ a vs,v = .ref a /\ SqL K H a vs /\ RepDs K H xs vs:=by simpa [RepD] using h
  obtain ⟨a,vs,rfl,q,rs⟩:=h
  have:=RepDs.lay rs
  simpa [PyData.canLay0] using this
 | .dict _,v,h=>by
  have h:False:=by simpa [RepD] using h
  exact h.elim
theorem RepDs.lay {K:Ā}:∀ {ds:List PyData} {vs:List V},RepDs K H ds vs->PyData.canLayAll0 ds = true
 | [],_,_=>rfl
 | d :: ds,vs,h=>by
  have h:∃ v r,vs = v :: r /\ RepD K H d v /\ RepDs K H ds r:=by simpa [RepDs] using h
  obtain ⟨v,rs,rfl,h1,h2⟩:=h
  have a:=RepD.lay h1
  have b:=RepDs.lay h2
  simp [PyData.canLayAll0,a,b]
end
end
section
variable {X:Cx} {k:Nat}
noncomputable def rEqD (K:Ā):R2:=fun x y H Q=>∃ d d',RepD K H d x /\ RepD K H d' y /\ d.depth <= 64 /\ Q (.bl (PyData.eqv d d')) H
noncomputable def rNeD (K:Ā):R2:=fun x y H Q=>∃ d d',RepD K H d x /\ RepD K H d' y /\ d.depth <= 64 /\ Q (.bl (!PyData.eqv d d')) H
theorem xK8 (hr:Room k X.A):OpR X (compareOp .Eq) (rEqD X.K):=by
 intro pins s σ H x y v u Q I rx ry h
 obtain ⟨d,d',h1,h2,hd,q⟩:=h
 obtain ⟨as,r1⟩:=h1.reads I rx
 obtain ⟨bs,r2⟩:=h2.reads I ry
 exact SeqAt.compareEq_reads r1 r2 h1.lay h2.lay (by have:=hr.units; have:min d.depth d'.depth <= d.depth:=Nat.min_le_left _ _; omega) ⟨.bl _,H,I,rfl,q⟩
theorem xK6 (hr:Room k X.A):OpR X (compareOp .NotEq) (rNeD X.K):=by
 intro pins s σ H x y v u Q I rx ry h
 obtain ⟨d,d',h1,h2,hd,q⟩:=h
 obtain ⟨as,r1⟩:=h1.reads I rx
 obtain ⟨bs,r2⟩:=h2.reads I ry
 exact SeqAt.compareNe_reads r1 r2 h1.lay h2.lay (by have:=hr.units; have:min d.depth d'.depth <= d.depth:=Nat.min_le_left _ _; omega) ⟨.bl _,H,I,rfl,q⟩
end
noncomputable def pq (t b:Int):PyData:=.tuple [.int t,.int b]
theorem θ {K:Ā} {H:Hp} {a:Addr} {t b:Int} (h:SqT K H a [.int t,.int b]):RepD K H (pq t b) (.ref a):=by
 simp only [pq,RepD,RepDs]
 exact ⟨a,_,rfl,h,_,_,rfl,rfl,_,_,rfl,rfl,rfl⟩
theorem yG9 (t b t' b':Int):PyData.eqv (pq t b) (pq t' b') = decide (t = t' /\ b = b'):=by
 simp [pq,PyData.eqv,PyData.eqvAll,Bool.beq_eq_decide_eq]
theorem Β (t b:Int):(pq t b).depth <= 64:=by
 simp [pq,PyData.depth,PyData.depthAll]
section
variable {P:Program} {w:World} {K:Ā} {mg:Str->Option Value} {base:Heap}
theorem DefAt.okE {x:Str} {st:Stmt} {N ps:List Str} {k:Nat} {sp:Sp} (D:DefAt K mg x st) (S:Ì N ps (Å st)) (len:∀ vs H Q E,sp vs H Q E->vs.length = ps.length)
  (hb:∀ (kV doc pm:Value) (an:Option Addr) (cdv ct:Value) (us:List Value),us.length = ps.length->bindArgs (Ď x x (Ë st) (É st) (Å st) .none kV doc pm an cdv ct) ⟨us,[]⟩ = pure (ps.zip us))
  (hbody:∀ (f:Addr) (cdv:Value) (A:Around) (outer:List Env) (s:Shared) (H:Hp) (vs:List V) (Q:VK) (E:XK),Room k (A.deeper (envOfC x (Å st) s.heap.objs.size f cdv))->sp vs H Q E ->
   ∃ t,PSs (cxOf (CXE P w) P w K mg base N x (Å st) f cdv A outer s H E) (É st) t /\ t { nx:=fun _ H'=>Q .non H',rt:=Q } (start N vs) H):FnAt P w K mg base (CXE P w) (k + 1) x ps sp:=by
 obtain ⟨f,fd,F,m⟩:=D.ex
 have hF:=F
 obtain ⟨oc,od,kV,doc,pm,an,cdv,ct,osl,rfl,lk,hcd⟩:=F.ex
 exact ⟨f,_,xM6 lk hcd S len fun A outer s H vs Q E hr hsp=>hbody f cdv A outer s H vs Q E hr hsp,m,hF.kp,hF.binds hb⟩
end
theorem xC1 {X:Cx}:yA5 (CXE X.prog X.w) X E0:=fun _ _ _ _ _ _ _ ⟨_,_,_,_,_,_,_,_,_,_,q⟩=>q.elim
end L2
namespace Tc
open PySem L2
noncomputable abbrev fq (r:Rat):List V:=[.int r.num,.int (r.den:Nat)]
noncomputable def FrV (H:Hp) (v:V) (r:Rat):Prop:=∃ a,v = .ref a /\ H a = some (.tup (fq r))
theorem FrV.same {H H':Hp} {v:V} {r:Rat} (h:FrV H v r) (s:Same H H'):FrV H' v r:=let ⟨a,e,h⟩:=h; ⟨a,e,s _ _ h⟩
theorem FrV.upd {H:Hp} {v:V} {r:Rat} {p:Addr} {o:HO} (h:FrV H v r) (n:H p = none):FrV (upd H p o) v r:=h.same (Same.upd n)
theorem FrV.new {H:Hp} {r:Rat} {p:Addr}:FrV (L2.upd H p (.tup (fq r))) (.ref p) r:=⟨p,rfl,Á⟩
theorem FrV.newOf {H:Hp} {r:Rat} {p:Addr} {t b:Int} (h1:t = r.num) (h2:b = (r.den:Int)):FrV (L2.upd H p (.tup [.int t,.int b])) (.ref p) r:=by
 subst h1 h2; exact FrV.new
theorem FrV.ty {H:Hp} {v:V} {r:Rat} (h:FrV H v r):tyS H v = some "tuple":=by
 obtain ⟨a,rfl,h⟩:=h
 show tyH (H a) = _
 rw [h]; rfl
theorem FrV.rep {K:Ā} {H:Hp} {v:V} {r:Rat} (h:FrV H v r):RepD K H (pq r.num r.den) v:=by
 obtain ⟨a,rfl,h⟩:=h
 exact θ (SqT.of h)
theorem yG7 (r q:Rat):decide (r.num = q.num /\ (r.den:Int) = q.den) = decide (r = q):=by
 rw [decide_eq_decide]
 constructor
 ·rintro ⟨h1,h2⟩; exact xM5 h1 h2
 ·rintro rfl; exact ⟨rfl,rfl⟩
structure Bd (n:Nat) (r:Rat):Prop where
 num:r.num.natAbs < 2 ^ n
 den:r.den < 2 ^ n
theorem Δ {m n:Nat} (h:m <= n):(2:Nat) ^ m <= 2 ^ n:=ĥ (by decide) h
theorem Bd.mono {m n:Nat} {r:Rat} (b:Bd m r) (h:m <= n):Bd n r:=⟨ď b.num (Δ h),ď b.den (Δ h)⟩
theorem Bd.neg {n:Nat} {r:Rat} (b:Bd n r):Bd n (-r):=⟨by rw [Rat.neg_num,Int.natAbs_neg]; exact b.num,by rw [Rat.neg_den]; exact b.den⟩
theorem Bd.inv {n:Nat} {r:Rat} (b:Bd n r) (h:r ≠ 0):Bd n r⁻¹:=by
 have hn:r.num ≠ 0:=fun z=>h (Rat.num_eq_zero.mp z)
 have e:r⁻¹ = Ě r.den r.num:=Rat.inv_def r
 have e1:=zY8 (t:=(r.den:Int)) (b:=r.num) hn
 have e2:=zZ0 (t:=(r.den:Int)) (b:=r.num) hn
 have g:Ĵ (r.den:Int) r.num = 1:=yG5 r
 refine ⟨?_,?_⟩
 ·rw [e,<- e1]
  have:((r.den:Int).fdiv (dv r.den r.num)).natAbs <= r.den:=by
   unfold dv; rw [g]
   split
   ·have e:((r.den:Int)).fdiv (-((1:Nat):Int)) = -(r.den:Int):=by
     show ((r.den:Int)).fdiv (-1) = _
     rw [Int.fdiv_neg (by simp)]; simp
    rw [e]; omega
   ·have e:((r.den:Int)).fdiv (((1:Nat):Int)) = (r.den:Int):=by
     show ((r.den:Int)).fdiv 1 = _
     simp
    rw [e]; omega
  exact Ę this b.den
 ·rw [e]
  have:((r.num).fdiv (dv r.den r.num)).natAbs <= r.num.natAbs:=by
   unfold dv; rw [g]
   split
   ·have e:(r.num).fdiv (-((1:Nat):Int)) = -r.num:=by
     show (r.num).fdiv (-1) = _
     rw [Int.fdiv_neg (by simp)]; simp
    rw [e]; omega
   ·have e:(r.num).fdiv (((1:Nat):Int)) = r.num:=by
     show (r.num).fdiv 1 = _
     simp
    rw [e]; omega
  rw [e2] at this
  have q:=b.num
  omega
theorem zD1 {a b:Int} {m n:Nat} (ha:a.natAbs < 2 ^ m) (hb:b.natAbs < 2 ^ n):(a * b).natAbs < 2 ^ (m + n):=by
 rw [ŀ,ī]
 exact Nat.mul_lt_mul'' ha hb
theorem yT0 (t b:Int) (hb:b ≠ 0):(Ě t b).num.natAbs <= t.natAbs:=by
 rw [<- zY8 hb]
 have h:=Int.fdiv_mul_cancel (zF2 t b)
 have h2:((t.fdiv (dv t b)) * dv t b).natAbs = t.natAbs:=by rw [h]
 rw [ŀ] at h2
 have h3:0 < (dv t b).natAbs:=by have:=zY9 (t:=t) hb; omega
 rw [<- h2]
 exact Nat.le_mul_of_pos_right _ h3
theorem zI3 (t b:Int) (hb:b ≠ 0):(Ě t b).den <= b.natAbs:=by
 have e:=zZ0 (t:=t) hb
 have h:=Int.fdiv_mul_cancel (zE2 t b)
 have h2:((b.fdiv (dv t b)) * dv t b).natAbs = b.natAbs:=by rw [h]
 rw [ŀ,e] at h2
 have h3:0 < (dv t b).natAbs:=by have:=zY9 (t:=t) hb; omega
 have:(((Ě t b).den:Int)).natAbs <= b.natAbs:=by rw [<- h2]; exact Nat.le_mul_of_pos_right _ h3
 omega
theorem Bd.divInt {n:Nat} {t b:Int} (hb:b ≠ 0) (h1:t.natAbs < 2 ^ n) (h2:b.natAbs < 2 ^ n):Bd n (Ě t b):=⟨Ę (yT0 t b hb) h1,Ę (zI3 t b hb) h2⟩
theorem xO2 (r q:Rat):r + q = Ě (r.num * q.den + q.num * r.den) (r.den * q.den):=by
 have h:=Rat.divInt_add_divInt r.num q.num (d₁:=r.den) (d₂:=q.den) (by have:=ã r; omega) (by have:=ã q; omega)
 rw [Ł,Ł] at h
 exact h
theorem Bd.mul {m n:Nat} {r q:Rat} (b1:Bd m r) (b2:Bd n q):Bd (m + n) (r * q):=by
 rw [<- yQ5]
 have d1:=ã r
 have d2:=ã q
 have n1:((r.den:Int)).natAbs < 2 ^ m:=b1.den
 have n2:((q.den:Int)).natAbs < 2 ^ n:=b2.den
 exact Bd.divInt (ũ (by omega) (by omega)) (zD1 b1.num b2.num) (zD1 n1 n2)
theorem Bd.divR {n:Nat} {r:Rat} (b:Bd n r) (h:n <= 8999) {i d:Int} (hd:d ≠ 0) (hl:d.natAbs <= r.den):ς i d :=
 zK1 hd (Ę hl (ď b.den (Δ (by omega))))
theorem à {α β:Type} {F:α->β->Prop}:∀ {xs:List α} {ys:List β} {i:Nat} {x:α},Paired F xs ys->xs[i]? = some x->∃ y,ys[i]? = some y /\ F x y
 | _,_,_,_,.nil,e=>by simp at e
 | _,_,0,_,.cons r _,e=>by simp at e; subst e; exact ⟨_,rfl,r⟩
 | _,_,i + 1,x,.cons _ t,e=>by
  obtain ⟨u,h1,h2⟩:=à (i:=i) (x:=x) t (by simpa using e)
  exact ⟨u,by simpa using h1,h2⟩
noncomputable def yA9:Sp:=fun vs H Q _=>∃ v n,vs = [v] /\ tyS H v = some n /\ Q (.bl (n == "int")) H
noncomputable def spCd:Sp:=fun vs H Q _=>∃ t b:Int,vs = [.int t,.int b] /\ b ≠ 0 /\ Q (.int (dv t b)) H
noncomputable def sp2 (n:Nat) (f:Rat->Rat->Rat):Sp:=fun vs H Q _=>∃ x y r q,vs = [x,y] /\ FrV H x r /\ FrV H y q /\ Bd n r /\ Bd n q /\ ∀ v H',Same H H'->FrV H' v (f r q)->Q v H'
noncomputable abbrev zP5:Sp:=sp2 8000 (· + ·)
noncomputable abbrev zR2:Sp:=sp2 8000 (· - ·)
noncomputable abbrev spTimes:Sp:=fun vs H Q _=>∃ x y a b t1 b1 t2 b2,vs = [x,y] /\ x = .ref a /\ H a = some (.tup [.int t1,.int b1]) /\ y = .ref b /\ H b = some (.tup [.int t2,.int b2]) /\ 0 < b1 /\ b2 ≠ 0 /\ Ĵ t1 b1 = 1 /\ Ĵ t2 b2 = 1 /\
 (t1.natAbs < 2 ^ 8000 /\ b1.natAbs < 2 ^ 8000 /\ t2.natAbs < 2 ^ 8000 /\ b2.natAbs < 2 ^ 8000) /\ ∀ v H',Same H H'->FrV H' v (Ě (t1 * t2) (b1 * b2))->Q v H'
theorem spTimes.of {vs:List V} {H:Hp} {Q:VK} {E:XK} {x y:V} {r q:Rat} (e:vs = [x,y]) (h1:FrV H x r) (h2:FrV H y q) (b1:Bd 8000 r) (b2:Bd 8000 q) (k:∀ v H',Same H H'->FrV H' v (r * q)->Q v H'):spTimes vs H Q E:=by
 obtain ⟨a,rfl,ha⟩:=h1
 obtain ⟨b,rfl,hb⟩:=h2
 have d1:=ã r
 have d2:=ã q
 exact ⟨_,_,a,b,r.num,r.den,q.num,q.den,e,rfl,ha,rfl,hb,d1,by omega,zR4 r,zR4 q,⟨b1.num,b1.den,b2.num,b2.den⟩,fun v H' s h=>k v H' s (by rw [<- yQ5]; exact h)⟩
noncomputable def yL9 (C:Addr):Sp:=fun vs H Q E=>∃ x y r q,vs = [x,y] /\ FrV H x r /\ FrV H y q /\ Bd 8000 r /\ Bd 8000 q /\ (q ≠ 0->∀ v H',Same H H'->FrV H' v (r / q)->Q v H') /\ (q = 0->E (.ref C) none H)
noncomputable def yL7:Sp:=fun vs H Q _=>∃ x y r q,vs = [x,y] /\ FrV H x r /\ FrV H y q /\ Bd 8000 r /\ Bd 8000 q /\ Q (.bl (decide (r < q))) H
noncomputable def sumQ (rs:List Rat):Rat:=rs.foldl (· + ·) 0
theorem yL4 {rs:List Rat} {i:Nat} {r:Rat} (h:rs[i]? = some r):sumQ (rs.take (i + 1)) = sumQ (rs.take i) + r:=by
 unfold sumQ
 rw [ĺ,h,List.foldl_append]; rfl
noncomputable def yB0 (K:Ā):Sp:=fun vs H Q _=>∃ (a:Addr) (xs:List V) (rs:List Rat),vs = [.ref a] /\ SqL K H a xs /\ Paired (FrV H) xs rs /\ (∀ r ∈ rs,Bd 8000 r) /\ (∀ k,k <= rs.length->Bd 8000 (sumQ (rs.take k))) /\ ∀ v H',Same H H'->FrV H' v (sumQ rs)->Q v H'
noncomputable def yM8 (K:Ā):Sp:=fun vs H Q _=>∃ (a:Addr) (ns:List Int) (k:Int),vs = [.ref a,.int k] /\ SqL K H a (ns.map V.int) /\ 0 <= k /\ ∀ c:Int,Q (.int c) H
noncomputable def zR1:Sp:=fun vs H Q _=>∃ c:Int,vs = [.int c] /\ ∀ m:Int,0 <= m->m < 10 ^ 60 + 7->Q (.int m) H
noncomputable def zW2:Sp:=fun vs H Q _=>∃ a b:Int,vs = [.int a,.int b] /\ Q (.int (Ĵ a b:Nat)) H
noncomputable def zF6:Sp:=fun vs H Q _=>∃ t b:Int,vs = [.int t,.int b] /\ b ≠ 0 /\ b.natAbs < 2 ^ 9000 /\ ∀ v H',Same H H'->FrV H' v (Ě t b)->Q v H'
noncomputable def yM9:Sp:=fun vs H Q _=>∃ x y r q,vs = [x,y] /\ FrV H x r /\ FrV H y q /\ Q (.bl (decide (r = q))) H
noncomputable def spLaw (K:Ā):Sp:=fun vs H Q _=>∃ (a:Addr) (ns:List Int),vs = [.ref a] /\ SqL K H a (ns.map V.int) /\ ns.length <= 63 /\ ∀ H',Q (.bl true) H'
theorem sz {n:Nat} (h:n <= 1000):n <= sizeLine:=Ś (zH6 h)
theorem xL3 {ns:List Int} {k:Int} (h0:0 <= k) (h1:k < (ns.map V.int).length):∃ c:Int,atI (ns.map V.int) k = some (V.int c):=by
 obtain ⟨j,rfl⟩:=ķ h0
 have hj:j < ns.length:=by rw [ā] at h1; omega
 refine ⟨ns[j],zK7 ?_⟩
 rw [đ,Č hj]
 rfl
theorem yX1:(10:Int) ^ (60:Int).toNat = 1000000000000000000000000000000000000000000000000000000000000:=by decide
theorem ò {c m:Int} (h:0 < m):0 <= c.fmod m /\ c.fmod m < m:=zL8 h
theorem sub_int (n:String):subS n "int" = (n == "int" || n == "bool"):=by simp [subS]
theorem yW2 (n:String):subS n "bool" = (n == "bool"):=by simp [subS]
theorem zG3 {p:Prop} [Decidable p] {A B:Prop} (hp:p) (h:A):if decide p = true then A else B:=by
 rw [decide_eq_true hp]; exact iteT h
theorem zF0 {p:Prop} [Decidable p] {A B:Prop} (hp:¬ p) (h:B):if decide p = true then A else B:=by
 rw [decide_eq_false hp]; exact iteF h
theorem yI6 {α β:Type} {F:α->β->Prop} {xs:List α} {ys:List β} (h:Paired F xs ys):Paired F xs.reverse ys.reverse:=by
 induction h with
 | nil=>exact .nil
 | cons r t ih=>rw [List.reverse_cons,List.reverse_cons]; exact ih.snoc r
end Tc
namespace L2
open PySem PySem.Spec PyProof.Rows
theorem xN7:bootBuiltins "any" = some (.builtin "any"):=by decide +kernel
theorem zI9:∀ {bs:List Bool} {vs:List Value},Vals (bs.map V.bl) vs->LSm.BoolsAre vs bs
 | [],_,.nil=>.nil
 | b :: bs,_,.cons r t=>by cases r; exact .cons b (zI9 t)
section
variable {X:Cx}
theorem Inv.newsAll {pins:List (Addr × Obj)} {σ:St} {H:Hp} {s:Shared} {h':Heap} {tk:Nat} {m:Str->Option Value} (I:Inv X pins σ H s) (hm:s.heap.Ns X.env.locals m) (F:Fr X.base X.env.locals h' m)
  (N:News X.base X.env.locals h' (zV0 X.base s.heap X.env.locals)):Inv X pins σ H { s with heap:=h',toks:=tk }:=by
 have kk:∀ b o,b ≠ X.env.locals->s.heap.get? b = some o->h'.get? b = some o:=fun b o hb e=>by
  cases q:X.base.get? b with
  | none=>exact (N (b,o) (yC1 hb q e)).1
  | some u =>
   have z:=I.bk b u q
   rw [e] at z; cases z
   exact F.keep b _ q
 have hL:∃ o',h'.get? X.env.locals = some o':=let ⟨o,_,_,e,_⟩:=F.ns; ⟨o,e⟩
 refine I.step (g':=s.gens) (d':=s.drawn) (ch:=[]) (fun _ z=>nomatch z) (fun b o hb _ _ e _=>kk b o hb e) (fun b o hb _ _ e _=>⟨o.slots,kk b o hb e⟩) (fun _ _ _ _ n=>n) (fun b o _ e=>?_)
  (fun _ _ e=>e) (fun _ _ _ e=>e) (fun b ps e=>⟨#[],by rw [e]; simp⟩) (fun m' hm'=>?_) (fun b u e=>?_) I.bare
 ·by_cases hb:b = X.env.locals
  ·rw [hb]; exact hL
  ·exact ⟨o,kk b o hb e⟩
 ·have em:m' = m:=by
   obtain ⟨o1,es1,ep1,g1,d1,_,f1⟩:=hm
   obtain ⟨o2,es2,ep2,g2,d2,_,f2⟩:=hm'
   rw [g1] at g2; cases g2
   rw [d1] at d2; cases d2
   funext z
   exact (f2 z).symm.trans (f1 z)
  rw [em]; exact F.ns
 ·refine (I.hok b u e).stay (fun c v hc q=>kk c v ?_ q) (fun _ q=>q) fun _ _ q=>q
  intro z
  subst z
  rcases hc with z | z
  ·rw [<- z,I.free] at e; cases e
  ·rw [I.free] at z; cases z
theorem yZ9 (hc:X.calm = true):Υ X (.builtin "any") (fun xs H Q=>∃ (a:Addr) (bs:List Bool),xs = [V.ref a] /\ SqL X.K H a (bs.map V.bl) /\ Q (.bl (bs.any id)) H):=by
 intro pins s σ H xs us Q I r h
 obtain ⟨l,bs,rfl,hq,q⟩:=h
 obtain ⟨u,rfl,ru⟩:=ν r
 cases ru
 obtain ⟨vs,rv,p,_⟩:=I.list hq
 obtain ⟨m,hm,_⟩:=id I.loc
 have F0:Fr X.base X.env.locals s.heap m:=⟨hm,I.bk,č I.ok.bsz I.ok.above⟩
 exact LSm.any_bools F0 yX9 (I.ok.hd hc) p.isList (zI9 rv) fun h' tk F' N'=>⟨.bl _,H,I.newsAll hm F' N',rfl,q⟩
end
section
variable {X:Cx} {K:Ā}
theorem xG7 (h:X.K = K):IxR X (rIxT K):=by subst h; exact xL8
theorem yY6 (h:X.K = K):IxR X (rIxL K):=by subst h; exact xG8
theorem yW4 (h:X.K = K):SlR X (rSlL K):=by subst h; exact xE3
theorem Τ {k:Nat} (h:X.K = K) (hr:Room k X.A):OpR X (compareOp .Eq) (rEqD K):=by subst h; exact xK8 hr
theorem zG8 {k:Nat} (h:X.K = K) (hr:Room k X.A):OpR X (compareOp .NotEq) (rNeD K):=by subst h; exact xK6 hr
theorem í (h:X.K = K):Υ X (.builtin "len") (fun xs H Q=>∃ x n,xs = [x] /\ LenV K x H n /\ Q (.int n) H):=by subst h; exact yZ7
theorem Ž (h:X.K = K):Υ X (.builtin "isinstance") (fun xs H Q=>∃ x n t b,xs = [x,.ty n] /\ TyOf K H x t /\ PySem.W.kitOne K t (.type n) = some b /\ Q (.bl b) H):=by subst h; exact yZ8
theorem zD2 (h:X.K = K):Υ X (.type "list") (fun xs H Q=>∃ p ys,xs = [.ref p] /\ (SqL K H p ys \/ SqT K H p ys) /\ ∀ l,H l = none->Q (.ref l) (upd H l (.lst ys))):=by subst h; exact zZ6
theorem yV0 (h:X.K = K) (hc:X.calm = true):Υ X (.builtin "any") (fun xs H Q=>∃ (a:Addr) (bs:List Bool),xs = [V.ref a] /\ SqL K H a (bs.map V.bl) /\ Q (.bl (bs.any id)) H):=by subst h; exact yZ9 hc
theorem è {tg l:Expr} {tl:TE} (h:X.K = K) (hl:PE X l tl):PI X tg l (xM1 K tl):=by subst h; exact xF0 hl
end
theorem Same.updD {H H':Hp} {D:Addr} {o:HO} (s:Same H H') (h:H D = none):Same H (L2.upd H' D o):=fun b u e=>by
 rw [L2.upd_ne (Ç e h)]; exact s b u e
theorem zE1:∀ {ys:List Str} {vs:List Value},Vals (ys.map V.str) vs->StrsAre vs ys
 | [],_,.nil=>.nil
 | y :: ys,_,.cons r t=>by obtain ⟨tk,rfl⟩:=r; exact .cons y tk (zE1 t)
section
variable {X:Cx} {K:Ā}
theorem xK3 {o e:Expr} {es:List Expr} {to:TE} {t:TA} {name:Str} {apos cpos:Pos} {T id:String} {r:V->List V->Hp->VK->Prop} (h:X.K = K) (pa:PlainAttrs T) (slot:Slot T name id) (hty:typeOf (.builtin id) = pure (.type "method_descriptor"))
  (hm:MtR X id r) (ho:PE X o to) (ha:PA X (e :: es) t) (hbase:attributeBase o name X.env (eval o X.env) = eval o X.env:=by rfl)
  (hfew:((backTo cpos (starEach (e :: es) X.env)).all (fun x=>!x.1) && (backToKw cpos (keywordEach [] X.env)).all (fun x=>x.1.isSome) && decide ((e :: es).length + ([]:List Keyword).length + (if ([]:List Keyword).isEmpty then 0 else 1) < 30)) = true:=by rfl)
  (hline:(apos.endLine == cpos.line) = true:=by rfl) (hs:starEach (e :: es) X.env = (false,eval e X.env) :: starEach es X.env:=by rfl) (hplain:(backTo cpos (starEach es X.env)).any (·.1) = false:=by rfl) :
  PE X (.Call (.Attribute o name apos) (e :: es) [] cpos) (tBM K T r to t):=by subst h; exact ρ pa slot hty hm ho ha hbase hfew hline hs hplain
theorem yP1 {es:List Expr} {k:Nat} {t:TGs} {n:Nat} {pos:Pos} (h:X.K = K) (hc:X.calm = true) (hp:PGs X es t) (hn:(assignEach es X.env).length = n:=by rfl) (hst:(assignEach es X.env).findIdx? (·.1) = none:=by rfl) :
  PG X (.Tuple es k pos) (gTup K n t):=by subst h; exact Θ hc hp hn hst
end
end L2
namespace Tc
open PySem L2
noncomputable abbrev one1 (c:Nat):Str:=⟨#[c]⟩
theorem zV8 {zs:List Str} {k:Int} (h0:0 <= k) (h1:k < zs.length):∃ z,z ∈ zs /\ atI (zs.map V.str) k = some (V.str z):=by
 obtain ⟨j,rfl⟩:=ķ h0
 have hj:j < zs.length:=by omega
 refine ⟨zs[j],List.getElem_mem hj,zK7 ?_⟩
 rw [đ,Č hj]; rfl
theorem ddv {i d:Int} (h1:0 < d) (h2:d <= 1000000):ς i d:=zK1 (by omega) (Ę (m:=1000000) (by omega) (by decide))
end Tc
namespace L2
open PySem PySem.Spec PyProof.Rows
noncomputable def RawD (h:Heap) (d:Addr) (es:Array DictEntry) (ep:Nat):Prop:=∃ o,h.get? d = some o /\ o.ExactDict /\ o.data = .dict es ep
theorem RawD.at {h h':Heap} {d:Addr} {es:Array DictEntry} {ep:Nat} (x:RawD h d es ep) (e:∀ o,h.get? d = some o->h'.get? d = some o):RawD h' d es ep:=let ⟨o,q,r⟩:=x; ⟨o,e o q,r⟩
theorem RawD.ty {s:Shared} {d:Addr} {es:Array DictEntry} {ep:Nat} (x:RawD s.heap d es ep):s.TypeIs (.ref d) "dict":=let ⟨o,q,c,_⟩:=x; ⟨o,q,c.1⟩
section
variable {prog:Program} {w:World} {A:Around} {E:Value->Shared->Prop} {s:Shared} {it d vw:Addr} {i ep:Nat} {es:Array DictEntry} {ok ov:Value}
theorem yN9 (hd:(d == sysModules) = false):MeetsIn prog w (Builtin.«dict.items» ⟨[.ref d],[]⟩) (fun _ R s=>(∃ es ep,RawD s.heap d es ep) /\ R (.ok (.ret (.ref s.heap.objs.size))) { s with heap:=s.heap.push { cls:=.type "dict_items",data:=.fields #[.ref d] } }) :=
 .of_wp fun A R s ⟨⟨es,ep,hm⟩,h⟩=>by
  unfold Builtin.«dict.items» Builtin.Dict.noArgs
  refine wpAny_bind (wpAny_bind (wpAny_notOrdered_dict hm.ty ?_)); show wpAny _ _ (pure d) _ _ s
  refine wpAny_pure ?_; show wpAny _ _ (Builtin.Dict.showsAll d >>= _) _ _ s
  unfold Builtin.Dict.showsAll
  rw [if_neg (show ¬ ((d == sysModules) = true) by rw [hd]; simp)]
  exact wpAny_bind (wpAny_pure (wpAny_bind (wpAny_newObj_type (wpAny_pure ⟨_,rfl,h⟩))))
theorem yW6 {Q:Value->Shared->Prop} (hv:s.heap.IsItemsView vw d) (hm:RawD s.heap d es ep)
  (q:Q (.ref s.heap.objs.size) { s with heap:=s.heap.push { cls:=.type "dict_itemiterator",data:=.fields #[.none,.bool false,.ref d,.int 0 0,.int es.size 0,.int ep 0,.none,.none] } }):wpAny (model prog w) A (pyIter (.ref vw)) Q E s:=by
 obtain ⟨o1,g1,c1,f1⟩:=id hv
 obtain ⟨o2,g2,c2,f2⟩:=id hm
 refine wpAny_pyIter_slot hv.typeIs F.slot_dict_items_iter (wpAny_call_entry F.slot_dict_items_iter hv.typeIs F.entry_dict_items_iter (?_) (F.args_dict_items_iter_1 (_)))
 unfold Builtin.«dict_items.__iter__» Builtin.Dict_items.dictOf Builtin.Dict_items.newIterator
 refine wpAny_bind (wpAny_pure (wpAny_bind (wpAny_bind (wpAny_field g1 f1 (x:=.ref d) rfl (wpAny_pure (wpAny_bind (wpAny_bind (wpAny_dictEntries g2 f2 (wpAny_bind (wpAny_dictEpoch g2 f2 ?_))))))))))
 have hown:(Builtin.Dict_items.ownsTuple "dict_itemiterator") = true:=by decide
 simp only [hown,if_true]
 refine wpAny_newObj_type (wpAny_pure ⟨_,rfl,"dict_itemiterator",_,⟨_,Ĕ (_) rfl,rfl⟩,F.slot_dict_itemiterator_next.lookup,(?_)⟩) (by
  simp only [sizeOk,Builtin.Dict_items.ownedTupleFields,ę,Ĝ,ģ,ť,sizeLine_eq]
  omega)
 simpa [rawInt,Builtin.Dict_items.ownedTupleFields] using q
theorem yW5 {Q:Option Value->Shared->Prop} (hit:IsItemIter s.heap it d i es.size ep ok ov) (hm:RawD s.heap d es ep) (hi:i < es.size)
  (q:∀ h',IsItemIterOut h' it d (i + 1) es.size ep es[i].key es[i].val s.heap.objs.size->h'.get? s.heap.objs.size = some { cls:=.type "tuple",data:=.seq #[es[i].key,es[i].val] } ->
   (∀ b o,b ≠ it->s.heap.get? b = some o->h'.get? b = some o)->Q (some (.ref s.heap.objs.size)) { s with heap:=h' }):wpAny (model prog w) A (pyNext (.ref it)) Q E s:=by
 obtain ⟨h0,g,dr,tk,os⟩:=s
 obtain ⟨o2,g2,c2,f2⟩:=id hm
 have ty:Shared.TypeIs ⟨h0,g,dr,tk,os⟩ (.ref it) "dict_itemiterator":=⟨_,hit,rfl⟩
 have hown:(Builtin.Dict_items.ownsTuple "dict_itemiterator") = true:=by decide
 unfold pyNext
 refine wpAny_bind (wpAny_attempt (wpAny_callSpecial?_slot (name:=Str.ofString "__next__") ty F.slot_dict_itemiterator_next (wpAny_call_entry F.slot_dict_itemiterator_next ty F.entry_dict_itemiterator_next ?_ (F.args_dict_itemiterator_next_1 _))))
 refine wpAny_bind (wpAny_pure (wpAny_bind (wpAny_bind ?_)))
 first | refine wpAny_bind (wpAny_typeNameOfWhole_itemiter ty (wpAny_pure (wpAny_bind (wpAny_fieldsOf hit rfl ?_)))) | refine wpAny_bind (wpAny_typeNameOf_itemiter ty (wpAny_pure (wpAny_bind (wpAny_fieldsOf hit rfl ?_))))
 simp only [hown,if_true]
 show wpAny _ _ (if (Value.ref d == .none) = true then _ else _) _ _ _
 rw [if_neg (show ¬ ((Value.ref d == .none) = true) from ĝ)]
 refine wpAny_bind (wpAny_pure (wpAny_bind (wpAny_dictEntries g2 f2 ?_)))
 rw [if_neg (show ¬ _ by simp)]
 refine wpAny_bind (wpAny_pure (wpAny_bind (wpAny_dictEpoch g2 f2 ?_)))
 rw [if_neg (show ¬ _ by simp)]
 refine wpAny_pure ?_
 simp only [show ¬ ((i:Int) < 0) by omega,if_false,Œ,Array.getElem?_eq_getElem hi]
 refine wpAny_bind ?_
 first | refine wpAny_bind (wpAny_typeNameOfWhole_itemiter ty (wpAny_pure (wpAny_bind (wpAny_isOneOf_itemiter ty ?_)))) | refine wpAny_bind (wpAny_typeNameOf_itemiter ty (wpAny_pure (wpAny_bind (wpAny_isOneOf_itemiter ty ?_))))
 show wpAny _ _ (setField (.ref it) 3 (rawInt ((i:Int) + 1)) >>= _) _ _ (⟨h0,g,dr,tk,os⟩:Shared)
 refine wpAny_bind (wpAny_setField_rec hit (by simp) fun ha ia sa=>?_)
 have sa:Heap.SameBut it h0 ha:=sa
 have ia:IsItemIter ha it d (i + 1) es.size ep ok ov:=by
  have e:((i + 1:Nat):Int) = (i:Int) + 1:=rfl
  unfold IsItemIter; rw [e]; simpa [rawInt] using ia
 have tya:Shared.TypeIs ⟨ha,g,dr,tk,os⟩ (.ref it) "dict_itemiterator":=⟨_,ia,rfl⟩
 refine wpAny_bind (wpAny_holding (wpAny_bind (wpAny_isOneOf_itemiter tya (wpAny_bind (wpAny_isOneOf_itemiter tya ?_)))))
 show wpAny _ _ (Builtin.Dict_items.pairFromOwner (.ref it) 6 es[i].key es[i].val) _ _ (⟨ha,g,dr,tk,os⟩:Shared)
 unfold Builtin.Dict_items.pairFromOwner
 refine wpAny_bind (wpAny_newTuple ?_)
 have za:ha.objs.size = h0.objs.size:=sa.1
 have lt:it < h0.objs.size:=ć hit
 have ne:h0.objs.size ≠ it:=Ĩ lt
 obtain ⟨hb,ehb⟩:∃ hb,hb = ha.push { cls:=.type "tuple",data:=.seq #[es[i].key,es[i].val] }:=⟨_,rfl⟩
 have ib:IsItemIter hb it d (i + 1) es.size ep ok ov:=by rw [ehb]; exact Ĉ _ ia
 have tb:hb.get? h0.objs.size = some { cls:=.type "tuple",data:=.seq #[es[i].key,es[i].val] }:=by rw [ehb,<- za]; exact Ĕ _ rfl
 have kb:∀ b o,b ≠ it->h0.get? b = some o->hb.get? b = some o:=fun b o n e=>by rw [ehb]; exact Ĉ _ (sa.extBut b o n e)
 rw [<- ehb]
 show wpAny _ _ (Builtin.Dict_items.ownedTupleIsFree (.ref it) >>= _) _ _ (⟨hb,g,dr,tk,os⟩:Shared)
 rw [za]
 unfold Builtin.Dict_items.ownedTupleIsFree
 refine wpAny_bind (wpAny_bind (wpAny_field ib rfl (x:=.none) rfl (wpAny_pure ?_)))
 simp only [if_true]
 refine wpAny_bind (wpAny_field ib rfl (x:=ok) rfl (wpAny_bind (wpAny_field ib rfl (x:=ov) rfl (wpAny_bind (wpAny_setField_rec ib (by simp) fun hc ic sc=>?_)))))
 have sc:Heap.SameBut it hb hc:=sc
 have ic:IsItemIter hc it d (i + 1) es.size ep es[i].key ov:=ic
 refine wpAny_bind (wpAny_setField_rec ic (by simp) fun hd' id' sd=>?_)
 have sd:Heap.SameBut it hc hd':=sd
 have id':IsItemIter hd' it d (i + 1) es.size ep es[i].key es[i].val:=id'
 refine wpAny_bind (wpAny_setField_rec id' (by simp) fun he ie se=>?_)
 have se:Heap.SameBut it hd' he:=se
 have ie:IsItemIterOut he it d (i + 1) es.size ep es[i].key es[i].val h0.objs.size:=ie
 refine wpAny_bind (wpAny_setField_rec ie (by simp) fun hf jf sf=>?_)
 have sf:Heap.SameBut it he hf:=sf
 have jf:IsItemIterOut hf it d (i + 1) es.size ep es[i].key es[i].val h0.objs.size:=jf
 have up:∀ b o,b ≠ it->hb.get? b = some o->hf.get? b = some o:=fun b o n e=>sf.extBut b o n (se.extBut b o n (sd.extBut b o n (sc.extBut b o n e)))
 exact wpAny_bind (wpAny_letGo (wpAny_pure (wpAny_pure ⟨_,rfl,wpAny_pure (q hf jf (up _ _ ne tb) fun b o n e=>up b o n (kb b o n e))⟩)))
theorem xE4 {Q:Option Value->Shared->Prop} (hh:A.handled = none) (hit:IsItemIter s.heap it d i es.size ep ok ov) (hm:RawD s.heap d es ep) (hi:es.size <= i)
  (q:∀ h',Heap.ExtBut it s.heap h'->Q none { s with heap:=h' }):wpAny (model prog w) A (pyNext (.ref it)) Q E s:=by
 obtain ⟨o2,g2,c2,f2⟩:=id hm
 have ty:s.TypeIs (.ref it) "dict_itemiterator":=⟨_,hit,rfl⟩
 have hown:(Builtin.Dict_items.ownsTuple "dict_itemiterator") = true:=by decide
 unfold pyNext
 refine wpAny_bind (wpAny_attempt (wpAny_callSpecial?_slot (name:=Str.ofString "__next__") ty F.slot_dict_itemiterator_next (wpAny_call_entry F.slot_dict_itemiterator_next ty F.entry_dict_itemiterator_next ?_ (F.args_dict_itemiterator_next_1 _))))
 refine wpAny_bind (wpAny_pure (wpAny_bind (wpAny_bind ?_)))
 first | refine wpAny_bind (wpAny_typeNameOfWhole_itemiter ty (wpAny_pure (wpAny_bind (wpAny_fieldsOf hit rfl ?_)))) | refine wpAny_bind (wpAny_typeNameOf_itemiter ty (wpAny_pure (wpAny_bind (wpAny_fieldsOf hit rfl ?_))))
 simp only [hown,if_true]
 show wpAny _ _ (if (Value.ref d == .none) = true then _ else _) _ _ _
 rw [if_neg (show ¬ ((Value.ref d == .none) = true) from ĝ)]
 refine wpAny_bind (wpAny_pure (wpAny_bind (wpAny_dictEntries g2 f2 ?_)))
 rw [if_neg (show ¬ _ by simp)]
 refine wpAny_bind (wpAny_pure (wpAny_bind (wpAny_dictEpoch g2 f2 ?_)))
 rw [if_neg (show ¬ _ by simp)]
 refine wpAny_pure ?_
 simp only [show ¬ ((i:Int) < 0) by omega,if_false,Œ,Array.getElem?_eq_none hi]
 refine wpAny_bind ?_
 first | refine wpAny_bind (wpAny_typeNameOfWhole_itemiter ty (wpAny_pure ?_)) | refine wpAny_bind (wpAny_typeNameOf_itemiter ty (wpAny_pure ?_))
 show wpAny _ _ (setField (.ref it) 2 .none >>= _) _ _ (s)
 refine wpAny_bind (wpAny_setField hit rfl (by simp) (show wpAny _ _ (newExc (.type "StopIteration") [] >>= _) _ _ _ from wpAny_bind ?_))
 simp only [newExc,newTuple]
 refine wpAny_bind (wpAny_newObj_type (wpAny_bind (m:=firstArgMember _ _) (wpAny_of_eq (a:=Value.none) (by first | rfl | (simp only [firstArgMember]; rfl)) (wpAny_newObj_type ?_ (by size_fits)))) (by size_fits))
 simp only [raiseNew]
 refine wpAny_bind (wpAny_handled ?_)
 rw [show (Around.in1 A).handled = none from hh]
 refine wpAny_bind (wpAny_pure (wpAny_throw (?_)))
 refine wpAny_bind (wpAny_isInstance (b:=true) (T:="StopIteration") ⟨_,Ĕ _ rfl,rfl⟩ isSubtype_stop (?_))
 exact wpAny_pure (q _ (((Heap.SameBut.update ..).extBut.push _).push _))
end
noncomputable def isDk:HO->Bool
 | .dK _=>true
 | .dT _=>true
 | _=>false
section
variable {X:Cx} {pins:List (Addr × Obj)} {σ:St} {H:Hp} {s:Shared} {d:Addr} {u:HO} {o:Obj}
theorem xL2 (hd:H d = some u) (hu:isDk u = true):∀ c v,H c = some v->isDk v = false->c ≠ d:=fun c v e f z=>by
 subst z; rw [hd] at e; cases e; rw [hu] at f; cases f
theorem Inv.freeze (I:Inv X pins σ H s) (hd:H d = some u) (hu:isDk u = true) (ho:s.heap.get? d = some o):Inv X pins σ (upd H d (.frz o u)) s:=by
 have mu:Mut (H d):=by rw [hd]; cases u <;> first | trivial | (simp [isDk] at hu)
 refine I.write (x:=d) (e:=d) (o:=.frz o u) (h':=s.heap) (t':=s.toks) mu (.inl rfl) (fun _ _ _ q=>q) ⟨o,ho⟩ ⟨ho,?_⟩
 exact (I.hok d u hd).stay (fun _ _ _ q=>q) (fun c q=>by rw [upd_ne (xL2 hd hu c _ q rfl)]; exact q) fun c xs q=>by rw [upd_ne (xL2 hd hu c _ q rfl)]; exact q
theorem Inv.unfrozen (I:Inv X pins σ H s) (hd:H d = some u) (hu:isDk u = true) (ob:Obj) (v:HO):X.H₀ d ≠ some (.frz ob v):=fun e=>by
 have z:=I.base.frzs d ob v e
 rw [hd] at z; cases z; cases hu
theorem Inv.thaw (I:Inv X pins σ H s) (hd:H d = some (.frz o u)) (h0:∀ ob v,X.H₀ d ≠ some (.frz ob v)):Inv X pins σ (upd H d u) s:=by
 have ne:∀ c v,H c = some v->(∀ ob w,v ≠ .frz ob w)->c ≠ d:=fun c v e f z=>by
  subst z; rw [hd] at e; cases e; exact f _ _ rfl
 have nn:∀ c,H c = none->c ≠ d:=fun c e z=>by subst z; rw [hd] at e; cases e
 refine ⟨I.ok,I.os,I.bare,⟨I.base.keep,I.base.slot,fun b ob e n hx=>?_,I.base.there,fun b xs e=>?_,fun b ob w e=>?_,fun b ps e=>?_⟩,I.loc,I.cell,?_,fun x c e=>?_,fun p hp=>?_,fun b w e=>?_,I.len⟩
 ·have q:=I.base.free b ob e n hx
  rw [upd_ne (nn b q)]; exact q
 ·have q:=I.base.tups b xs e
  rw [upd_ne (ne b _ q fun _ _ z=>by cases z)]; exact q
 ·have q:=I.base.frzs b ob w e
  rw [upd_ne (fun z=>h0 ob w (by rw [<- z]; exact e))]; exact q
 ·obtain ⟨m,q⟩:=I.base.tbls b ps e
  exact ⟨m,by rw [upd_ne (ne b _ q fun _ _ z=>by cases z)]; exact q⟩
 ·rw [upd_ne (nn _ I.free)]; exact I.free
 ·rw [upd_ne (nn _ (I.freeC x c e))]; exact I.freeC x c e
 ·obtain ⟨e1,e2,e3⟩:=I.pin p hp
  exact ⟨e1,by rw [upd_ne (nn _ e2)]; exact e2,e3⟩
 ·have go:∀ {a:Addr} {v:HO},ObjOk X.prog X.w H s.heap a v->ObjOk X.prog X.w (upd H d u) s.heap a v:=fun q =>
   q.stay (fun _ _ _ q=>q) (fun c q=>by rw [upd_ne (ne c _ q fun _ _ z=>by cases z)]; exact q) fun c xs q=>by rw [upd_ne (ne c _ q fun _ _ z=>by cases z)]; exact q
  by_cases z:b = d
  ·subst z; rw [Á] at e; cases e
   exact go (I.hok b _ hd).2
  ·rw [upd_ne z] at e
   exact go (I.hok b w e)
noncomputable def xO4 (d:Addr) (D:Ends):Ends where
 nx:=fun σ H=>∃ o u,H d = some (.frz o u) /\ D.nx σ (upd H d u)
 rt:=fun v H=>∃ o u,H d = some (.frz o u) /\ D.rt v (upd H d u)
 bk:=fun σ H=>∃ o u,H d = some (.frz o u) /\ D.bk σ (upd H d u)
 ct:=fun σ H=>∃ o u,H d = some (.frz o u) /\ D.ct σ (upd H d u)
noncomputable def xO6 (t:TS):TS:=fun D σ H=>∃ d u,H d = some u /\ isDk u = true /\ t (xO4 d D) σ H
theorem Ŷ {st:Stmt} {t:TS} (h:PS X st t):PS X st (xO6 t):=by
 intro pins s σ H D I hq
 obtain ⟨d,u,hd,hu,ht⟩:=hq
 have h0:=I.unfrozen hd hu
 refine thn (h pins s σ H _ I ht) fun f s1 q=>?_
 cases f with
 | next=>obtain ⟨σ',H',I',o,v,e,q⟩:=q; exact ⟨σ',_,I'.thaw e h0,q⟩
 | brk=>obtain ⟨σ',H',I',o,v,e,q⟩:=q; exact ⟨σ',_,I'.thaw e h0,q⟩
 | cont=>obtain ⟨σ',H',I',o,v,e,q⟩:=q; exact ⟨σ',_,I'.thaw e h0,q⟩
 | ret w=>obtain ⟨x,σ',H',I',r,o,v,e,q⟩:=q; exact ⟨x,σ',_,I'.thaw e h0,r,q⟩
noncomputable def xI1 (t:TE):TE:=fun σ H Q=>∃ d u,H d = some u /\ isDk u = true /\ t σ H fun v H1=>∃ o w,H1 d = some (.frz o w) /\ Q v (upd H1 d w)
theorem zR5 {e:Expr} {t:TE} (h:PE X e t):PE X e (xI1 t):=by
 intro pins s σ H Q I hq
 obtain ⟨d,u,hd,hu,ht⟩:=hq
 have h0:=I.unfrozen hd hu
 refine thn (h pins s σ H _ I ht) fun v s1 q=>?_
 obtain ⟨x,H',I',r,o,w,e,q⟩:=q
 exact ⟨x,_,I'.thaw e h0,r,q⟩
noncomputable abbrev yK2 (ps:List (V × V)) (es:List DictEntry):Prop:=Paired (fun p e=>RelV p.1 e.key /\ RelV p.2 e.val) ps es
noncomputable def Pss (H:Hp):HO->List (V × V)->Prop
 | .dK kvs,ps=>ps = kvs.map fun kv=>(kV kv.1,kv.2)
 | .dT kvs,ps=>Paired (fun kv p=>∃ b,p = (V.ref b,kv.2) /\ H b = some (.tup (kv.1.map kV))) kvs ps
 | _,_=>False
theorem zM9 {P:Program} {w:World}:∀ {kvs:List (Key × V)} {vs:List (Key × Value)} {es:List DictEntry},KV kvs vs->Pairs (æ P w) es vs->yK2 (kvs.map fun kv=>(kV kv.1,kv.2)) es
 | [],[],_,_,p=>by cases p; exact .nil
 | [],_ :: _,_,r,_=>nomatch r
 | _ :: _,[],_,r,_=>nomatch r
 | kv :: kvs,v :: vs,es,.cons h r,p=>by
  cases p with
  | cons a b c =>
   refine .cons ⟨?_,?_⟩ (zM9 r c)
   ·have a:=a
    rw [<- h.1] at a
    rcases ñ a with ⟨i,t,e1,e2⟩ | ⟨x,t,e1,e2⟩
    ·show RelV (kV kv.1) _; rw [e1,e2]; exact ⟨t,rfl⟩
    ·show RelV (kV kv.1) _; rw [e1,e2]; exact ⟨t,rfl⟩
   ·rw [b]; exact h.2
theorem zP9 {P:Program} {w:World} {H:Hp}:∀ {kvs:List (List Key × V)} {xs:List (List Key × Addr × Value)},KT H kvs xs->∃ ps,Paired (fun kv p=>∃ b,p = (V.ref b,kv.2) /\ H b = some (.tup (kv.1.map kV))) kvs ps /\ yK2 ps (xs.map (entryOfKey (tupleKind (æ P w))))
 | _,_,.nil=>⟨[],.nil,.nil⟩
 | kv :: _,x :: _,.cons h r=>by
  obtain ⟨ps,h1,h2⟩:=zP9 (P:=P) (w:=w) r
  exact ⟨(.ref x.2.1,kv.2) :: ps,.cons ⟨x.2.1,rfl,h.2.1⟩ h1,.cons ⟨rfl,h.2.2⟩ h2⟩
theorem Inv.raw (I:Inv X pins σ H s) (hd:H d = some u) (hu:isDk u = true):∃ o es ep ps,s.heap.get? d = some o /\ o.ExactDict /\ o.data = .dict es ep /\ (d == sysModules) = false /\ Pss H u ps /\ yK2 ps es.toList:=by
 have ok:=I.hok d u hd
 cases u with
 | dK kvs =>
  obtain ⟨_,hs,vs,kv,o,es,ep,g,ex,dat,_,pr,_⟩:=ok
  exact ⟨o,es,ep,_,g,ex,dat,hs,rfl,zM9 kv pr⟩
 | dT kvs =>
  obtain ⟨_,hs,xs,kt,o,es,ep,g,ex,dat,he,_⟩:=ok
  obtain ⟨ps,h1,h2⟩:=zP9 (P:=X.prog) (w:=X.w) kt
  exact ⟨o,es,ep,ps,g,ex,dat,hs,h1,by rw [he]; exact h2⟩
 | _=>cases hu
noncomputable def ItD (d:Addr) (o:Obj) (u:HO) (ps:List (V × V)):It :=
 ⟨fun i H=>i < ps.length /\ H d = some (.frz o u),fun i H x H'=>∃ k v T,ps[i]? = some (k,v) /\ x = .ref T /\ H T = none /\ H' = upd H T (.tup [k,v]),fun i H=>i = ps.length /\ H d = some (.frz o u)⟩
theorem zR8 {α β:Type} {F:α->β->Prop}:∀ {xs:List α} {ys:List β} {i:Nat} {x:α},Paired F xs ys->xs[i]? = some x->∃ y,ys[i]? = some y /\ F x y
 | _,_,_,_,.nil,e=>by simp at e
 | _,_,0,_,.cons r _,e=>by simp at e; subst e; exact ⟨_,rfl,r⟩
 | _,_,i + 1,x,.cons _ t,e=>by
  obtain ⟨u,h1,h2⟩:=zR8 (i:=i) (x:=x) t (by simpa using e)
  exact ⟨u,by simpa using h1,h2⟩
theorem yI1 {P:Program} {w:World} {K:Ā} {elts:List Expr} {kk:Nat} {pos:Pos} {d it:Addr} {o:Obj} {u:HO} {ps:List (V × V)} {es:Array DictEntry} {ep:Nat} (hx:o.ExactDict) (dat:o.data = .dict es ep) (rel:yK2 ps es.toList) :
  Turn P w K (.Tuple elts kk pos) (ItD d o u ps) [it] it (fun i h=>∃ ok ov,IsItemIter h it d i es.size ep ok ov) where
 mem:=by simp
 obj:=fun i h st b hb=>by
  have e:b = it:=by simpa using hb
  subst e
  obtain ⟨ok,ov,st⟩:=st
  exact ⟨_,st,fun v z=>by cases z⟩
 keep:=fun i h h' st k=>let ⟨ok,ov,st⟩:=st; ⟨ok,ov,k it (by simp) _ st⟩
 item:=by
  intro X hP hw hK hc i pins s σ H E I hf st hg
  subst hP hw hK
  obtain ⟨f0,f1,_,f3,f4,f5⟩:=hf it (by simp)
  obtain ⟨ok,ov,st⟩:=st
  obtain ⟨hi,hd⟩:=hg
  have hlen:ps.length = es.size:=by rw [rel.length]; simp
  have hi':i < es.size:=by omega
  refine yW5 st ⟨o,(I.hok d _ hd).1,hx,dat⟩ hi' fun h' jo ht kk=>?_
  refine ⟨_,rfl,wpAny_letOwnedTupleGo_items jo fun h2 he2 sb=>?_⟩
  obtain ⟨p,hp⟩:∃ p,ps[i]? = some p:=⟨ps[i],by simp [hi]⟩
  obtain ⟨e',he',rk,rv⟩:=zR8 rel hp
  have ee:e' = es[i]:=by
   have:es.toList[i]? = some es[i]:=by simp [hi']
   rw [this] at he'; exact (Option.some.inj he').symm
  subst ee
  have nT:s.heap.objs.size ≠ it:=Ĩ (ć st)
  have I1:Inv X pins σ H { s with heap:=h2,toks:=s.toks }:=I.turned (fun b ob hb e=>sb.extBut b ob hb (kk b ob hb e)) f0 f1 f3 f4 f5
  have hT2:h2.get? s.heap.objs.size = some { cls:=.type "tuple",data:=.seq #[es[i].key,es[i].val] }:=sb.extBut _ _ nT ht
  obtain ⟨g0,g1,_,_,g4,g5⟩:=I.fpOk (ą _) I.fresh
  have I2:=I1.track (a:=s.heap.objs.size) (o:=.tup [p.1,p.2]) g0 (by
   cases q:X.s₀.heap.get? s.heap.objs.size with
   | none=>rfl
   | some ob=>exact absurd (ď (ć q) I.sz) (Ń _)) g1 g4 g5 ⟨zH6 (by simp) |> Ś,[es[i].key,es[i].val],.cons rk (.cons rv .nil),⟨_,hT2,rfl,_,rfl⟩⟩
  refine ⟨.ref _,_,I2,rfl,⟨p.1,p.2,_,hp,rfl,g0,rfl⟩,⟨_,_,he2⟩,fun b hb=>?_⟩
  have e:b = it:=by simpa using hb
  subst e
  rw [upd_ne (Ne.symm nT)]; exact f0
 done:=by
  intro X hP hw hK hc i pins s σ H E I hf st hg
  subst hP hw hK
  obtain ⟨f0,f1,_,f3,f4,f5⟩:=hf it (by simp)
  obtain ⟨ok,ov,st⟩:=st
  obtain ⟨hi,hd⟩:=hg
  have hlen:ps.length = es.size:=by rw [rel.length]; simp
  exact xE4 (I.ok.hd hc) st ⟨o,(I.hok d _ hd).1,hx,dat⟩ (by rw [hi,hlen]; exact ą _) fun h' eb=>⟨rfl,I.turned (t':=s.toks) (fun b ob hb e=>eb b ob hb e) f0 f1 f3 f4 f5⟩
 self:=fun A i s Q E st h=>let ⟨_,_,st⟩:=st; PySem.W.kcp_self st h
noncomputable def Λ (v d:Addr):HO:=.ext fun h=>h.IsItemsView v d
noncomputable def xJ4:V->List V->Hp->VK->Prop:=fun x vs H Q=>∃ d u,x = .ref d /\ vs = [] /\ H d = some u /\ isDk u = true /\ ∀ p,H p = none->Q (.ref p) (upd H p (Λ p d))
theorem Ź:MtR X "dict.items" xJ4:=by
 intro pins s σ H x xs v us Q I rx rv h
 obtain ⟨d,u,rfl,rfl,hd,hu,q⟩:=h
 cases rx
 cases rv
 obtain ⟨o,es,ep,ps,g,ex,dat,hs,_,_⟩:=I.raw hd hu
 have rw0:RawD s.heap d es ep:=⟨o,g,ex,dat⟩
 refine call_meetsIn PySem.F.slot_dict_items rw0.ty PySem.F.entry_dict_items (PySem.F.args_dict_items_1 (_)) (yN9 hs) ⟨⟨es,ep,rw0⟩,?_⟩
 refine ⟨.ref _,_,I.laid (t':=s.toks) (o:=Λ s.heap.objs.size d) (fun b ob e=>Ĉ _ e) (ą _) ?_,rfl,q _ I.fresh⟩
 exact ⟨⟨_,Ĕ _ rfl,rfl,rfl⟩,⟨_,Ĕ _ rfl⟩,fun h1 h2 ⟨ob,e,c⟩ k=>⟨ob,k ob e,c⟩⟩
noncomputable def xM2 (tl:TE):TI:=fun σ H R=>tl σ H fun x H1=>∃ v d u,x = .ref v /\ H1 v = some (Λ v d) /\ H1 d = some u /\ isDk u = true /\ ∀ o ps,Pss H1 u ps->R (ItD d o u ps) (upd H1 d (.frz o u))
theorem Ÿ {elts:List Expr} {kk:Nat} {pos:Pos} {l:Expr} {tl:TE} (hl:PE X l tl):PI X (.Tuple elts kk pos) l (xM2 tl):=by
 intro pins s σ H R I h
 refine thn (hl pins s σ H _ I h) fun v s1 ⟨x,H1,I1,r1,q1⟩=>?_
 obtain ⟨vw,d,u,rfl,hv,hd,hu,q⟩:=q1
 cases r1
 obtain ⟨o,es,ep,ps,g,ex,dat,hs,hps,rel⟩:=I1.raw hd hu
 have hv':s1.heap.IsItemsView vw d:=(I1.hok vw _ hv).1
 refine yW6 hv' ⟨o,g,ex,dat⟩ ?_
 have I2:Inv X pins σ H1 _:=I1.kept (t':=s1.toks) (h':=s1.heap.push { cls:=.type "dict_itemiterator",data:=.fields #[.none,.bool false,.ref d,.int 0 0,.int es.size 0,.int ep 0,.none,.none] }) fun b ob e=>Ĉ _ e
 refine ⟨s1.heap.objs.size,[s1.heap.objs.size],_,_,_,rfl,I2.freeze hd hu (Ĉ _ g),yI1 ex dat rel,⟨_,_,Ĕ _ rfl⟩,fun b hb=>?_,q o ps hps⟩
 have e:b = s1.heap.objs.size:=by simpa using hb
 subst e
 exact I1.fpOk (ą _) (by rw [upd_ne (Ç hd I1.fresh).symm]; exact I1.fresh)
end
section
variable {prog:Program} {w:World} {A:Around} {E:Value->Shared->Prop} {s:Shared} {it d vw:Addr} {i ep:Nat} {es:Array DictEntry}
theorem yI3 (hd:(d == sysModules) = false):MeetsIn prog w (Builtin.«dict.values» ⟨[.ref d],[]⟩) (fun _ R s=>(∃ es ep,RawD s.heap d es ep) /\ R (.ok (.ret (.ref s.heap.objs.size))) { s with heap:=s.heap.push { cls:=.type "dict_values",data:=.fields #[.ref d] } }) :=
 .of_wp fun A R s ⟨⟨es,ep,hm⟩,h⟩=>by
  refine wpAny_bind (?_); unfold Builtin.Dict.noArgs
  refine wpAny_bind (wpAny_notOrdered_dict hm.ty ?_); show wpAny _ _ (pure d) _ _ s
  refine wpAny_pure ?_; show wpAny _ _ (Builtin.Dict.showsAll d >>= _) _ _ s
  unfold Builtin.Dict.showsAll
  rw [if_neg (show ¬ ((d == sysModules) = true) by rw [hd]; simp)]
  exact wpAny_bind (wpAny_pure (wpAny_bind (wpAny_newObj_type (wpAny_pure ⟨_,rfl,h⟩))))
theorem zX1 {Q:Value->Shared->Prop} (hv:s.heap.IsValuesView vw d) (hm:RawD s.heap d es ep)
  (q:Q (.ref s.heap.objs.size) { s with heap:=s.heap.push { cls:=.type "dict_valueiterator",data:=.fields #[.ref d,.int 0 0,.int es.size 0,.int ep 0] } }):wpAny (model prog w) A (pyIter (.ref vw)) Q E s:=by
 obtain ⟨o1,g1,c1,f1⟩:=id hv
 obtain ⟨o2,g2,c2,f2⟩:=id hm
 refine wpAny_pyIter_slot hv.typeIs F.slot_dict_values_iter (wpAny_call_entry F.slot_dict_values_iter hv.typeIs F.entry_dict_values_iter (?_) (F.args_dict_values_iter_1 (_)))
 unfold Builtin.«dict_values.__iter__» Builtin.Dict_items.dictOf Builtin.Dict_items.newIterator
 refine wpAny_bind (wpAny_pure (wpAny_bind (wpAny_bind (wpAny_field g1 f1 (x:=.ref d) rfl (wpAny_pure (wpAny_bind (wpAny_bind (wpAny_dictEntries g2 f2 (wpAny_bind (wpAny_dictEpoch g2 f2 ?_))))))))))
 have hown:(Builtin.Dict_items.ownsTuple "dict_valueiterator") = false:=by decide
 simp only [hown,ĭ,if_false]
 refine wpAny_newObj_type (wpAny_pure ⟨_,rfl,"dict_valueiterator",_,⟨_,Ĕ (_) rfl,rfl⟩,F.slot_dict_valueiterator_next.lookup,(?_)⟩)
 simpa [rawInt] using q
theorem zX0 {Q:Option Value->Shared->Prop} (hit:s.heap.IsValIter it d i es.size ep) (hm:RawD s.heap d es ep) (hi:i < es.size)
  (q:∀ h',h'.IsValIter it d (i + 1) es.size ep->Heap.SameBut it s.heap h'->Q (some es[i].val) { s with heap:=h' }):wpAny (model prog w) A (pyNext (.ref it)) Q E s:=by
 obtain ⟨o,ho,hc,hd⟩:=id hit
 obtain ⟨o2,g2,c2,f2⟩:=id hm
 have hown:(Builtin.Dict_items.ownsTuple "dict_valueiterator") = false:=by decide
 unfold pyNext
 refine wpAny_bind (wpAny_attempt (wpAny_callSpecial?_slot (name:=Str.ofString "__next__") hit.typeIs F.slot_dict_valueiterator_next (wpAny_call_entry F.slot_dict_valueiterator_next hit.typeIs F.entry_dict_valueiterator_next ?_ (F.args_dict_valueiterator_next_1 _))))
 refine wpAny_bind (wpAny_pure (wpAny_bind (wpAny_bind ?_)))
 first | refine wpAny_bind (wpAny_typeNameOfWhole_valiter hit.typeIs (wpAny_pure (wpAny_bind (wpAny_fieldsOf ho hd ?_)))) | refine wpAny_bind (wpAny_typeNameOf_valiter hit.typeIs (wpAny_pure (wpAny_bind (wpAny_fieldsOf ho hd ?_))))
 simp only [hown,ĭ,if_false]
 show wpAny _ _ (if (Value.ref d == .none) = true then _ else _) _ _ _
 rw [if_neg (show ¬ ((Value.ref d == .none) = true) from ĝ)]
 refine wpAny_bind (wpAny_pure (wpAny_bind (wpAny_dictEntries g2 f2 ?_)))
 rw [if_neg (show ¬ _ by simp)]
 refine wpAny_bind (wpAny_pure (wpAny_bind (wpAny_dictEpoch g2 f2 ?_)))
 rw [if_neg (show ¬ _ by simp)]
 refine wpAny_pure ?_
 simp only [show ¬ ((i:Int) < 0) by omega,if_false,Œ,Array.getElem?_eq_getElem hi]
 refine wpAny_bind ?_
 first | refine wpAny_bind (wpAny_typeNameOfWhole_valiter hit.typeIs (wpAny_pure (wpAny_bind (wpAny_isOneOf_valiter hit.typeIs ?_)))) | refine wpAny_bind (wpAny_typeNameOf_valiter hit.typeIs (wpAny_pure (wpAny_bind (wpAny_isOneOf_valiter hit.typeIs ?_))))
 show wpAny _ _ (setField (.ref it) 1 (rawInt ((i:Int) + 1)) >>= _) _ _ (s)
 have st:(s.heap.update it (Obj.mapFields (·.setIfInBounds 1 (rawInt ((i:Int) + 1))))).IsValIter it d (i + 1) es.size ep:=⟨_,Heap.get?_update_self _ ho (Obj.isFreed_of_fields (Obj.data_mapFields hd _)),(Obj.cls_mapFields ..).trans hc,by rw [Obj.data_mapFields hd]; simp [rawInt]⟩
 refine wpAny_bind (wpAny_setField ho hd (by simp) (wpAny_bind (wpAny_holding (wpAny_bind (wpAny_isOneOf_valiter (s:={ s with heap:=s.heap.update it (Obj.mapFields (·.setIfInBounds 1 (rawInt ((i:Int) + 1)))) }) st.typeIs (wpAny_bind (wpAny_isOneOf_valiter (s:={ s with heap:=s.heap.update it (Obj.mapFields (·.setIfInBounds 1 (rawInt ((i:Int) + 1)))) }) st.typeIs ?_)))))))
 show wpAny _ _ (pure es[i].val) _ _ (_)
 exact wpAny_pure (wpAny_pure ⟨_,rfl,wpAny_pure (q _ st (Heap.SameBut.update ..))⟩)
theorem yE8 {Q:Option Value->Shared->Prop} (hh:A.handled = none) (hit:s.heap.IsValIter it d i es.size ep) (hm:RawD s.heap d es ep) (hi:es.size <= i)
  (q:∀ h',Heap.ExtBut it s.heap h'->Q none { s with heap:=h' }):wpAny (model prog w) A (pyNext (.ref it)) Q E s:=by
 obtain ⟨o,ho,hc,hd⟩:=id hit
 obtain ⟨o2,g2,c2,f2⟩:=id hm
 have hown:(Builtin.Dict_items.ownsTuple "dict_valueiterator") = false:=by decide
 unfold pyNext
 refine wpAny_bind (wpAny_attempt (wpAny_callSpecial?_slot (name:=Str.ofString "__next__") hit.typeIs F.slot_dict_valueiterator_next (wpAny_call_entry F.slot_dict_valueiterator_next hit.typeIs F.entry_dict_valueiterator_next ?_ (F.args_dict_valueiterator_next_1 _))))
 refine wpAny_bind (wpAny_pure (wpAny_bind (wpAny_bind ?_)))
 first | refine wpAny_bind (wpAny_typeNameOfWhole_valiter hit.typeIs (wpAny_pure (wpAny_bind (wpAny_fieldsOf ho hd ?_)))) | refine wpAny_bind (wpAny_typeNameOf_valiter hit.typeIs (wpAny_pure (wpAny_bind (wpAny_fieldsOf ho hd ?_))))
 simp only [hown,ĭ,if_false]
 show wpAny _ _ (if (Value.ref d == .none) = true then _ else _) _ _ _
 rw [if_neg (show ¬ ((Value.ref d == .none) = true) from ĝ)]
 refine wpAny_bind (wpAny_pure (wpAny_bind (wpAny_dictEntries g2 f2 ?_)))
 rw [if_neg (show ¬ _ by simp)]
 refine wpAny_bind (wpAny_pure (wpAny_bind (wpAny_dictEpoch g2 f2 ?_)))
 rw [if_neg (show ¬ _ by simp)]
 refine wpAny_pure ?_
 simp only [show ¬ ((i:Int) < 0) by omega,if_false,Œ,Array.getElem?_eq_none hi]
 refine wpAny_bind ?_
 first | refine wpAny_bind (wpAny_typeNameOfWhole_valiter hit.typeIs (wpAny_pure (?_))) | refine wpAny_bind (wpAny_typeNameOf_valiter hit.typeIs (wpAny_pure (?_)))
 show wpAny _ _ (setField (.ref it) 0 .none >>= _) _ _ (s)
 refine wpAny_bind (wpAny_setField ho hd (by simp) (show wpAny _ _ (newExc (.type "StopIteration") [] >>= _) _ _ _ from wpAny_bind ?_))
 simp only [newExc,newTuple]
 refine wpAny_bind (wpAny_newObj_type (wpAny_bind (m:=firstArgMember _ _) (wpAny_of_eq (a:=Value.none) (by first | rfl | (simp only [firstArgMember]; rfl)) (wpAny_newObj_type ?_ (by size_fits)))) (by size_fits))
 simp only [raiseNew]
 refine wpAny_bind (wpAny_handled ?_)
 rw [show (Around.in1 A).handled = none from hh]
 refine wpAny_bind (wpAny_pure (wpAny_throw (?_)))
 refine wpAny_bind (wpAny_isInstance (b:=true) (T:="StopIteration") ⟨_,Ĕ _ rfl,rfl⟩ isSubtype_stop (?_))
 exact wpAny_pure (q _ (((Heap.SameBut.update ..).extBut.push _).push _))
theorem yH7 (hh:A.handled = none) (I d:Addr) (hne:d ≠ I) (es:Array DictEntry) (ep:Nat):Walks prog w A I [I,d] [I] es.size (fun i v=>∃ e,es[i]? = some e /\ v = e.val) (fun i h=>h.IsValIter I d i es.size ep /\ RawD h d es ep) where
 sub:=fun b hb=>by simp at hb; simp [hb]
 frame:=fun _ _ _ st k=>⟨st.1.at fun o e=>k I (by simp) o e,st.2.at fun o e=>k d (by simp) o e⟩
 item:=fun i s Q E hi st q=>zX0 st.1 st.2 hi fun h' st' sb=>q _ h' s.toks ⟨es[i],by simp [hi],rfl⟩ ⟨st',st.2.at fun o e=>sb.extBut d o hne e⟩ fun b o hb e=>sb.extBut b o (fun z=>hb (by simp [z])) e
 done:=fun s Q E st q=>yE8 hh st.1 st.2 (ą _) fun h' eb=>q h' s.toks fun b o hb e=>eb b o (fun z=>hb (by simp [z])) e
 self:=fun _ _ _ _ st q=>wpAny_pyIter_valiter st.1 q
theorem yW3:PySem.W.KdlSrc prog w "dict_values" vw d es.size (fun i v=>∃ e,es[i]? = some e /\ v = e.val) (fun h=>h.IsValuesView vw d /\ RawD h d es ep) where
 type:=fun _ hm=>hm.1.typeIs
 there:=fun _ hm=>⟨let ⟨_,ho,_⟩:=hm.1; ć ho,let ⟨_,ho,_⟩:=hm.2; ć ho⟩
 keep:=fun _ _ hm k=>⟨let ⟨o,ho,x⟩:=hm.1; ⟨o,k vw (.inl rfl) o ho,x⟩,hm.2.at fun o e=>k d (.inr rfl) o e⟩
 notList:=by decide
 notTuple:=by decide
 hint:=fun _ _ _ _ hm q=>PySem.W.kdl_hint_values hm.1.typeIs q
 iter:=fun _ _ hh hm=>⟨_,_,(fun _ _ q=>zX1 hm.1 hm.2 q),yH7 hh _ d (Ħ (let ⟨_,ho,_⟩:=hm.2; ć ho)) es ep,⟨⟨_,Ĕ _ rfl,rfl,rfl⟩,hm.2.at fun o e=>Ĉ _ e⟩⟩
end
section
variable {X:Cx} {K:Ā}
noncomputable def yH9 (v d:Addr):HO:=.ext fun h=>h.IsValuesView v d
noncomputable def xP6:V->List V->Hp->VK->Prop:=fun x vs H Q=>∃ d u,x = .ref d /\ vs = [] /\ H d = some u /\ isDk u = true /\ ∀ p,H p = none->Q (.ref p) (upd H p (yH9 p d))
theorem yQ6:MtR X "dict.values" xP6:=by
 intro pins s σ H x xs v us Q I rx rv h
 obtain ⟨d,u,rfl,rfl,hd,hu,q⟩:=h
 cases rx
 cases rv
 obtain ⟨o,es,ep,ps,g,ex,dat,hs,_,_⟩:=I.raw hd hu
 have rw0:RawD s.heap d es ep:=⟨o,g,ex,dat⟩
 refine call_meetsIn PySem.F.slot_dict_values rw0.ty PySem.F.entry_dict_values (PySem.F.args_dict_values_1 (_)) (yI3 hs) ⟨⟨es,ep,rw0⟩,?_⟩
 refine ⟨.ref _,_,I.laid (t':=s.toks) (o:=yH9 s.heap.objs.size d) (fun b ob e=>Ĉ _ e) (ą _) ?_,rfl,q _ I.fresh⟩
 exact ⟨⟨_,Ĕ _ rfl,rfl,rfl⟩,⟨_,Ĕ _ rfl⟩,fun h1 h2 ⟨ob,e,c⟩ k=>⟨ob,k ob e,c⟩⟩
theorem yT9 {H:Hp} {u:HO} {ps:List (V × V)} (h:Pss H u ps):isDk u = true->∀ {X:Cx} {pins:List (Addr × Obj)} {σ:St} {s:Shared} {d:Addr},Inv X pins σ H s->H d = some u->ps.length <= sizeLine:=by
 intro hu X pins σ s d I hd
 have ok:=I.hok d u hd
 cases u with
 | dK kvs=>obtain ⟨z,_⟩:=ok; have h:ps = _:=h; rw [h,ā]; exact z
 | dT kvs=>obtain ⟨z,_⟩:=ok; have h:Paired _ kvs ps:=h; rw [<- h.length]; exact z
 | _=>cases hu
theorem zP4 (hc:X.calm = true):Υ X (.type "list") (fun xs H Q=>∃ v d u,xs = [V.ref v] /\ H v = some (yH9 v d) /\ H d = some u /\ isDk u = true /\ ∀ ps,Pss H u ps->∀ l,H l = none->Q (.ref l) (upd H l (.lst (ps.map (·.2))))):=by
 intro pins s σ H xs us Q I r h
 obtain ⟨v,d,u,rfl,hv,hd,hu,q⟩:=h
 obtain ⟨w0,rfl,rw0⟩:=ν r
 cases rw0
 obtain ⟨o,es,ep,ps,g,ex,dat,hs,hps,rel⟩:=I.raw hd hu
 have hl:=yT9 hps hu I hd
 have hlen:ps.length = es.size:=by rw [rel.length]; simp
 refine PySem.W.kdl_call (yW3 (es:=es) (ep:=ep)) (I.ok.hd hc) ⟨(I.hok v _ hv).1,⟨o,g,ex,dat⟩⟩ (by omega) fun h' tk acc c kk hD hacc=>?_
 have vr:Vals (ps.map (·.2)) acc.toList:=by
  have e1:acc.toList = es.toList.map (·.val):=by
   apply List.ext_getElem?
   intro j
   rw [đ]
   by_cases hj:j < es.size
   ·have hj2:j < acc.size:=by rw [hacc.1]; exact hj
    obtain ⟨e,he,hv⟩:=hacc.2 j acc[j] (by simp [hj2])
    have e2:es.toList[j]? = some e:=by simpa using he
    rw [e2]
    simp [hj2,hv]
   ·have hj2:¬ j < acc.size:=by rw [hacc.1]; exact hj
    rw [Ņ (by simp; omega),Ņ (by simp; omega)]; rfl
  rw [e1]
  clear hlen hl hps e1 hacc
  generalize es.toList = el at rel
  induction rel with
  | nil=>exact .nil
  | cons h t ih=>exact .cons h.2 ih
 refine ⟨.ref _,_,I.laid (a:=s.heap.objs.size) (o:=.lst (ps.map (·.2))) (t':=tk) kk (ą _) ⟨by rw [ā]; exact hl,acc.toList,c,vr,by simpa using hD⟩,rfl,q ps hps _ I.fresh⟩
end
section
variable {prog:Program} {w:World} {A:Around} {E:Value->Shared->Prop} {s:Shared} {it d vw:Addr} {i ep:Nat} {es:Array DictEntry}
theorem yO0:MeetsIn prog w (Builtin.«dict.clear» ⟨[.ref d],[]⟩) (fun _ R s=>∃ es ep,RawD s.heap d es ep /\ es.size <= sizeLine /\ ∀ h',RawD h' d #[] (ep + 1)->Heap.SameBut d s.heap h'->R (.ok (.ret .none)) { s with heap:=h' }) :=
 .of_wp fun A R s ⟨es,ep,hm,hz,h⟩=>by
  obtain ⟨o,ho,hc,dat⟩:=id hm
  unfold Builtin.«dict.clear» Builtin.Dict.noArgs
  refine wpAny_bind (wpAny_bind (wpAny_notOrdered_dict hm.ty ?_)); show wpAny _ _ (pure d) _ _ s
  refine wpAny_pure (wpAny_bind (wpAny_dictEntries ho dat (wpAny_bind ?_)))
  unfold bearsInstanceDictMark
  refine wpAny_bind (wpAny_load ho (wpAny_pure (wpAny_bind (wpAny_updateDictKeys (hz:=hz) ho dat ?_))))
  have new:RawD (s.heap.update d (Obj.mapDictKeys fun _=>#[])) d #[] (ep + 1):=⟨_,Heap.get?_update_self _ ho (Obj.isFreed_of_dict (Obj.data_mapDictKeys dat _)),hc.mapDictKeys _,Obj.data_mapDictKeys dat _⟩
  split
  ·exact wpAny_bind (wpAny_letGo (wpAny_pure ⟨.none,rfl,h _ new (Heap.SameBut.update ..)⟩))
  ·exact wpAny_bind (wpAny_pure (wpAny_pure ⟨.none,rfl,h _ new (Heap.SameBut.update ..)⟩))
theorem zX3 {Q:Value->Shared->Prop} (hd:(d == sysModules) = false) (hm:RawD s.heap d es ep)
  (q:Q (.ref s.heap.objs.size) { s with heap:=s.heap.push { cls:=.type "dict_keyiterator",data:=.fields #[.ref d,.int 0 0,.int es.size 0,.int ep 0] } }):wpAny (model prog w) A (pyIter (.ref d)) Q E s:=by
 obtain ⟨o2,g2,c2,f2⟩:=id hm
 refine wpAny_pyIter_slot hm.ty F.slot_dict_iter (wpAny_call_entry F.slot_dict_iter hm.ty F.entry_dict_iter (?_) (F.args_dict_iter_1 (_)))
 unfold Builtin.«dict.__iter__» Builtin.Dict.dictSlotNone
 refine wpAny_bind (wpAny_bind (wpAny_notOrdered_dict hm.ty ?_)); show wpAny _ _ (pure (Value.ref d)) _ _ (s)
 refine wpAny_pure ?_; show wpAny _ _ (Builtin.Dict.showsAll d >>= _) _ _ s
 unfold Builtin.Dict.showsAll
 rw [if_neg (show ¬ ((d == sysModules) = true) by rw [hd]; simp)]
 refine wpAny_bind (wpAny_pure (wpAny_bind (wpAny_dictEntries g2 f2 (wpAny_bind (wpAny_dictEpoch g2 f2 (wpAny_bind (wpAny_newObj_type (wpAny_pure ⟨_,rfl,"dict_keyiterator",_,⟨_,Ĕ (_) rfl,rfl⟩,F.slot_dict_keyiterator_next.lookup,(?_)⟩))))))))
 simpa [rawInt] using q
theorem zX2 {Q:Option Value->Shared->Prop} (hit:s.heap.IsKeyIter it d i es.size ep) (hm:RawD s.heap d es ep) (hi:i < es.size)
  (q:∀ h',h'.IsKeyIter it d (i + 1) es.size ep->Heap.SameBut it s.heap h'->Q (some es[i].key) { s with heap:=h' }):wpAny (model prog w) A (pyNext (.ref it)) Q E s:=by
 obtain ⟨o,ho,hc,hd⟩:=id hit
 obtain ⟨o2,g2,c2,f2⟩:=id hm
 have hown:(Builtin.Dict_items.ownsTuple "dict_keyiterator") = false:=by decide
 unfold pyNext
 refine wpAny_bind (wpAny_attempt (wpAny_callSpecial?_slot (name:=Str.ofString "__next__") hit.typeIs F.slot_dict_keyiterator_next (wpAny_call_entry F.slot_dict_keyiterator_next hit.typeIs F.entry_dict_keyiterator_next ?_ (F.args_dict_keyiterator_next_1 _))))
 refine wpAny_bind (wpAny_pure (wpAny_bind (wpAny_bind ?_)))
 first | refine wpAny_bind (wpAny_typeNameOfWhole_keyiter hit.typeIs (wpAny_pure (wpAny_bind (wpAny_fieldsOf ho hd ?_)))) | refine wpAny_bind (wpAny_typeNameOf_keyiter hit.typeIs (wpAny_pure (wpAny_bind (wpAny_fieldsOf ho hd ?_))))
 simp only [hown,ĭ,if_false]
 show wpAny _ _ (if (Value.ref d == .none) = true then _ else _) _ _ _
 rw [if_neg (show ¬ ((Value.ref d == .none) = true) from ĝ)]
 refine wpAny_bind (wpAny_pure (wpAny_bind (wpAny_dictEntries g2 f2 ?_)))
 rw [if_neg (show ¬ _ by simp)]
 refine wpAny_bind (wpAny_pure (wpAny_bind (wpAny_dictEpoch g2 f2 ?_)))
 rw [if_neg (show ¬ _ by simp)]
 refine wpAny_pure ?_
 simp only [show ¬ ((i:Int) < 0) by omega,if_false,Œ,Array.getElem?_eq_getElem hi]
 refine wpAny_bind ?_
 first | refine wpAny_bind (wpAny_typeNameOfWhole_keyiter hit.typeIs (wpAny_pure (wpAny_bind (wpAny_isOneOf_keyiter hit.typeIs ?_)))) | refine wpAny_bind (wpAny_typeNameOf_keyiter hit.typeIs (wpAny_pure (wpAny_bind (wpAny_isOneOf_keyiter hit.typeIs ?_))))
 show wpAny _ _ (setField (.ref it) 1 (rawInt ((i:Int) + 1)) >>= _) _ _ (s)
 have st:(s.heap.update it (Obj.mapFields (·.setIfInBounds 1 (rawInt ((i:Int) + 1))))).IsKeyIter it d (i + 1) es.size ep:=⟨_,Heap.get?_update_self _ ho (Obj.isFreed_of_fields (Obj.data_mapFields hd _)),(Obj.cls_mapFields ..).trans hc,by rw [Obj.data_mapFields hd]; simp [rawInt]⟩
 refine wpAny_bind (wpAny_setField ho hd (by simp) (wpAny_bind (wpAny_holding (wpAny_bind (wpAny_isOneOf_keyiter (s:={ s with heap:=s.heap.update it (Obj.mapFields (·.setIfInBounds 1 (rawInt ((i:Int) + 1)))) }) st.typeIs ?_)))))
 exact wpAny_pure (wpAny_pure ⟨_,rfl,wpAny_pure (q _ st (Heap.SameBut.update ..))⟩)
theorem yE9 {Q:Option Value->Shared->Prop} (hh:A.handled = none) (hit:s.heap.IsKeyIter it d i es.size ep) (hm:RawD s.heap d es ep) (hi:es.size <= i)
  (q:∀ h',Heap.ExtBut it s.heap h'->Q none { s with heap:=h' }):wpAny (model prog w) A (pyNext (.ref it)) Q E s:=by
 obtain ⟨o,ho,hc,hd⟩:=id hit
 obtain ⟨o2,g2,c2,f2⟩:=id hm
 have hown:(Builtin.Dict_items.ownsTuple "dict_keyiterator") = false:=by decide
 unfold pyNext
 refine wpAny_bind (wpAny_attempt (wpAny_callSpecial?_slot (name:=Str.ofString "__next__") hit.typeIs F.slot_dict_keyiterator_next (wpAny_call_entry F.slot_dict_keyiterator_next hit.typeIs F.entry_dict_keyiterator_next ?_ (F.args_dict_keyiterator_next_1 _))))
 refine wpAny_bind (wpAny_pure (wpAny_bind (wpAny_bind ?_)))
 first | refine wpAny_bind (wpAny_typeNameOfWhole_keyiter hit.typeIs (wpAny_pure (wpAny_bind (wpAny_fieldsOf ho hd ?_)))) | refine wpAny_bind (wpAny_typeNameOf_keyiter hit.typeIs (wpAny_pure (wpAny_bind (wpAny_fieldsOf ho hd ?_))))
 simp only [hown,ĭ,if_false]
 show wpAny _ _ (if (Value.ref d == .none) = true then _ else _) _ _ _
 rw [if_neg (show ¬ ((Value.ref d == .none) = true) from ĝ)]
 refine wpAny_bind (wpAny_pure (wpAny_bind (wpAny_dictEntries g2 f2 ?_)))
 rw [if_neg (show ¬ _ by simp)]
 refine wpAny_bind (wpAny_pure (wpAny_bind (wpAny_dictEpoch g2 f2 ?_)))
 rw [if_neg (show ¬ _ by simp)]
 refine wpAny_pure ?_
 simp only [show ¬ ((i:Int) < 0) by omega,if_false,Œ,Array.getElem?_eq_none hi]
 refine wpAny_bind ?_
 first | refine wpAny_bind (wpAny_typeNameOfWhole_keyiter hit.typeIs (wpAny_pure (?_))) | refine wpAny_bind (wpAny_typeNameOf_keyiter hit.typeIs (wpAny_pure (?_)))
 show wpAny _ _ (setField (.ref it) 0 .none >>= _) _ _ (s)
 refine wpAny_bind (wpAny_setField ho hd (by simp) (show wpAny _ _ (newExc (.type "StopIteration") [] >>= _) _ _ _ from wpAny_bind ?_))
 simp only [newExc,newTuple]
 refine wpAny_bind (wpAny_newObj_type (wpAny_bind (m:=firstArgMember _ _) (wpAny_of_eq (a:=Value.none) (by first | rfl | (simp only [firstArgMember]; rfl)) (wpAny_newObj_type ?_ (by size_fits)))) (by size_fits))
 simp only [raiseNew]
 refine wpAny_bind (wpAny_handled ?_)
 rw [show (Around.in1 A).handled = none from hh]
 refine wpAny_bind (wpAny_pure (wpAny_throw (?_)))
 refine wpAny_bind (wpAny_isInstance (b:=true) (T:="StopIteration") ⟨_,Ĕ _ rfl,rfl⟩ isSubtype_stop (?_))
 exact wpAny_pure (q _ (((Heap.SameBut.update ..).extBut.push _).push _))
end
noncomputable def empD:HO->HO
 | .dK _=>.dK []
 | _=>.dT []
section
variable {X:Cx}
noncomputable def xE6:V->List V->Hp->VK->Prop:=fun x vs H Q=>∃ d u,x = .ref d /\ vs = [] /\ H d = some u /\ isDk u = true /\ Q .non (upd H d (empD u))
theorem yQ8:MtR X "dict.clear" xE6:=by
 intro pins s σ H x xs v us Q I rx rv h
 obtain ⟨d,u,rfl,rfl,hd,hu,q⟩:=h
 cases rx
 cases rv
 obtain ⟨o,es,ep,ps,g,ex,dat,hs,hps,rel⟩:=I.raw hd hu
 have hl:=yT9 hps hu I hd
 have hlen:ps.length = es.size:=by rw [rel.length]; simp
 have mu:Mut (H d):=by rw [hd]; cases u <;> first | trivial | (simp [isDk] at hu)
 have rw0:RawD s.heap d es ep:=⟨o,g,ex,dat⟩
 refine call_meetsIn PySem.F.slot_dict_clear rw0.ty PySem.F.entry_dict_clear (PySem.F.args_dict_clear_1 (_)) yO0 ⟨es,ep,rw0,by omega,fun h' new sb=>?_⟩
 obtain ⟨o',g',ex',dat'⟩:=new
 refine ⟨.non,_,I.write (x:=d) (e:=d) (o:=empD u) (h':=h') (t':=s.toks) mu (.inl rfl) (fun b ob hb q=>sb.extBut b ob hb q) ⟨o',g'⟩ ?_,rfl,q⟩
 cases u with
 | dK kvs=>exact ⟨Ī _,hs,[],.nil,o',#[],ep + 1,g',ex',dat',fun _ he=>by simp at he,.nil,List.nodup_nil⟩
 | dT kvs=>exact ⟨Ī _,hs,[],.nil,o',#[],ep + 1,g',ex',dat',rfl,List.nodup_nil⟩
 | _=>cases hu
theorem zK4:Υ X (.type "dict") (fun xs H Q=>∃ a kvs,xs = [V.ref a] /\ H a = some (.dK kvs) /\ ∀ p,H p = none->Q (.ref p) (upd H p (.dK kvs))):=by
 intro pins s σ H xs us Q I r h
 obtain ⟨a,kvs,rfl,ha,q⟩:=h
 obtain ⟨u,rfl,ru⟩:=ν r
 cases ru
 obtain ⟨z,y,vs,kv,D⟩:=ω I.hok ha
 have hl:vs.length = kvs.length:=kv.length.symm
 refine kt_call_dict y D (by omega) fun h' hm sb=>?_
 refine ⟨.ref _,_,I.laid (a:=s.heap.objs.size) (o:=.dK kvs) (t':=s.toks) (fun b ob e=>?_) (ą _) ⟨z,?_,vs,kv,hm⟩,rfl,q _ I.fresh⟩
 ·exact sb.extBut b ob (Ħ (ć e)) (Ĉ _ e)
 ·exact beq_eq_false_iff_ne.mpr (Ĩ I.big)
noncomputable def ItK (d:Addr) (o:Obj) (u:HO) (ps:List (V × V)):It :=
 ⟨fun i H=>i < ps.length /\ H d = some (.frz o u),fun i H x H'=>H' = H /\ ∃ v,ps[i]? = some (x,v),fun i H=>i = ps.length /\ H d = some (.frz o u)⟩
theorem yK8 {P:Program} {w:World} {K:Ā} {tg:Expr} {d it:Addr} {o:Obj} {u:HO} {ps:List (V × V)} {es:Array DictEntry} {ep:Nat} (hx:o.ExactDict) (dat:o.data = .dict es ep) (rel:yK2 ps es.toList) :
  Turn P w K tg (ItK d o u ps) [it] it (fun i h=>h.IsKeyIter it d i es.size ep) where
 mem:=by simp
 obj:=fun i h st b hb=>by
  have e:b = it:=by simpa using hb
  subst e
  obtain ⟨o,e,_,d⟩:=st
  exact ⟨o,e,fun v z=>by rw [d] at z; cases z⟩
 keep:=fun i h h' st k=>let ⟨o,e,r⟩:=st; ⟨o,k it (by simp) o e,r⟩
 item:=by
  intro X hP hw hK hc i pins s σ H E I hf st hg
  subst hP hw hK
  obtain ⟨f0,f1,_,f3,f4,f5⟩:=hf it (by simp)
  obtain ⟨hi,hd⟩:=hg
  have hlen:ps.length = es.size:=by rw [rel.length]; simp
  have hi':i < es.size:=by omega
  refine zX2 st ⟨o,(I.hok d _ hd).1,hx,dat⟩ hi' fun h' st' sb=>?_
  obtain ⟨p,hp⟩:∃ p,ps[i]? = some p:=⟨ps[i],by simp [hi]⟩
  obtain ⟨e',he',rk,rv⟩:=zR8 rel hp
  have ee:e' = es[i]:=by
   have:es.toList[i]? = some es[i]:=by simp [hi']
   rw [this] at he'; exact (Option.some.inj he').symm
  subst ee
  have I1:Inv X pins σ H { s with heap:=h',toks:=s.toks }:=I.turned (fun b ob hb e=>sb.extBut b ob hb e) f0 f1 f3 f4 f5
  obtain ⟨oi,ei,ci,di⟩:=id st'
  exact ⟨_,rfl,yS9 (s:={ s with heap:=h',toks:=s.toks }) ei ci di (by decide) ⟨p.1,H,I1,rk,⟨rfl,p.2,hp⟩,st',fun b hb=>(hf b hb).1⟩⟩
 done:=by
  intro X hP hw hK hc i pins s σ H E I hf st hg
  subst hP hw hK
  obtain ⟨f0,f1,_,f3,f4,f5⟩:=hf it (by simp)
  obtain ⟨hi,hd⟩:=hg
  have hlen:ps.length = es.size:=by rw [rel.length]; simp
  exact yE9 (I.ok.hd hc) st ⟨o,(I.hok d _ hd).1,hx,dat⟩ (by rw [hi,hlen]; exact ą _) fun h' eb=>⟨rfl,I.turned (t':=s.toks) (fun b ob hb e=>eb b ob hb e) f0 f1 f3 f4 f5⟩
 self:=fun A i s Q E st h=>wpAny_pyIter_keyiter st h
noncomputable def xQ6 (tl:TE):TI:=fun σ H R=>tl σ H fun x H1=>∃ d u,x = .ref d /\ H1 d = some u /\ isDk u = true /\ ∀ o ps,Pss H1 u ps->R (ItK d o u ps) (upd H1 d (.frz o u))
theorem Χ {tg l:Expr} {tl:TE} (hl:PE X l tl):PI X tg l (xQ6 tl):=by
 intro pins s σ H R I h
 refine thn (hl pins s σ H _ I h) fun v s1 ⟨x,H1,I1,r1,q1⟩=>?_
 obtain ⟨d,u,rfl,hd,hu,q⟩:=q1
 cases r1
 obtain ⟨o,es,ep,ps,g,ex,dat,hs,hps,rel⟩:=I1.raw hd hu
 refine zX3 hs ⟨o,g,ex,dat⟩ ?_
 have I2:Inv X pins σ H1 _:=I1.kept (t':=s1.toks) (h':=s1.heap.push { cls:=.type "dict_keyiterator",data:=.fields #[.ref d,.int 0 0,.int es.size 0,.int ep 0] }) fun b ob e=>Ĉ _ e
 refine ⟨s1.heap.objs.size,[s1.heap.objs.size],_,_,_,rfl,I2.freeze hd hu (Ĉ _ g),yK8 ex dat rel,⟨_,Ĕ _ rfl,rfl,rfl⟩,fun b hb=>?_,q o ps hps⟩
 have e:b = s1.heap.objs.size:=by simpa using hb
 subst e
 exact I1.fpOk (ą _) (by rw [upd_ne (Ç hd I1.fresh).symm]; exact I1.fresh)
end
theorem Ū {X:Cx} {K:Ā} {o:Expr} {to:TE} {name:Str} {apos cpos:Pos} {T id:String} {r:V->List V->Hp->VK->Prop} (h:X.K = K) (pa:PlainAttrs T) (slot:Slot T name id) (hty:typeOf (.builtin id) = pure (.type "method_descriptor")) (hm:MtR X id r) (ho:PE X o to)
  (hbase:attributeBase o name X.env (eval o X.env) = eval o X.env:=by rfl) (hline:(apos.endLine == cpos.line) = true:=by rfl):PE X (.Call (.Attribute o name apos) [] [] cpos) (tBM0 K T r to):=by subst h; exact xK2 pa slot hty hm ho hbase hline
theorem Ů {d:Addr} {o:Obj} {u:HO} {ps:List (V × V)} {g:TG} {tb:TS} {D:Ends} {σ:St} {H:Hp} (Pv:Nat->St->Hp->Prop) (h0:Pv 0 σ H) (hf:∀ i σ H,Pv i σ H->H d = some (.frz o u))
  (hs:∀ i k v T σ H,ps[i]? = some (k,v)->Pv i σ H->H T = none->g (.ref T) σ (upd H T (.tup [k,v])) fun σ2 H2=>tb { D with nx:=Pv (i + 1),ct:=Pv (i + 1),bk:=D.nx } σ2 H2) (hd:∀ σ H,Pv ps.length σ H->D.nx σ H) :
  ∃ W:Nat->Nat->St->Hp->Prop,(∃ m,W 0 m σ H) /\ ∀ i m σ H,W i m σ H->((ItD d o u ps).stop i H /\ D.nx σ H) \/ ((ItD d o u ps).go i H /\ ∃ N:St->Hp->Prop,(∀ σ' H',N σ' H'->∃ m',m' < m /\ W (i + 1) m' σ' H') /\
   ∀ x H',(ItD d o u ps).yld i H x H'->g x σ H' fun σ2 H2=>tb { D with nx:=N,ct:=N,bk:=D.nx } σ2 H2):=by
 refine ⟨fun i m σ H=>m = ps.length - i /\ i <= ps.length /\ Pv i σ H,⟨_,rfl,Ī _,h0⟩,?_⟩
 rintro i m σ H ⟨rfl,hi,p⟩
 by_cases hlt:i < ps.length
 ·refine .inr ⟨⟨hlt,hf i σ H p⟩,Pv (i + 1),fun σ' H' p'=>⟨ps.length - (i + 1),by omega,rfl,hlt,p'⟩,fun x H' y=>?_⟩
  obtain ⟨k,v,T,hk,e1,hT,e2⟩:=y
  subst e1 e2
  exact hs i k v T σ H hk p hT
 ·have e:i = ps.length:=by omega
  subst e
  exact .inl ⟨⟨rfl,hf _ σ H p⟩,hd σ H p⟩
theorem zI4 {d:Addr} {o:Obj} {u:HO} {ps:List (V × V)} {g:TG} {tb:TS} {D:Ends} {σ:St} {H:Hp} (Pv:Nat->St->Hp->Prop) (h0:Pv 0 σ H) (hf:∀ i σ H,Pv i σ H->H d = some (.frz o u))
  (hs:∀ i k v σ H,ps[i]? = some (k,v)->Pv i σ H->g k σ H fun σ2 H2=>tb { D with nx:=Pv (i + 1),ct:=Pv (i + 1),bk:=D.nx } σ2 H2) (hd:∀ σ H,Pv ps.length σ H->D.nx σ H) :
  ∃ W:Nat->Nat->St->Hp->Prop,(∃ m,W 0 m σ H) /\ ∀ i m σ H,W i m σ H->((ItK d o u ps).stop i H /\ D.nx σ H) \/ ((ItK d o u ps).go i H /\ ∃ N:St->Hp->Prop,(∀ σ' H',N σ' H'->∃ m',m' < m /\ W (i + 1) m' σ' H') /\
   ∀ x H',(ItK d o u ps).yld i H x H'->g x σ H' fun σ2 H2=>tb { D with nx:=N,ct:=N,bk:=D.nx } σ2 H2):=by
 refine ⟨fun i m σ H=>m = ps.length - i /\ i <= ps.length /\ Pv i σ H,⟨_,rfl,Ī _,h0⟩,?_⟩
 rintro i m σ H ⟨rfl,hi,p⟩
 by_cases hlt:i < ps.length
 ·refine .inr ⟨⟨hlt,hf i σ H p⟩,Pv (i + 1),fun σ' H' p'=>⟨ps.length - (i + 1),by omega,rfl,hlt,p'⟩,fun x H' y=>?_⟩
  obtain ⟨e,v,hk⟩:=y
  subst e
  exact hs i x v σ _ hk p
 ·have e:i = ps.length:=by omega
  subst e
  exact .inl ⟨⟨rfl,hf _ σ H p⟩,hd σ H p⟩
end L2
namespace Tc
section
variable {α:Type} [DecidableEq α]
noncomputable def dlt (n:α):α->Rat:=fun z=>if z = n then 1 else 0
noncomputable def fw (x y:α) (t:Rat) (v:α->Rat):α->Rat:=fun z=>if z = y then v y + v x * t else if z = x then v x - v x * t else v z
noncomputable def bw (x y:α) (t:Rat) (R:α->α->Rat):α->α->Rat:=fun n=>if n = x then fun z=>R x z * (1 - t) + R y z * t else R n
theorem xM3 (x y:α) (t:Rat) (a b:α->Rat) (p q:Rat):fw x y t (fun z=>a z * p + b z * q) = fun z=>fw x y t a z * p + fw x y t b z * q:=by
 funext z
 unfold fw
 split
 ·grind
 ·split
  ·grind
  ·rfl
theorem xR3 (x' y':α) (t':Rat) (x y:α) (t:Rat) (R:α->α->Rat):bw x' y' t' (fun n=>fw x y t (R n)) = fun n=>fw x y t (bw x' y' t' R n):=by
 funext n
 unfold bw
 split
 ·exact (xM3 x y t (R x') (R y') (1 - t') t').symm
 ·rfl
theorem xN4 {x y:α} (t:Rat) (h:x ≠ y):bw x y t dlt = fun n=>fw x y t (dlt n):=by
 funext n z
 unfold bw fw dlt
 by_cases e:n = x
 ·rw [if_pos e]
  subst e
  by_cases e1:z = y
  ·subst e1
   have:z ≠ n:=fun q=>h q.symm
   grind
  ·by_cases e2:z = n
   ·subst e2; grind
   ·grind
 ·rw [if_neg e]
  grind
noncomputable def IsM (P k:Nat) (r:Rat):Prop:=0 <= r /\ ∃ m:Nat,m <= k * P /\ r * (P:Rat) = (m:Rat)
theorem yJ4 {P:Nat} (h:0 < P):(P:Rat) ≠ 0:=by
 intro e
 have:(P:Rat) = ((0:Nat):Rat):=e
 have:=Rat.natCast_inj.mp this
 omega
theorem IsM.eq {P k:Nat} {r:Rat} (hP:0 < P) (h:IsM P k r):∃ m:Nat,m <= k * P /\ r = Ě m P:=by
 obtain ⟨_,m,hm,e⟩:=h
 refine ⟨m,hm,?_⟩
 rw [Ļ,Ť,Ť]
 have:=yJ4 hP
 grind
theorem IsM.zero (P k:Nat):IsM P k 0:=⟨by decide,0,Ī _,by rw [ō]; rfl⟩
theorem IsM.one (P:Nat):IsM P 1 1:=⟨by decide,P,by omega,by rw [Rat.one_mul]⟩
theorem IsM.add {P k j:Nat} {r q:Rat} (h:IsM P k r) (g:IsM P j q):IsM P (k + j) (r + q):=by
 obtain ⟨h0,m,hm,e⟩:=h
 obtain ⟨g0,n,hn,f⟩:=g
 refine ⟨Rat.add_nonneg h0 g0,m + n,by rw [Nat.add_mul]; omega,?_⟩
 rw [Rat.add_mul,e,f,Rat.natCast_add]
theorem xG3 (t:Rat):t * (t.den:Rat) = (t.num:Rat):=by
 have h:=Ł t
 rw [Ļ,Ť] at h
 have:=yJ4 t.den_pos
 grind
theorem parts {t:Rat} (h0:0 <= t) (h1:t <= 1):∃ u w:Nat,t.den = u + w /\ t * (t.den:Rat) = (u:Rat) /\ (1 - t) * (t.den:Rat) = (w:Rat):=by
 have n0:=Rat.num_nonneg.mpr h0
 have n1:=(Rat.le_iff t 1).mp h1
 have n1:t.num <= t.den:=by simpa using n1
 obtain ⟨u,hu⟩:=ķ n0
 have hw:t.den = u + (t.den - u):=by omega
 have e:=xG3 t
 rw [hu,Ť] at e
 refine ⟨u,t.den - u,hw,e,?_⟩
 have e2:(t.den:Rat) = (u:Rat) + ((t.den - u:Nat):Rat):=by rw [<- Rat.natCast_add,<- hw]
 grind
theorem IsM.mulL {P k:Nat} {a t:Rat} (h:IsM P k a) (h0:0 <= t) (h1:t <= 1):IsM (P * t.den) k (a * t):=by
 obtain ⟨a0,m,hm,e⟩:=h
 obtain ⟨u,w,hd,eu,ew⟩:=parts h0 h1
 refine ⟨Ğ a0 h0,m * u,?_,?_⟩
 ·rw [hd,<- ŋ]
  exact ğ hm (by omega)
 ·rw [Ģ,Ģ,<- e,<- eu]; grind
theorem zE4 {t:Rat} (h1:t <= 1):0 <= 1 - t:=by grind
theorem IsM.mix {P k:Nat} {a b t:Rat} (h:IsM P k a) (g:IsM P k b) (h0:0 <= t) (h1:t <= 1):IsM (P * t.den) k (a * (1 - t) + b * t):=by
 obtain ⟨a0,m,hm,e⟩:=h
 obtain ⟨b0,n,hn,f⟩:=g
 obtain ⟨u,w,hd,eu,ew⟩:=parts h0 h1
 refine ⟨Rat.add_nonneg (Ğ a0 (zE4 h1)) (Ğ b0 h0),m * w + n * u,?_,?_⟩
 ·rw [hd,<- ŋ,Nat.mul_add]
  have:=Ė w hm
  have:=Ė u hn
  omega
 ·rw [Rat.natCast_add,Ģ,Ģ,Ģ,<- e,<- f,<- eu,<- ew]; grind
theorem IsM.mulR {P k:Nat} {a t:Rat} (h:IsM P k a) (h0:0 <= t) (h1:t <= 1):IsM (P * t.den) k (a * (1 - t)):=by
 have:=h.mix (IsM.zero P k) h0 h1
 rw [ō,Ŋ] at this
 exact this
theorem IsM.up {P k:Nat} {a:Rat} (h:IsM P k a) (d:Nat):IsM (P * d) k a:=by
 obtain ⟨a0,m,hm,e⟩:=h
 refine ⟨a0,m * d,by rw [<- ŋ]; exact Ė d hm,?_⟩
 rw [Ģ,Ģ,<- e]; grind
noncomputable def sumL (L:List α) (f:α->Rat):Rat:=(L.map f).foldl (· + ·) 0
theorem yJ9 (rs:List Rat) (a:Rat):rs.foldl (· + ·) a = a + rs.foldl (· + ·) 0:=by
 induction rs generalizing a with
 | nil=>simp [Ŋ]
 | cons r rs ih =>
  rw [List.foldl_cons,List.foldl_cons,ih (a + r),ih (0 + r),ň,Rat.add_assoc]
theorem õ (f:α->Rat):sumL [] f = 0:=rfl
theorem Í (z:α) (L:List α) (f:α->Rat):sumL (z :: L) f = f z + sumL L f:=by
 unfold sumL
 rw [ĸ,List.foldl_cons,yJ9,ň]
theorem zH1 (z:α) (L:List α) (f:α->Rat):sumL (L ++ [z]) f = sumL L f + f z:=by
 unfold sumL
 rw [ė,List.foldl_append]; rfl
theorem yW0 (L:List α) (a b:α->Rat) (t:Rat):sumL L (fun z=>a z * (1 - t) + b z * t) = sumL L a * (1 - t) + sumL L b * t:=by
 induction L with
 | nil=>simp only [õ]; grind
 | cons z L ih=>rw [Í,Í,Í,ih]; grind
theorem ö (L:List α) (f:α->Rat) (h:∀ z ∈ L,f z = 0):sumL L f = 0:=by
 induction L with
 | nil=>rfl
 | cons z L ih=>rw [Í,h z ă,ih fun y hy=>h y (Ă _ hy),Ŋ]
theorem yW1 {L:List α} (hn:L.Nodup) {n:α} (h:n ∈ L):sumL L (dlt n) = 1:=by
 induction L with
 | nil=>simp at h
 | cons z L ih =>
  rw [Í]
  rw [Ġ] at hn
  by_cases e:z = n
  ·subst e
   rw [ö L _ fun y hy=>?_]
   ·simp [dlt,Ŋ]
   ·unfold dlt; rw [if_neg]; rintro rfl; exact hn.1 hy
  ·have:n ∈ L:=by
    rcases Ē.mp h with q | q
    ·exact absurd q.symm e
    ·exact q
   rw [ih hn.2 this]
   unfold dlt; rw [if_neg e,ň]
theorem ô {L:List α} {z:α} (h:z ∈ L) (f:α->Rat):sumL L f = f z + sumL (L.erase z) f:=by
 induction L with
 | nil=>simp at h
 | cons y L ih =>
  rw [List.erase_cons]
  by_cases e:y = z
  ·subst e; simp [Í]
  ·have hz:z ∈ L:=by
    rcases Ē.mp h with q | q
    ·exact absurd q.symm e
    ·exact q
   have:¬ (y == z) = true:=by simpa using e
   rw [if_neg this,Í,Í,ih hz]; grind
theorem Ζ:∀ {L ks:List α} (f:α->Rat),L.Nodup->ks.Nodup->(∀ z ∈ ks,z ∈ L)->(∀ z ∈ L,f z ≠ 0->z ∈ ks)->sumL ks f = sumL L f
 | [],ks,f,_,_,h,_=>by
  cases ks with
  | nil=>rfl
  | cons z _=>exact absurd (h z ă) (by simp)
 | z :: L,ks,f,hL,hk,h,g=>by
  rw [Ġ] at hL
  rw [Í]
  by_cases hz:z ∈ ks
  ·rw [ô hz]
   congr 1
   refine Ζ f hL.2 (hk.erase z) (fun y hy=>?_) fun y hy hf=>?_
   ·obtain ⟨a,b⟩:=(hk.mem_erase_iff).mp hy
    rcases Ē.mp (h y b) with q | q
    ·exact absurd q a
    ·exact q
   ·refine (hk.mem_erase_iff).mpr ⟨fun e=>hL.1 (e ▸ hy),g y (Ă _ hy) hf⟩
  ·have e:f z = 0:=by
    by_cases q:f z = 0
    ·exact q
    ·exact absurd (g z ă q) hz
   rw [e,ň]
   refine Ζ f hL.2 hk (fun y hy=>?_) fun y hy hf=>g y (Ă _ hy) hf
   rcases Ē.mp (h y hy) with q | q
   ·exact absurd hy (q ▸ hz)
   ·exact q
theorem Ú:∀ {L ks:List α},ks.Nodup->(∀ z ∈ ks,z ∈ L)->ks.length <= L.length
 | L,[],_,_=>by simp
 | L,k :: ks,hk,h=>by
  rw [Ġ] at hk
  have hm:=h k ă
  have:=Ú (L:=L.erase k) (ks:=ks) hk.2 fun z hz=>by
   refine (List.mem_erase_of_ne ?_).mpr (h z (Ă _ hz))
   rintro rfl; exact hk.1 hz
  rw [List.length_erase_of_mem hm] at this
  have hp:=List.length_pos_of_mem hm
  rw [ģ]
  omega
noncomputable def op (f:α->Rat):α->Option Rat:=fun z=>if f z = 0 then none else some (f z)
theorem ζ (f:α->Rat) (z:α):(op f z).getD 0 = f z:=by
 unfold op; split
 ·rename_i h; rw [h]; rfl
 ·rfl
theorem op_some {f:α->Rat} {z:α}:(op f z).isSome = true ↔ f z ≠ 0:=by
 unfold op; split
 ·rename_i h; simp [h]
 ·rename_i h; simp [h]
structure Good (L:List α) (P:Nat) (R:α->α->Rat):Prop where
 part:∀ n ∈ L,∀ z,IsM P 1 (R n z)
 sup:∀ n ∈ L,∀ z,R n z ≠ 0->z ∈ L
 all:∀ n ∈ L,sumL L (R n) = 1
theorem Good.dlt {L:List α} (h:L.Nodup):Good L 1 (dlt (α:=α)) where
 part:=fun n _ z=>by
  unfold Tc.dlt; split
  ·exact IsM.one 1
  ·exact IsM.zero 1 1
 sup:=fun n hn z hz=>by
  unfold Tc.dlt at hz
  split at hz
  ·rename_i e; rw [e]; exact hn
  ·exact absurd rfl hz
 all:=fun n hn=>yW1 h hn
theorem Good.bw {L:List α} {P:Nat} {R:α->α->Rat} {x y:α} {t:Rat} (h:Good L P R) (hx:x ∈ L) (hy:y ∈ L) (h0:0 <= t) (h1:t <= 1):Good L (P * t.den) (bw x y t R) where
 part:=fun n hn z=>by
  unfold Tc.bw; split
  ·exact (h.part x hx z).mix (h.part y hy z) h0 h1
  ·exact (h.part n hn z).up _
 sup:=fun n hn z hz=>by
  unfold Tc.bw at hz
  split at hz
  ·have hz:R x z * (1 - t) + R y z * t ≠ 0:=hz
   by_cases e:R x z = 0
   ·by_cases e2:R y z = 0
    ·rw [e,e2,ō,ō,Ŋ] at hz; exact absurd rfl hz
    ·exact h.sup y hy z e2
   ·exact h.sup x hx z e
  ·exact h.sup n hn z hz
 all:=fun n hn=>by
  unfold Tc.bw; split
  ·rw [yW0,h.all x hx,h.all y hy]; grind
  ·exact h.all n hn
theorem xD1 {u b:Int} (h0:0 <= u) (h1:u <= b) (hb:0 < b):0 <= Ě u b /\ Ě u b <= 1:=by
 refine ⟨Rat.divInt_nonneg h0 (by omega),?_⟩
 have e:(1:Rat) = Ě b b:=by
  rw [Ļ]
  have:(b:Rat) ≠ 0:=by
   intro z
   have:b = 0:=by exact_mod_cast z
   omega
  grind
 have e2:(1:Rat) - Ě u b = Ě (b - u) b:=by
  rw [e,Ļ,Ļ,Ļ,Rat.intCast_sub]
  grind
 have:0 <= Ě (b - u) b:=Rat.divInt_nonneg (by omega) (by omega)
 rw [<- e2] at this
 grind
theorem yF4 {a:Rat} (h:0 <= a) (n:a ≠ 0):0 < a:=by grind
theorem yP3:op (fun _:α=>0) = fun _=>none:=by funext z; simp [op]
noncomputable def filt (f:α->Option Rat) (ks:List α):α->Option Rat:=fun z=>if z ∈ ks then (match f z with | some q=>if q = 0 then none else some q | none=>none) else none
end
end Tc
namespace L2
open PySem PySem.Spec PyProof.Rows
theorem yD0:bootBuiltins "reversed" = some (.type "reversed"):=by decide +kernel
noncomputable def Itv (K:Ā) (a:Addr) (xs:List V):It :=
 ⟨fun i H=>i < xs.length /\ SqL K H a xs,fun i H x H'=>H' = H /\ xs[xs.length - 1 - i]? = some x,fun i _=>i = xs.length⟩
theorem yV7 {P:Program} {w:World} {K:Ā} {tg:Expr} (a it:Addr) (xs:List V):Turn P w K tg (Itv K a xs) [it] it (fun i h=>h.IsRevIter it a ((xs.length:Int) - 1 - (i:Int))) where
 mem:=by simp
 obj:=fun i h st b hb=>by
  have e:b = it:=by simpa using hb
  subst e
  obtain ⟨o,e,c,d⟩:=st
  exact ⟨o,e,fun v z=>by rw [d] at z; cases z⟩
 keep:=fun i h h' st k=>st.at fun o e=>k it (by simp) o e
 item:=by
  intro X hP hw hK hc i pins s σ H E I hf st hg
  subst hP hw hK
  obtain ⟨hi,hq⟩:=hg
  obtain ⟨its,rv,p,hz⟩:=I.list hq
  have hx:xs[xs.length - 1 - i]? = some (xs[xs.length - 1 - i]'(by omega)):=Č (by omega)
  obtain ⟨u,hu,ru⟩:=rv.get hx
  obtain ⟨f0,f1,f2,f3,f4,f5⟩:=hf it (by simp)
  have e:(xs.length:Int) - 1 - (i:Int) = ((xs.length - 1 - i:Nat):Int):=by omega
  have st:s.heap.IsRevIter it a ((xs.length:Int) - 1 - (i:Int)):=st
  rw [e] at st
  refine wpAny_pyNext_rev_item st p.isList (x:=u) (by simpa using hu) fun h' st' sb=>?_
  have I1:Inv X pins σ H { s with heap:=h' }:=I.turned (t':=s.toks) (fun b o hb e=>(sb.2 b hb).trans e) f0 f1 f3 f4 f5
  have e2:((xs.length - 1 - i:Nat):Int) - 1 = (xs.length:Int) - 1 - ((i + 1:Nat):Int):=by omega
  rw [e2] at st'
  obtain ⟨o,e,c,d⟩:=id st'
  exact ⟨u,rfl,yS9 (s:={ s with heap:=h' }) e c d (by decide) ⟨_,H,I1,ru,⟨rfl,hx⟩,st',fun b hb=>(hf b hb).1⟩⟩
 done:=by
  intro X hP hw hK hc i pins s σ H E I hf st hg
  subst hP hw hK
  have hg:i = xs.length:=hg
  obtain ⟨f0,f1,f2,f3,f4,f5⟩:=hf it (by simp)
  have e:(xs.length:Int) - 1 - (i:Int) = -1:=by omega
  have st:s.heap.IsRevIter it a ((xs.length:Int) - 1 - (i:Int)):=st
  rw [e] at st
  exact wpAny_pyNext_rev_end (I.ok.hd hc) st fun h' eb=>⟨rfl,I.turned (t':=s.toks) (fun b o hb e=>eb b o hb e) f0 f1 f3 f4 f5⟩
 self:=fun _ _ _ _ _ st h=>wpAny_pyIter_revIter st h
section
variable {X:Cx} {K:Ā}
noncomputable def iRev (K:Ā) (ta:TA):TI:=fun σ H R=>ta σ H fun vs H1=>∃ a xs,vs = [V.ref a] /\ SqL K H1 a xs /\ R (Itv K a xs) H1
theorem xB8 {tg a:Expr} {ta:TA} {p pos:Pos} (hK:X.K = K) (hg:Gl X "reversed") (hm:X.mg "reversed" = none) (ha:PA X [a] ta) (hs:starEach [a] X.env = [(false,eval a X.env)]:=by rfl):PI X tg (.Call (.Name "reversed" p) [a] [] pos) (iRev K ta):=by
 subst hK
 intro pins s σ H R I h
 refine Call_ (η I hg hm yD0 (PyProof.Rows.callWith_type1 (thn (ha pos pins s σ H _ I h) fun us s1 ⟨vs,H1,I1,r1,q1⟩=>?_) hs rfl))
 obtain ⟨b,xs,rfl,hq,q⟩:=q1
 obtain ⟨u,rfl,ru⟩:=ν r1
 cases ru
 obtain ⟨its,rv,p,hz⟩:=I1.list hq
 refine call_reversed_list p.isList ?_
 have e:((its.toArray.size:Nat):Int) - 1 = (xs.length:Int) - 1 - ((0:Nat):Int):=by
  have:=rv.length
  simp; omega
 rw [e]
 refine wpAny_pyIter_revIter (l:=b) (i:=(xs.length:Int) - 1 - ((0:Nat):Int)) ⟨_,Ĕ _ rfl,rfl,rfl⟩ ?_
 refine ⟨s1.heap.objs.size,[s1.heap.objs.size],_,_,H1,rfl,I1.kept (t':=s1.toks) fun b o e=>Ĉ _ e,yV7 b _ xs,⟨_,Ĕ _ rfl,rfl,rfl⟩,fun b hb=>?_,q⟩
 have e:b = s1.heap.objs.size:=by simpa using hb
 subst e
 exact I1.fpOk (ą _) (I1.hok.fresh (ą _))
theorem zI7:Υ X (.builtin "len") (fun xs H Q=>∃ a kvs,xs = [V.ref a] /\ H a = some (.dK kvs) /\ Q (.int (kvs.length:Nat)) H):=by
 intro pins s σ H xs us Q I r h
 obtain ⟨a,kvs,rfl,ha,q⟩:=h
 obtain ⟨u,rfl,ru⟩:=ν r
 cases ru
 obtain ⟨z,y,vs,kv,D⟩:=ω I.hok ha
 have hl:vs.length = kvs.length:=kv.length.symm
 have hs:sizeLine = 16777216:=sizeLine_eq
 refine call_len_dict y D (by omega) ?_
 rw [hl]
 exact ⟨.int _,H,I.tok _,⟨_,rfl⟩,q⟩
end
theorem yT1 {K:Ā} {a:Addr} {xs:List V} {g:TG} {tb:TS} {D:Ends} {σ:St} {H:Hp} (Pv:Nat->St->Hp->Prop) (h0:Pv xs.length σ H) (hl:∀ j σ H,j <= xs.length->Pv j σ H->SqL K H a xs)
  (hs:∀ j x σ H,xs[j]? = some x->Pv (j + 1) σ H->g x σ H fun σ2 H2=>tb { D with nx:=Pv j,ct:=Pv j,bk:=D.nx } σ2 H2) (hd:∀ σ H,Pv 0 σ H->D.nx σ H) :
  ∃ W:Nat->Nat->St->Hp->Prop,(∃ m,W 0 m σ H) /\ ∀ i m σ H,W i m σ H ->
   ((Itv K a xs).stop i H /\ D.nx σ H) \/ ((Itv K a xs).go i H /\ ∃ N:St->Hp->Prop,(∀ σ' H',N σ' H'->∃ m',m' < m /\ W (i + 1) m' σ' H') /\ ∀ x H',(Itv K a xs).yld i H x H'->g x σ H' fun σ2 H2=>tb { D with nx:=N,ct:=N,bk:=D.nx } σ2 H2):=by
 refine ⟨fun i m σ H=>i + m = xs.length /\ Pv m σ H,⟨xs.length,by omega,h0⟩,?_⟩
 rintro i m σ H ⟨hi,p⟩
 have q:=hl m σ H (by omega) p
 cases m with
 | zero=>exact .inl ⟨by show i = _; omega,hd σ H p⟩
 | succ j =>
  refine .inr ⟨⟨by omega,q⟩,Pv j,fun σ' H' p'=>⟨j,by omega,by omega,p'⟩,fun x H' y=>?_⟩
  obtain ⟨e,y⟩:=y
  subst e
  have ej:xs.length - 1 - i = j:=by omega
  rw [ej] at y
  exact hs j x σ _ y p
theorem Paired.take {α β:Type} {F:α->β->Prop} {xs:List α} {ys:List β} (h:Paired F xs ys):∀ i:Nat,Paired F (xs.take i) (ys.take i):=by
 induction h with
 | nil=>intro i; rw [List.take_nil,List.take_nil]; exact .nil
 | cons r t ih =>
  intro i
  cases i with
  | zero=>exact .nil
  | succ i=>rw [List.take_succ_cons,List.take_succ_cons]; exact .cons r (ih i)
theorem Paired.drop {α β:Type} {F:α->β->Prop} {xs:List α} {ys:List β} (h:Paired F xs ys):∀ i:Nat,Paired F (xs.drop i) (ys.drop i):=by
 induction h with
 | nil=>intro i; rw [List.drop_nil,List.drop_nil]; exact .nil
 | cons r t ih =>
  intro i
  cases i with
  | zero=>exact .cons r t
  | succ i=>rw [List.drop_succ_cons,List.drop_succ_cons]; exact ih i
theorem Paired.app {α β:Type} {F:α->β->Prop} {xs xs':List α} {ys ys':List β} (h:Paired F xs ys) (g:Paired F xs' ys'):Paired F (xs ++ xs') (ys ++ ys'):=by
 induction h with
 | nil=>exact g
 | cons r t ih=>exact .cons r ih
section
variable {X:Cx} {K:Ā} {pos:Pos}
noncomputable def gLst (K:Ā) (n:Nat) (t:TGs):TG:=fun v σ H Q=>∃ a xs,v = .ref a /\ SqL K H a xs /\ xs.length = n /\ t xs σ H Q
theorem xJ8 {es:List Expr} {k:Nat} {t:TGs} {n:Nat} (hK:X.K = K) (hc:X.calm = true) (h:PGs X es t)
  (hn:(assignEach es X.env).length = n:=by rfl) (hst:(assignEach es X.env).findIdx? (·.1) = none:=by rfl):PG X (.Tuple es k pos) (gLst K n t):=by
 subst hK
 intro pins s σ H v u Q I r hw
 obtain ⟨a,xs,e1,hq,hl,hw⟩:=hw
 subst e1
 cases r
 obtain ⟨its,rv,p,hz⟩:=I.list hq
 rw [assign_Tuple]
 refine wpAny_bind (wpAny_standAt ?_)
 unfold unpack
 have e:(assignEach es X.env).length = its.toArray.size:=by simp [hn,<- hl,rv.length]
 rw [e,hst]
 refine wpAny_bind (wpAny_holding (PySem.W.kun_itemsOf (I.ok.hd hc) p.isList fun h' hx=>?_))
 have I1:Inv X pins σ H { s with heap:=h' }:=I.kept (t':=s.toks) fun b o e=>hx b o (Ħ (ć e)) e
 exact h pins _ σ H xs _ Q I1 (by simpa using rv) hw
noncomputable def xE5:V->List V->Hp->VK->Prop:=fun x vs H Q=>∃ (l:Addr) (xs:List V) (i:Nat) (y:V),x = .ref l /\ vs = [.int (i:Nat),y] /\ H l = some (.lst xs) /\ i <= xs.length /\ xs.length <= 1000 /\ Q .non (upd H l (.lst (xs.take i ++ y :: xs.drop i)))
theorem yQ7:MtR X "list.insert" xE5:=by
 intro pins s σ H x vs v us Q I rx rv h
 obtain ⟨l,xs,i,y,rfl,rfl,hH,hi,hz,q⟩:=h
 cases rx
 obtain ⟨u1,u2,rfl,r1,r2⟩:∃ u1 u2,us = [u1,u2] /\ RelV (.int (i:Nat)) u1 /\ RelV y u2:=by
  cases rv with
  | cons a r =>
   cases r with
   | cons b r=>cases r; exact ⟨_,_,rfl,a,b⟩
 obtain ⟨t,rfl⟩:=r1
 obtain ⟨z,its,n,r,hl,e⟩:=I.lstM hH
 have hsz:sizeLine = 16777216:=sizeLine_eq
 have hle:its.toArray.size <= sizeLine:=by rw [ę]; omega
 obtain ⟨x,hx⟩:∃ x:Int,x = ((i:Nat):Int):=⟨_,rfl⟩
 rw [<- hx]
 have hfit:¬ (!Builtin.List.listFitsIndex x) = true:=by
  have:Builtin.List.listFitsIndex x = true:=by
   unfold Builtin.List.listFitsIndex
   rw [ŗ]
   exact ⟨decide_eq_true (by omega),decide_eq_true (by omega)⟩
  rw [this]; decide
 refine call_meets F.slot_list_insert ⟨_,e,rfl⟩ F.entry_list_insert (F.args_list_insert_3 _ _ _) (AutoSeq1.list_insert_list_int_val_1 l its.toArray n x t u2 hfit hle) ⟨e,?_⟩
 refine ⟨.non,_,I.lset (its':=its.take i ++ u2 :: its.drop i) hH e ?_ ?_ ?_,rfl,q⟩
 ·have ek:(if x < 0 then (x + (its.toArray.size:Int)).toNat else min x.toNat its.toArray.size) = i:=by
   rw [if_neg (by omega),ę]
   omega
  show (its.toArray.extract 0 (if x < 0 then (x + (its.toArray.size:Int)).toNat else min x.toNat its.toArray.size)).push u2 ++ its.toArray.extract (if x < 0 then (x + (its.toArray.size:Int)).toNat else min x.toNat its.toArray.size) = _
  rw [ek]
  apply Array.ext'
  simp
  exact List.take_of_length_le (by rw [ņ]; omega)
 ·exact Paired.app (Paired.take r i) (.cons r2 (Paired.drop r i))
 ·rw [Ĝ,ģ,ē,ņ]
  omega
end
noncomputable def xO3 (H0:Hp) (D:Ends):Ends where
 nx:=fun σ H=>∃ d o u,(∀ ob v,H0 d ≠ some (.frz ob v)) /\ H d = some (.frz o u) /\ D.nx σ (upd H d u)
 rt:=fun v H=>∃ d o u,(∀ ob v,H0 d ≠ some (.frz ob v)) /\ H d = some (.frz o u) /\ D.rt v (upd H d u)
 bk:=fun σ H=>∃ d o u,(∀ ob v,H0 d ≠ some (.frz ob v)) /\ H d = some (.frz o u) /\ D.bk σ (upd H d u)
 ct:=fun σ H=>∃ d o u,(∀ ob v,H0 d ≠ some (.frz ob v)) /\ H d = some (.frz o u) /\ D.ct σ (upd H d u)
noncomputable def xI0 (t:TS):TS:=fun D σ H=>t (xO3 H D) σ H
theorem yW9 {X:Cx} {st:Stmt} {t:TS} (h:PS X st t):PS X st (xI0 t):=by
 intro pins s σ H D I hq
 have h0:∀ d,(∀ ob v,H d ≠ some (.frz ob v))->∀ ob v,X.H₀ d ≠ some (.frz ob v):=fun d n ob v e=>n ob v (I.base.frzs d ob v e)
 refine thn (h pins s σ H _ I hq) fun f s1 q=>?_
 cases f with
 | next=>obtain ⟨σ',H',I',d,o,v,n,e,q⟩:=q; exact ⟨σ',_,I'.thaw e (h0 d n),q⟩
 | brk=>obtain ⟨σ',H',I',d,o,v,n,e,q⟩:=q; exact ⟨σ',_,I'.thaw e (h0 d n),q⟩
 | cont=>obtain ⟨σ',H',I',d,o,v,n,e,q⟩:=q; exact ⟨σ',_,I'.thaw e (h0 d n),q⟩
 | ret w=>obtain ⟨x,σ',H',I',r,d,o,v,n,e,q⟩:=q; exact ⟨x,σ',_,I'.thaw e (h0 d n),r,q⟩
theorem zZ7:bootBuiltins "enumerate" = some (.type "enumerate"):=by decide +kernel
section
variable {X:Cx} {pins:List (Addr × Obj)} {σ:St} {H:Hp} {s:Shared} {h':Heap}
theorem Inv.turns {t':Nat} {ch:List Addr} (I:Inv X pins σ H s) (k:∀ b o,b ∉ ch->s.heap.get? b = some o->h'.get? b = some o) (hf:∀ b ∈ ch,FpOk X pins H b):Inv X pins σ H { s with heap:=h',toks:=t' }:=by
 have nit:∀ b u,H b = some u->b ∉ ch:=fun b u e z=>by rw [(hf b z).1] at e; cases e
 refine I.step (g':=s.gens) (d':=s.drawn) (ch:=ch) (fun b hb=>?_) (fun b o _ _ hc e _=>k b o hc e) (fun b o _ _ hc e _=>⟨o.slots,k b o hc e⟩) (fun _ _ _ _ n=>n) (fun b o hc e=>⟨o,k b o hc e⟩) (fun _ _ e=>e) (fun _ _ _ e=>e) (fun b ps e=>⟨#[],by rw [e]; simp⟩) (fun m hm=>?_) (fun b u e=>?_) I.bare
 ·obtain ⟨f0,f1,f2,f3,f4,f5⟩:=hf b hb
  exact ⟨f3,f1,f4,f5⟩
 ·obtain ⟨o,es,ep,ho,r⟩:=hm
  exact ⟨o,es,ep,k _ o (fun z=>(hf _ z).2.1 rfl) ho,r⟩
 ·refine (I.hok b u e).stay (fun c v hc q=>k c v ?_ q) (fun _ q=>q) fun _ _ q=>q
  rcases hc with z | z
  ·rw [z]; exact nit b u e
  ·exact nit c _ z
end
noncomputable def ItE (K:Ā) (a:Addr) (xs:List V):It :=
 ⟨fun i H=>i < xs.length /\ SqL K H a xs,fun i H x H'=>∃ v T,xs[i]? = some v /\ x = .ref T /\ H T = none /\ H' = upd H T (.tup [.int (i:Nat),v]),fun i H=>i = xs.length /\ SqL K H a xs⟩
theorem yK9 {P:Program} {w:World} {K:Ā} {elts:List Expr} {kk:Nat} {pos:Pos} (a e li:Addr) (xs:List V) (hne:e ≠ li) :
  Turn P w K (.Tuple elts kk pos) (ItE K a xs) [e,li] e (fun i h=>∃ old,IsEnum h e li ((i:Nat):Int) old /\ h.IsListIter li a i) where
 mem:=by simp
 obj:=fun i h st b hb=>by
  obtain ⟨old,s1,o,e2,c,d⟩:=st
  simp only [Ē,Ŕ,or_false] at hb
  rcases hb with rfl | rfl
  ·exact ⟨_,s1,fun v z=>by cases z⟩
  ·exact ⟨o,e2,fun v z=>by rw [d] at z; cases z⟩
 keep:=fun i h h' st k=>let ⟨old,s1,s2⟩:=st; ⟨old,k e (by simp) _ s1,s2.at fun o eo=>k li (by simp) o eo⟩
 item:=by
  intro X hP hw hK hc i pins s σ H E I hf st hg
  subst hP hw hK
  obtain ⟨old,st1,st2⟩:=st
  obtain ⟨hi,hq⟩:=hg
  obtain ⟨its,rv,p,hz⟩:=I.list hq
  have hx:xs[i]? = some xs[i]:=by simp [hi]
  obtain ⟨u,hu,ru⟩:=rv.get hx
  refine wpAny_pyNext_enum_item st1 st2 p.isList (x:=u) (by simpa using hu) hne fun h' jo jl ht hz' kp=>?_
  refine ⟨_,rfl,wpAny_letOwnedTupleGo_enum jo fun h2 he2 sb=>?_⟩
  have sb:Heap.SameBut e h' h2:=sb
  have nTe:s.heap.objs.size ≠ e:=Ĩ (ć st1)
  have nTl:s.heap.objs.size ≠ li:=by
   obtain ⟨o,e2,_⟩:=id st2
   exact Ĩ (ć e2)
  have I1:Inv X pins σ H { s with heap:=h2,toks:=s.toks + 1 }:=I.turns (ch:=[e,li]) (fun b o hb eo=>sb.extBut b o (fun z=>hb (by simp [z])) (kp b o (fun z=>hb (by simp [z])) (fun z=>hb (by simp [z])) eo)) hf
  have hT2:h2.get? s.heap.objs.size = some { cls:=.type "tuple",data:=.seq #[.int i s.toks,u] }:=sb.extBut _ _ nTe ht
  obtain ⟨g0,g1,_,_,g4,g5⟩:=I.fpOk (ą _) I.fresh
  have I2:=I1.track (a:=s.heap.objs.size) (o:=.tup [.int (i:Nat),xs[i]]) g0 (by
   cases q:X.s₀.heap.get? s.heap.objs.size with
   | none=>rfl
   | some ob=>exact absurd (ď (ć q) I.sz) (Ń _)) g1 g4 g5 ⟨zH6 (by simp) |> Ś,[.int i s.toks,u],.cons ⟨_,rfl⟩ (.cons ru .nil),⟨_,hT2,rfl,_,rfl⟩⟩
  refine ⟨.ref _,_,I2,rfl,⟨xs[i],_,hx,rfl,g0,rfl⟩,⟨_,he2,jl.extBut sb.extBut hne.symm⟩,fun b hb=>?_⟩
  have nb:b ≠ s.heap.objs.size:=by
   simp only [Ē,Ŕ,or_false] at hb
   rcases hb with rfl | rfl
   ·exact nTe.symm
   ·exact nTl.symm
  rw [upd_ne nb]; exact (hf b hb).1
 done:=by
  intro X hP hw hK hc i pins s σ H E I hf st hg
  subst hP hw hK
  obtain ⟨old,st1,st2⟩:=st
  obtain ⟨hi,hq⟩:=hg
  obtain ⟨its,rv,p,hz⟩:=I.list hq
  have hl:=rv.length
  exact wpAny_pyNext_enum_end (I.ok.hd hc) st1 st2 p.isList (by simp; omega) fun h' eb=>⟨rfl,I.turns (t':=s.toks) (ch:=[e,li]) (fun b o hb eo=>eb b o (fun z=>hb (by simp [z])) eo) hf⟩
 self:=fun A i s Q E st h=>let ⟨_,st1,_⟩:=st; wpAny_pyIter_enum st1 h
section
variable {X:Cx} {K:Ā}
noncomputable def xQ7 (K:Ā) (ta:TA):TI:=fun σ H R=>ta σ H fun vs H1=>∃ a xs,vs = [V.ref a] /\ SqL K H1 a xs /\ R (ItE K a xs) H1
theorem xF1 {elts:List Expr} {kk:Nat} {tpos:Pos} {a:Expr} {ta:TA} {p pos:Pos} (hK:X.K = K) (hg:Gl X "enumerate") (hm:X.mg "enumerate" = none) (ha:PA X [a] ta) (hs:starEach [a] X.env = [(false,eval a X.env)]:=by rfl):PI X (.Tuple elts kk tpos) (.Call (.Name "enumerate" p) [a] [] pos) (xQ7 K ta):=by
 subst hK
 intro pins s σ H R I h
 refine Call_ (η I hg hm zZ7 (PyProof.Rows.callWith_type1 (thn (ha pos pins s σ H _ I h) fun us s1 ⟨vs,H1,I1,r1,q1⟩=>?_) hs rfl))
 obtain ⟨b,xs,rfl,hq,q⟩:=q1
 obtain ⟨u,rfl,ru⟩:=ν r1
 cases ru
 obtain ⟨its,rv,p,hz⟩:=I1.list hq
 refine call_enumerate_list p.isList fun h' he hl hz kk=>wpAny_pyIter_enum he ?_
 refine ⟨s1.heap.objs.size + 1,[s1.heap.objs.size + 1,s1.heap.objs.size],_,_,H1,rfl,I1.kept (t':=s1.toks) kk,yK9 b (s1.heap.objs.size + 1) s1.heap.objs.size xs (Nat.succ_ne_self _),⟨_,he,hl⟩,fun c hc=>?_,q⟩
 simp only [Ē,Ŕ,or_false] at hc
 rcases hc with rfl | rfl
 ·exact I1.fpOk (by omega) (I1.hok.fresh (by omega))
 ·exact I1.fpOk (ą _) (I1.hok.fresh (ą _))
noncomputable def Hits (K:Ā) (H:Hp) (x y:V):Prop:=∃ a b ka kb,x = .ref a /\ y = .ref b /\ H a = some (.dK ka) /\ H b = some (.dK kb) /\ ka.length = kb.length /\ ∀ kv ∈ ka,∃ w d,valV kb kv.1 = some w /\ RepD K H d kv.2 /\ RepD K H d w /\ d.depth <= 60
theorem yS7 {pins:List (Addr × Obj)} {σ:St} {H:Hp} {s:Shared} {A:Around} (hu:A.in1.units + 64 < cLine) (I:Inv X pins σ H s) {kb:List (Key × V)} {vb:List (Key × Value)} (rb:KV kb vb) :
  ∀ {ka:List (Key × V)} {va:List (Key × Value)},KV ka va->(∀ kv ∈ ka,∃ w d,valV kb kv.1 = some w /\ RepD X.K H d kv.2 /\ RepD X.K H d w /\ d.depth <= 60)->PySem.W.KeqHits A.in1 s vb va true:=by
 intro ka va ra
 unfold KV at ra
 induction ra with
 | nil=>intro _; exact .nil
 | @cons p q ps qs h t ih =>
  intro hh
  obtain ⟨w0,d,e,d1,d2,dd⟩:=hh p ă
  have rv:=rb.val q.1
  rw [<- h.1,e] at rv
  cases ey:valueAt vb p.1 with
  | none=>rw [ey] at rv; exact (show False from rv).elim
  | some y =>
   rw [ey] at rv
   have rv:RelV w0 y:=rv
   obtain ⟨as,r1⟩:=RepD.reads I d1 h.2
   obtain ⟨bs,r2⟩:=RepD.reads I d2 rv
   have sh:SeqAt.shaped d = true:=by
    unfold SeqAt.shaped
    rw [d1.lay,Bool.true_and]
    exact decide_eq_true (by omega)
   have ea:=PySem.W.keq_at (A:=A) r1 r2 sh sh hu
   rw [SeqAt.eqv_refl d d1.lay] at ea
   obtain ⟨q1,q2⟩:=q
   have h1:p.1 = q1:=h.1
   subst h1
   exact .hit (e:=true) (b:=true) ey ea (ih fun kv hkv=>hh kv (Ă _ hkv))
theorem xK7 {k:Nat} (hK:X.K = K) (hr:Room k X.A):OpR X (compareOp .Eq) (fun x y H Q=>Hits K H x y /\ Q (.bl true) H):=by
 subst hK
 intro pins s σ H x y v u Q I rx ry h
 obtain ⟨⟨a,b,ka,kb,rfl,rfl,ha,hb,hl,hh⟩,q⟩:=h
 cases rx; cases ry
 obtain ⟨z1,y1,va,ra,Da⟩:=ω I.hok ha
 obtain ⟨z2,y2,vb,rb,Db⟩:=ω I.hok hb
 have hu:=hr.un
 have e1:va.length = vb.length:=by rw [<- ra.length,<- rb.length,hl]
 refine PySem.W.keq_eq y1 y2 Da Db (by omega) (fun _=>yS7 (by first | exact hu | (simp [Around.in1]; omega)) I rb ra hh) ?_
 rw [e1]
 simp only [beq_self_eq_true,Bool.true_and]
 exact ⟨.bl true,H,I,rfl,q⟩
theorem xK5 {k:Nat} (hK:X.K = K) (hr:Room k X.A):OpR X (compareOp .NotEq) (fun x y H Q=>Hits K H x y /\ Q (.bl false) H):=by
 subst hK
 intro pins s σ H x y v u Q I rx ry h
 obtain ⟨⟨a,b,ka,kb,rfl,rfl,ha,hb,hl,hh⟩,q⟩:=h
 cases rx; cases ry
 obtain ⟨z1,y1,va,ra,Da⟩:=ω I.hok ha
 obtain ⟨z2,y2,vb,rb,Db⟩:=ω I.hok hb
 have hu:=hr.un
 have e1:va.length = vb.length:=by rw [<- ra.length,<- rb.length,hl]
 refine PySem.W.keq_ne y1 y2 Da Db (by omega) (fun _=>yS7 (by first | exact hu | (simp [Around.in1]; omega)) I rb ra hh) ?_
 rw [e1]
 simp only [beq_self_eq_true,Bool.true_and]
 exact ⟨.bl false,H,I,rfl,q⟩
end
theorem yZ2 {K:Ā} {a:Addr} {xs:List V} {g:TG} {tb:TS} {D:Ends} {σ:St} {H:Hp} (Pv:Nat->St->Hp->Prop) (h0:Pv 0 σ H) (hl:∀ i σ H,i <= xs.length->Pv i σ H->SqL K H a xs)
  (hs:∀ i v T σ H,xs[i]? = some v->Pv i σ H->H T = none->g (.ref T) σ (upd H T (.tup [.int (i:Nat),v])) fun σ2 H2=>tb { D with nx:=Pv (i + 1),ct:=Pv (i + 1),bk:=D.nx } σ2 H2) (hd:∀ σ H,Pv xs.length σ H->D.nx σ H) :
  ∃ W:Nat->Nat->St->Hp->Prop,(∃ m,W 0 m σ H) /\ ∀ i m σ H,W i m σ H->((ItE K a xs).stop i H /\ D.nx σ H) \/ ((ItE K a xs).go i H /\ ∃ N:St->Hp->Prop,(∀ σ' H',N σ' H'->∃ m',m' < m /\ W (i + 1) m' σ' H') /\
   ∀ x H',(ItE K a xs).yld i H x H'->g x σ H' fun σ2 H2=>tb { D with nx:=N,ct:=N,bk:=D.nx } σ2 H2):=by
 refine ⟨fun i m σ H=>m = xs.length - i /\ i <= xs.length /\ Pv i σ H,⟨_,rfl,Ī _,h0⟩,?_⟩
 rintro i m σ H ⟨rfl,hi,p⟩
 have q:=hl i σ H hi p
 by_cases hlt:i < xs.length
 ·refine .inr ⟨⟨hlt,q⟩,Pv (i + 1),fun σ' H' p'=>⟨xs.length - (i + 1),by omega,rfl,hlt,p'⟩,fun x H' y=>?_⟩
  obtain ⟨v,T,hv,e1,hT,e2⟩:=y
  subst e1 e2
  exact hs i v T σ H hv p hT
 ·have e:i = xs.length:=by omega
  subst e
  exact .inl ⟨⟨rfl,q⟩,hd σ H p⟩
noncomputable def ItVl (d:Addr) (o:Obj) (u:HO) (ps:List (V × V)):It :=
 ⟨fun i H=>i < ps.length /\ H d = some (.frz o u),fun i H x H'=>H' = H /\ ∃ k,ps[i]? = some (k,x),fun i H=>i = ps.length /\ H d = some (.frz o u)⟩
theorem yK6 {P:Program} {w:World} {K:Ā} {tg:Expr} {d it:Addr} {o:Obj} {u:HO} {ps:List (V × V)} {es:Array DictEntry} {ep:Nat} (hx:o.ExactDict) (dat:o.data = .dict es ep) (rel:yK2 ps es.toList) :
  Turn P w K tg (ItVl d o u ps) [it] it (fun i h=>h.IsValIter it d i es.size ep) where
 mem:=by simp
 obj:=fun i h st b hb=>by
  have e:b = it:=by simpa using hb
  subst e
  obtain ⟨o,e,_,d⟩:=st
  exact ⟨o,e,fun v z=>by rw [d] at z; cases z⟩
 keep:=fun i h h' st k=>let ⟨o,e,r⟩:=st; ⟨o,k it (by simp) o e,r⟩
 item:=by
  intro X hP hw hK hc i pins s σ H E I hf st hg
  subst hP hw hK
  obtain ⟨f0,f1,_,f3,f4,f5⟩:=hf it (by simp)
  obtain ⟨hi,hd⟩:=hg
  have hlen:ps.length = es.size:=by rw [rel.length]; simp
  have hi':i < es.size:=by omega
  refine zX0 st ⟨o,(I.hok d _ hd).1,hx,dat⟩ hi' fun h' st' sb=>?_
  obtain ⟨p,hp⟩:∃ p,ps[i]? = some p:=⟨ps[i],by simp [hi]⟩
  obtain ⟨e',he',rk,rv⟩:=zR8 rel hp
  have ee:e' = es[i]:=by
   have:es.toList[i]? = some es[i]:=by simp [hi']
   rw [this] at he'; exact (Option.some.inj he').symm
  subst ee
  have I1:Inv X pins σ H { s with heap:=h',toks:=s.toks }:=I.turned (fun b ob hb e=>sb.extBut b ob hb e) f0 f1 f3 f4 f5
  obtain ⟨oi,ei,ci,di⟩:=id st'
  exact ⟨_,rfl,yS9 (s:={ s with heap:=h',toks:=s.toks }) ei ci di (by decide) ⟨p.2,H,I1,rv,⟨rfl,p.1,hp⟩,st',fun b hb=>(hf b hb).1⟩⟩
 done:=by
  intro X hP hw hK hc i pins s σ H E I hf st hg
  subst hP hw hK
  obtain ⟨f0,f1,_,f3,f4,f5⟩:=hf it (by simp)
  obtain ⟨hi,hd⟩:=hg
  have hlen:ps.length = es.size:=by rw [rel.length]; simp
  exact yE8 (I.ok.hd hc) st ⟨o,(I.hok d _ hd).1,hx,dat⟩ (by rw [hi,hlen]; exact ą _) fun h' eb=>⟨rfl,I.turned (t':=s.toks) (fun b ob hb e=>eb b ob hb e) f0 f1 f3 f4 f5⟩
 self:=fun A i s Q E st h=>wpAny_pyIter_valiter st h
section
variable {X:Cx}
noncomputable def xQ3 (tl:TE):TI:=fun σ H R=>tl σ H fun x H1=>∃ v d u,x = .ref v /\ H1 v = some (yH9 v d) /\ H1 d = some u /\ isDk u = true /\ ∀ o ps,Pss H1 u ps->R (ItVl d o u ps) (upd H1 d (.frz o u))
theorem xE9 {tg l:Expr} {tl:TE} (hl:PE X l tl):PI X tg l (xQ3 tl):=by
 intro pins s σ H R I h
 refine thn (hl pins s σ H _ I h) fun v s1 ⟨x,H1,I1,r1,q1⟩=>?_
 obtain ⟨vw,d,u,rfl,hv,hd,hu,q⟩:=q1
 cases r1
 obtain ⟨o,es,ep,ps,g,ex,dat,hs,hps,rel⟩:=I1.raw hd hu
 have hv':s1.heap.IsValuesView vw d:=(I1.hok vw _ hv).1
 refine zX1 hv' ⟨o,g,ex,dat⟩ ?_
 have I2:Inv X pins σ H1 _:=I1.kept (t':=s1.toks) (h':=s1.heap.push { cls:=.type "dict_valueiterator",data:=.fields #[.ref d,.int 0 0,.int es.size 0,.int ep 0] }) fun b ob e=>Ĉ _ e
 refine ⟨s1.heap.objs.size,[s1.heap.objs.size],_,_,_,rfl,I2.freeze hd hu (Ĉ _ g),yK6 ex dat rel,⟨_,Ĕ _ rfl,rfl,rfl⟩,fun b hb=>?_,q o ps hps⟩
 have e:b = s1.heap.objs.size:=by simpa using hb
 subst e
 exact I1.fpOk (ą _) (by rw [upd_ne (Ç hd I1.fresh).symm]; exact I1.fresh)
end
theorem yZ1 {d:Addr} {o:Obj} {u:HO} {ps:List (V × V)} {g:TG} {tb:TS} {D:Ends} {σ:St} {H:Hp} (Pv:Nat->St->Hp->Prop) (h0:Pv 0 σ H) (hf:∀ i σ H,Pv i σ H->H d = some (.frz o u))
  (hs:∀ i k v σ H,ps[i]? = some (k,v)->Pv i σ H->g v σ H fun σ2 H2=>tb { D with nx:=Pv (i + 1),ct:=Pv (i + 1),bk:=D.nx } σ2 H2) (hd:∀ σ H,Pv ps.length σ H->D.nx σ H) :
  ∃ W:Nat->Nat->St->Hp->Prop,(∃ m,W 0 m σ H) /\ ∀ i m σ H,W i m σ H->((ItVl d o u ps).stop i H /\ D.nx σ H) \/ ((ItVl d o u ps).go i H /\ ∃ N:St->Hp->Prop,(∀ σ' H',N σ' H'->∃ m',m' < m /\ W (i + 1) m' σ' H') /\
   ∀ x H',(ItVl d o u ps).yld i H x H'->g x σ H' fun σ2 H2=>tb { D with nx:=N,ct:=N,bk:=D.nx } σ2 H2):=by
 refine ⟨fun i m σ H=>m = ps.length - i /\ i <= ps.length /\ Pv i σ H,⟨_,rfl,Ī _,h0⟩,?_⟩
 rintro i m σ H ⟨rfl,hi,p⟩
 by_cases hlt:i < ps.length
 ·refine .inr ⟨⟨hlt,hf i σ H p⟩,Pv (i + 1),fun σ' H' p'=>⟨ps.length - (i + 1),by omega,rfl,hlt,p'⟩,fun x H' y=>?_⟩
  obtain ⟨e,k,hk⟩:=y
  subst e
  exact hs i k x σ _ hk p
 ·have e:i = ps.length:=by omega
  subst e
  exact .inl ⟨⟨rfl,hf _ σ H p⟩,hd σ H p⟩
theorem zK6 {d:Addr} {o:Obj} {u:HO} {ps:List (V × V)} {g:TG} {tc:TT} {te:TE} {D:Addr} {Z:Hp->Prop} {σ:St} {H:Hp} (Pv:Nat->St->Hp->Prop) (h0:Pv 0 σ H) (hf:∀ i σ H,Pv i σ H->H d = some (.frz o u))
  (hs:∀ i k v σ H,ps[i]? = some (k,v)->Pv i σ H->g k σ H fun σ2 H2=>tc σ2 H2 fun b H3=>if b = true then te σ2 H3 fun y H4=>∃ ys,H4 D = some (.lst ys) /\ ys.length < sizeLine /\ Pv (i + 1) σ2 (upd H4 D (.lst (ys ++ [y]))) else Pv (i + 1) σ2 H3)
  (hd:∀ σ H,Pv ps.length σ H->Z H):zM1 (ItK d o u ps) g tc te D Z σ H:=by
 refine ⟨fun i m σ H=>m = ps.length - i /\ i <= ps.length /\ Pv i σ H,⟨ps.length,by simp,Ī _,h0⟩,?_⟩
 rintro i m σ H ⟨rfl,hi,p⟩
 by_cases hlt:i < ps.length
 ·refine .inr ⟨⟨hlt,hf i σ H p⟩,Pv (i + 1),fun σ' H' p'=>⟨ps.length - (i + 1),by omega,rfl,hlt,p'⟩,fun x H' y=>?_⟩
  obtain ⟨e,v,hk⟩:=y
  subst e
  exact hs i x v σ _ hk p
 ·have e:i = ps.length:=by omega
  subst e
  exact .inl ⟨⟨rfl,hf _ σ H p⟩,hd σ H p⟩
theorem xD3:bootBuiltins "zip" = some (.type "zip"):=by decide +kernel
theorem z_ne {x y:Nat} (h:¬ x = y):(x:Addr) ≠ (y:Addr):=h
noncomputable def ItZ (K:Ā) (a b:Addr) (xs ys:List V):It :=
 ⟨fun i H=>i < xs.length /\ i < ys.length /\ SqL K H a xs /\ SqL K H b ys,fun i H x H'=>∃ v u T,xs[i]? = some v /\ ys[i]? = some u /\ x = .ref T /\ H T = none /\ H' = upd H T (.tup [v,u]),fun i H=>(i = xs.length \/ i = ys.length) /\ SqL K H a xs /\ SqL K H b ys⟩
theorem ū {h:Heap} {l c:Addr} {its:Array Value} {o:Obj} (hl:h.IsList l its) (hc:h.get? c = some o) (n:o.cls ≠ .type "list"):l ≠ c:=by
 intro e
 subst e
 obtain ⟨o',e1,e2,_⟩:=hl
 rw [hc] at e1
 cases e1
 exact n e2
theorem yV6 {P:Program} {w:World} {K:Ā} {elts:List Expr} {kk:Nat} {pos:Pos} (a b:Addr) (n:Nat) (xs ys:List V) :
  Turn P w K (.Tuple elts kk pos) (ItZ K a b xs ys) [n + 4,n + 2,n + 3,n,n + 1] (n + 4) (fun i h=>IsZip h (n + 4) (n + 2) (n + 3) .none /\ IsPair h (n + 2) (.ref n) (.ref (n + 1)) /\ (∃ u v,IsPair h (n + 3) u v) /\ h.IsListIter n a i /\ h.IsListIter (n + 1) b i) where
 mem:=by simp
 obj:=fun i h st c hb=>by
  obtain ⟨hz,hTI,⟨u,v,hTO⟩,⟨o1,e1,_,d1⟩,⟨o2,e2,_,d2⟩⟩:=st
  simp only [Ē,Ŕ,or_false] at hb
  rcases hb with rfl | rfl | rfl | rfl | rfl
  ·exact ⟨_,hz,fun v z=>by cases z⟩
  ·exact ⟨_,hTI,fun v z=>by cases z⟩
  ·exact ⟨_,hTO,fun v z=>by cases z⟩
  ·exact ⟨_,e1,fun v z=>by rw [d1] at z; cases z⟩
  ·exact ⟨_,e2,fun v z=>by rw [d2] at z; cases z⟩
 keep:=fun i h h' st k=>by
  obtain ⟨hz,hTI,⟨u,v,hTO⟩,h1,h2⟩:=st
  exact ⟨k _ (by simp) _ hz,k _ (by simp) _ hTI,⟨u,v,k _ (by simp) _ hTO⟩,h1.at fun o e=>k _ (by simp) o e,h2.at fun o e=>k _ (by simp) o e⟩
 item:=by
  intro X hP hw hK hc i pins s σ H E I hf st hg
  subst hP hw hK
  obtain ⟨hz,hTI,⟨u0,v0,hTO⟩,h1,h2⟩:=st
  obtain ⟨hi,hj,hq1,hq2⟩:=hg
  obtain ⟨its1,rv1,p1,_⟩:=I.list hq1
  obtain ⟨its2,rv2,p2,_⟩:=I.list hq2
  obtain ⟨u,hu,ru⟩:=rv1.get (show xs[i]? = some xs[i] by simp [hi])
  obtain ⟨u',hu',ru'⟩:=rv2.get (show ys[i]? = some ys[i] by simp [hj])
  obtain ⟨o1,e1,c1,d1⟩:=id h1
  obtain ⟨o2,e2,c2,d2⟩:=id h2
  have D:ZipApart (n + 4) (n + 2) (n + 3) n (n + 1) a b:=⟨z_ne (by omega),z_ne (by omega),z_ne (by omega),z_ne (by omega),z_ne (by omega),z_ne (by omega),z_ne (by omega),z_ne (by omega),z_ne (by omega),z_ne (by omega),ū p1.isList hz (show (Value.type "zip":Value) ≠ .type "list" by decide),ū p1.isList hTO (show (Value.type "tuple":Value) ≠ .type "list" by decide),ū p1.isList e1 (by rw [c1]; decide),ū p1.isList e2 (by rw [c2]; decide),ū p2.isList hz (show (Value.type "zip":Value) ≠ .type "list" by decide),ū p2.isList hTO (show (Value.type "tuple":Value) ≠ .type "list" by decide),ū p2.isList e1 (by rw [c1]; decide),ū p2.isList e2 (by rw [c2]; decide)⟩
  refine wpAny_pyNext_zip_item D hz hTI hTO h1 h2 p1.isList p2.isList (x:=u) (y:=u') (by simpa using hu) (by simpa using hu') fun h' jz jo j1 j2 ht hsz kp=>?_
  refine ⟨_,rfl,wpAny_letOwnedTupleGo_zip jz fun h2' he2 sb=>?_⟩
  have sb:Heap.SameBut (n + 4) h' h2':=sb
  have lt:∀ {c o},s.heap.get? c = some o->s.heap.objs.size ≠ c:=fun e=>Ĩ (ć e)
  have I1:Inv X pins σ H { s with heap:=h2',toks:=s.toks }:=I.turns (ch:=[n + 4,n + 2,n + 3,n,n + 1]) (fun c o hb eo=>sb.extBut c o (fun z=>hb (by simp [z])) (kp c o (fun z=>hb (by simp [z])) (fun z=>hb (by simp [z])) (fun z=>hb (by simp [z])) (fun z=>hb (by simp [z])) eo)) hf
  have hT2:h2'.get? s.heap.objs.size = some { cls:=.type "tuple",data:=.seq #[u,u'] }:=sb.extBut _ _ (lt hz) ht
  obtain ⟨g0,g1,_,_,g4,g5⟩:=I.fpOk (ą _) I.fresh
  have I2:=I1.track (a:=s.heap.objs.size) (o:=.tup [xs[i],ys[i]]) g0 (by
   cases q:X.s₀.heap.get? s.heap.objs.size with
   | none=>rfl
   | some ob=>exact absurd (ď (ć q) I.sz) (Ń _)) g1 g4 g5 ⟨zH6 (by simp) |> Ś,[u,u'],.cons ru (.cons ru' .nil),⟨_,hT2,rfl,_,rfl⟩⟩
  refine ⟨.ref _,_,I2,rfl,⟨xs[i],ys[i],_,(by simp [hi]),(by simp [hj]),rfl,g0,rfl⟩,⟨he2,sb.extBut _ _ D.TIz (kp _ _ D.TIz D.TITO D.TIi1 D.TIi2 hTI),⟨_,_,sb.extBut _ _ D.TOz jo⟩,j1.extBut sb.extBut D.i1z,j2.extBut sb.extBut D.i2z⟩,fun c hb=>?_⟩
  have nb:c ≠ s.heap.objs.size:=by
   simp only [Ē,Ŕ,or_false] at hb
   rcases hb with rfl | rfl | rfl | rfl | rfl
   ·exact (lt hz).symm
   ·exact (lt hTI).symm
   ·exact (lt hTO).symm
   ·exact (lt e1).symm
   ·exact (lt e2).symm
  rw [upd_ne nb]; exact (hf c hb).1
 done:=by
  intro X hP hw hK hc i pins s σ H E I hf st hg
  subst hP hw hK
  obtain ⟨hz,hTI,⟨u0,v0,hTO⟩,h1,h2⟩:=st
  obtain ⟨hi,hq1,hq2⟩:=hg
  obtain ⟨its1,rv1,p1,_⟩:=I.list hq1
  obtain ⟨its2,rv2,p2,_⟩:=I.list hq2
  obtain ⟨o1,e1,c1,d1⟩:=id h1
  obtain ⟨o2,e2,c2,d2⟩:=id h2
  have D:ZipApart (n + 4) (n + 2) (n + 3) n (n + 1) a b:=⟨z_ne (by omega),z_ne (by omega),z_ne (by omega),z_ne (by omega),z_ne (by omega),z_ne (by omega),z_ne (by omega),z_ne (by omega),z_ne (by omega),z_ne (by omega),ū p1.isList hz (show (Value.type "zip":Value) ≠ .type "list" by decide),ū p1.isList hTO (show (Value.type "tuple":Value) ≠ .type "list" by decide),ū p1.isList e1 (by rw [c1]; decide),ū p1.isList e2 (by rw [c2]; decide),ū p2.isList hz (show (Value.type "zip":Value) ≠ .type "list" by decide),ū p2.isList hTO (show (Value.type "tuple":Value) ≠ .type "list" by decide),ū p2.isList e1 (by rw [c1]; decide),ū p2.isList e2 (by rw [c2]; decide)⟩
  have l1:=rv1.length
  have l2:=rv2.length
  refine wpAny_pyNext_zip_end (I.ok.hd hc) D hz hTI hTO h1 h2 p1.isList p2.isList ?_ fun h' kp=>⟨rfl,I.turns (t':=s.toks) (ch:=[n + 4,n + 2,n + 3,n,n + 1]) (fun c o hb eo=>kp c o (fun z=>hb (by simp [z])) (fun z=>hb (by simp [z])) (fun z=>hb (by simp [z])) (fun z=>hb (by simp [z])) eo) hf⟩
  rcases hi with e | e
  ·exact .inl (by simp; omega)
  ·exact .inr (by simp; omega)
 self:=fun A i s Q E st h=>wpAny_pyIter_zip st.1 h
section
variable {X:Cx} {K:Ā}
noncomputable def iZip (K:Ā) (ta:TA):TI:=fun σ H R=>ta σ H fun vs H1=>∃ a b xs ys,vs = [V.ref a,V.ref b] /\ SqL K H1 a xs /\ SqL K H1 b ys /\ R (ItZ K a b xs ys) H1
theorem xB7 {elts:List Expr} {kk:Nat} {tpos:Pos} {a b:Expr} {ta:TA} {p pos:Pos} (hK:X.K = K) (hg:Gl X "zip") (hm:X.mg "zip" = none) (ha:PA X [a,b] ta) (hs:starEach [a,b] X.env = (false,eval a X.env) :: starEach [b] X.env:=by rfl) (hs2:starEach [b] X.env = [(false,eval b X.env)]:=by rfl):PI X (.Tuple elts kk tpos) (.Call (.Name "zip" p) [a,b] [] pos) (iZip K ta):=by
 subst hK
 intro pins s σ H R I h
 refine Call_ (η I hg hm xD3 (PyProof.Rows.callWith_type1 (thn (ha pos pins s σ H _ I h) fun us s1 ⟨vs,H1,I1,r1,q1⟩=>?_) hs (by rw [hs2]; rfl)))
 obtain ⟨b1,b2,xs,ys,rfl,hq1,hq2,q⟩:=q1
 obtain ⟨u,u',rfl,ru,ru'⟩:=xD7 r1
 cases ru
 cases ru'
 obtain ⟨its1,rv1,p1,hz1⟩:=I1.list hq1
 obtain ⟨its2,rv2,p2,hz2⟩:=I1.list hq2
 refine call_zip_2 p1.isList p2.isList fun h' jz jt jo j1 j2 hsz kp=>wpAny_pyIter_zip jz ?_
 refine ⟨s1.heap.objs.size + 4,[s1.heap.objs.size + 4,s1.heap.objs.size + 2,s1.heap.objs.size + 3,s1.heap.objs.size,s1.heap.objs.size + 1],_,_,H1,rfl,I1.kept (t':=s1.toks) kp,yV6 b1 b2 s1.heap.objs.size xs ys,⟨jz,jt,⟨_,_,jo⟩,j1,j2⟩,fun c hc=>?_,q⟩
 simp only [Ē,Ŕ,or_false] at hc
 rcases hc with rfl | rfl | rfl | rfl | rfl <;> exact I1.fpOk (by omega) (I1.hok.fresh (by omega))
end
theorem xH3 {K:Ā} {a b:Addr} {xs ys:List V} {g:TG} {tb:TS} {D:Ends} {σ:St} {H:Hp} (Pv:Nat->St->Hp->Prop) (hlen:xs.length = ys.length) (h0:Pv 0 σ H) (hl:∀ i σ H,i <= xs.length->Pv i σ H->SqL K H a xs /\ SqL K H b ys)
  (hs:∀ i v u T σ H,xs[i]? = some v->ys[i]? = some u->Pv i σ H->H T = none->g (.ref T) σ (upd H T (.tup [v,u])) fun σ2 H2=>tb { D with nx:=Pv (i + 1),ct:=Pv (i + 1),bk:=D.nx } σ2 H2) (hd:∀ σ H,Pv xs.length σ H->D.nx σ H) :
  ∃ W:Nat->Nat->St->Hp->Prop,(∃ m,W 0 m σ H) /\ ∀ i m σ H,W i m σ H->((ItZ K a b xs ys).stop i H /\ D.nx σ H) \/ ((ItZ K a b xs ys).go i H /\ ∃ N:St->Hp->Prop,(∀ σ' H',N σ' H'->∃ m',m' < m /\ W (i + 1) m' σ' H') /\
   ∀ x H',(ItZ K a b xs ys).yld i H x H'->g x σ H' fun σ2 H2=>tb { D with nx:=N,ct:=N,bk:=D.nx } σ2 H2):=by
 refine ⟨fun i m σ H=>m = xs.length - i /\ i <= xs.length /\ Pv i σ H,⟨_,rfl,Ī _,h0⟩,?_⟩
 rintro i m σ H ⟨rfl,hi,p⟩
 obtain ⟨q1,q2⟩:=hl i σ H hi p
 by_cases hlt:i < xs.length
 ·refine .inr ⟨⟨hlt,by omega,q1,q2⟩,Pv (i + 1),fun σ' H' p'=>⟨xs.length - (i + 1),by omega,rfl,hlt,p'⟩,fun x H' y=>?_⟩
  obtain ⟨v,u,T,hv,hu,e1,hT,e2⟩:=y
  subst e1 e2
  exact hs i v u T σ H hv hu p hT
 ·have e:i = xs.length:=by omega
  subst e
  exact .inl ⟨⟨.inl rfl,q1,q2⟩,hd σ H p⟩
section
variable {prog:Program} {w:World} {A:Around} {E:Value->Shared->Prop} {s:Shared} {d:Addr} {es:Array DictEntry} {ep:Nat}
theorem yH8 (hh:A.handled = none) (I d:Addr) (hne:d ≠ I) (es:Array DictEntry) (ep:Nat):Walks prog w A I [I,d] [I] es.size (fun i v=>∃ e,es[i]? = some e /\ v = e.key) (fun i h=>h.IsKeyIter I d i es.size ep /\ RawD h d es ep) where
 sub:=fun b hb=>by simp at hb; simp [hb]
 frame:=fun _ _ _ st k=>⟨let ⟨o,e,r⟩:=st.1; ⟨o,k I (by simp) o e,r⟩,st.2.at fun o e=>k d (by simp) o e⟩
 item:=fun i s Q E hi st q=>zX2 st.1 st.2 hi fun h' st' sb=>q _ h' s.toks ⟨es[i],by simp [hi],rfl⟩ ⟨st',st.2.at fun o e=>sb.extBut d o hne e⟩ fun b o hb e=>sb.extBut b o (fun z=>hb (by simp [z])) e
 done:=fun s Q E st q=>yE9 hh st.1 st.2 (ą _) fun h' eb=>q h' s.toks fun b o hb e=>eb b o (fun z=>hb (by simp [z])) e
 self:=fun _ _ _ _ st q=>wpAny_pyIter_keyiter st.1 q
theorem yE0 (hs:(d == sysModules) = false):PySem.W.KdlSrc prog w "dict" d d es.size (fun i v=>∃ e,es[i]? = some e /\ v = e.key) (fun h=>RawD h d es ep) where
 type:=fun _ hm=>hm.ty
 there:=fun _ hm=>⟨let ⟨_,ho,_⟩:=hm; ć ho,let ⟨_,ho,_⟩:=hm; ć ho⟩
 keep:=fun _ _ hm k=>hm.at fun o e=>k d (.inr rfl) o e
 notList:=by decide
 notTuple:=by decide
 hint:=fun _ _ _ _ hm q=>PySem.W.kdl_hint_dict hm.ty q
 iter:=fun _ _ hh hm=>⟨_,_,(fun _ _ q=>zX3 hs hm q),yH8 hh _ d (Ħ (let ⟨_,ho,_⟩:=hm; ć ho)) es ep,⟨⟨_,Ĕ _ rfl,rfl,rfl⟩,hm.at fun o e=>Ĉ _ e⟩⟩
end
section
variable {X:Cx} {K:Ā}
theorem zG5 (hc:X.calm = true):Υ X (.type "list") (fun xs H Q=>∃ d u,xs = [V.ref d] /\ H d = some u /\ isDk u = true /\ ∀ ps,Pss H u ps->∀ l,H l = none->Q (.ref l) (upd H l (.lst (ps.map (·.1))))):=by
 intro pins s σ H xs us Q I r h
 obtain ⟨d,u,rfl,hd,hu,q⟩:=h
 obtain ⟨w0,rfl,rw0⟩:=ν r
 cases rw0
 obtain ⟨o,es,ep,ps,g,ex,dat,hs,hps,rel⟩:=I.raw hd hu
 have hl:=yT9 hps hu I hd
 have hlen:ps.length = es.size:=by rw [rel.length]; simp
 refine PySem.W.kdl_call (yE0 (es:=es) (ep:=ep) hs) (I.ok.hd hc) ⟨o,g,ex,dat⟩ (by omega) fun h' tk acc c kk hD hacc=>?_
 have vr:Vals (ps.map (·.1)) acc.toList:=by
  have e1:acc.toList = es.toList.map (·.key):=by
   apply List.ext_getElem?
   intro j
   rw [đ]
   by_cases hj:j < es.size
   ·have hj2:j < acc.size:=by rw [hacc.1]; exact hj
    obtain ⟨e,he,hv⟩:=hacc.2 j acc[j] (by simp [hj2])
    have e2:es.toList[j]? = some e:=by simpa using he
    rw [e2]
    simp [hj2,hv]
   ·have hj2:¬ j < acc.size:=by rw [hacc.1]; exact hj
    rw [Ņ (by simp; omega),Ņ (by simp; omega)]; rfl
  rw [e1]
  clear hlen hl hps e1 hacc
  generalize es.toList = el at rel
  induction rel with
  | nil=>exact .nil
  | cons h t ih=>exact .cons h.1 ih
 refine ⟨.ref _,_,I.laid (a:=s.heap.objs.size) (o:=.lst (ps.map (·.1))) (t':=tk) kk (ą _) ⟨by rw [ā]; exact hl,acc.toList,c,vr,by simpa using hD⟩,rfl,q ps hps _ I.fresh⟩
end
theorem yD2 {d:Addr} {o:Obj} {u:HO} {ps:List (V × V)} {g:TG} {tc:TT} {te:TE} {D:Addr} {Z:Hp->Prop} {σ:St} {H:Hp} (Pv:Nat->St->Hp->Prop) (h0:Pv 0 σ H) (hf:∀ i σ H,Pv i σ H->H d = some (.frz o u))
  (hs:∀ i k v T σ H,ps[i]? = some (k,v)->Pv i σ H->H T = none->g (.ref T) σ (upd H T (.tup [k,v])) fun σ2 H2=>tc σ2 H2 fun b H3=>if b = true then te σ2 H3 fun y H4=>∃ ys,H4 D = some (.lst ys) /\ ys.length < sizeLine /\ Pv (i + 1) σ2 (upd H4 D (.lst (ys ++ [y]))) else Pv (i + 1) σ2 H3)
  (hd:∀ σ H,Pv ps.length σ H->Z H):zM1 (ItD d o u ps) g tc te D Z σ H:=by
 refine ⟨fun i m σ H=>m = ps.length - i /\ i <= ps.length /\ Pv i σ H,⟨ps.length,by simp,Ī _,h0⟩,?_⟩
 rintro i m σ H ⟨rfl,hi,p⟩
 by_cases hlt:i < ps.length
 ·refine .inr ⟨⟨hlt,hf i σ H p⟩,Pv (i + 1),fun σ' H' p'=>⟨ps.length - (i + 1),by omega,rfl,hlt,p'⟩,fun x H' y=>?_⟩
  obtain ⟨k,v,T,hk,e1,hT,e2⟩:=y
  subst e1 e2
  exact hs i k v T σ _ hk p hT
 ·have e:i = ps.length:=by omega
  subst e
  exact .inl ⟨⟨rfl,hf _ σ H p⟩,hd σ H p⟩
theorem yV1 {K:Ā} {a b:Addr} {xs ys:List V} {g:TG} {tc:TT} {te:TE} {D:Addr} {Z:Hp->Prop} {σ:St} {H:Hp} (Pv:Nat->St->Hp->Prop) (hlen:xs.length = ys.length) (h0:Pv 0 σ H) (hl:∀ i σ H,i <= xs.length->Pv i σ H->SqL K H a xs /\ SqL K H b ys)
  (hs:∀ i v u T σ H,xs[i]? = some v->ys[i]? = some u->Pv i σ H->H T = none->g (.ref T) σ (upd H T (.tup [v,u])) fun σ2 H2=>tc σ2 H2 fun b H3=>if b = true then te σ2 H3 fun y H4=>∃ ys,H4 D = some (.lst ys) /\ ys.length < sizeLine /\ Pv (i + 1) σ2 (upd H4 D (.lst (ys ++ [y]))) else Pv (i + 1) σ2 H3)
  (hd:∀ σ H,Pv xs.length σ H->Z H):zM1 (ItZ K a b xs ys) g tc te D Z σ H:=by
 refine ⟨fun i m σ H=>m = xs.length - i /\ i <= xs.length /\ Pv i σ H,⟨xs.length,by simp,Ī _,h0⟩,?_⟩
 rintro i m σ H ⟨rfl,hi,p⟩
 obtain ⟨q1,q2⟩:=hl i σ H hi p
 by_cases hlt:i < xs.length
 ·refine .inr ⟨⟨hlt,by omega,q1,q2⟩,Pv (i + 1),fun σ' H' p'=>⟨xs.length - (i + 1),by omega,rfl,hlt,p'⟩,fun x H' y=>?_⟩
  obtain ⟨v,u,T,hv,hu,e1,hT,e2⟩:=y
  subst e1 e2
  exact hs i v u T σ H hv hu p hT
 ·have e:i = xs.length:=by omega
  subst e
  exact .inl ⟨⟨.inl rfl,q1,q2⟩,hd σ H p⟩
section
variable {P:Program} {w:World} {A:Around} {E:Value->Shared->Prop} {s:Shared}
theorem yH4 {a:Addr} {o:Obj} {Q:Option Obj->Shared->Prop} (ho:s.heap.get? a = some o) (q:Q (some o) s):wpAny (model P w) A (loadIfAlive a) Q E s:=by
 rw [<- ho] at q
 exact fun _ _ _=>q
theorem yI8 {a:Addr} {x y:Value} {Q:List Value->Shared->Prop} (ha:s.heap.get? a = some { cls:=.type "tuple",data:=.seq #[x,y] }) (q:Q [x,y] s):wpAny (model P w) A (Builtin.Dict.pairItems (.ref a)) Q E s:=by
 have ty:s.TypeIs (.ref a) "tuple":=⟨_,ha,rfl⟩
 unfold Builtin.Dict.pairItems
 refine wpAny_bind (wpAny_typeOf ty ?_)
 rw [if_pos (by decide)]
 exact wpAny_bind (wpAny_seqItems ha rfl (wpAny_pure q))
theorem zY7:entryFor table "dict.update.loop" = some Builtin.«dict.update.loop»:=entryFor_of_tree (by kernel_rfl)
theorem zH8:plainId "dict.update.loop" = true:=by decide +kernel
end
open AutoSeq1 (wpAny_loadPart')
end L2
namespace Tc
noncomputable def sN (n:Nat) (f:Nat->Rat):Rat:=sumL (Ķ n) f
theorem yB2 (f:Nat->Rat):sN 0 f = 0:=rfl
theorem ž (n:Nat) (f:Nat->Rat):sN (n + 1) f = sN n f + f n:=by
 unfold sN; rw [List.range_succ,zH1]
theorem zH7 {n:Nat} {f g:Nat->Rat} (h:∀ i,i < n->f i = g i):sN n f = sN n g:=by
 induction n with
 | zero=>rfl
 | succ n ih=>rw [ž,ž,ih fun i hi=>h i (by omega),h n (by omega)]
theorem yN6 (n:Nat) (f g:Nat->Rat) (a b:Rat):sN n (fun i=>f i * a + g i * b) = sN n f * a + sN n g * b:=by
 induction n with
 | zero=>rw [yB2,yB2,yB2]; grind
 | succ n ih=>rw [ž,ž,ž,ih]; grind
theorem yN5 {n:Nat} {f:Nat->Rat} (h:∀ i,i < n->f i = 0):sN n f = 0:=by
 induction n with
 | zero=>rfl
 | succ n ih=>rw [ž,ih fun i hi=>h i (by omega),h n (by omega)]; grind
theorem yN4 {n k:Nat} {f:Nat->Rat} (hk:k < n) (h:∀ i,i < n->i ≠ k->f i = 0):sN n f = f k:=by
 induction n with
 | zero=>omega
 | succ n ih =>
  rw [ž]
  by_cases e:k = n
  ·subst e
   rw [yN5 fun i hi=>h i (by omega) (by omega)]; grind
  ·rw [ih (by omega) fun i hi=>h i (by omega),h n (by omega) (fun q=>e q.symm)]; grind
noncomputable def dotR (n:Nat) (r y:Nat->Rat):Rat:=sN (n + 1) fun j=>r j * y j
noncomputable def KerM (n:Nat) (M:Nat->Nat->Rat) (y:Nat->Rat):Prop:=∀ i,i < n->dotR n (M i) y = 0
noncomputable def ε (M:Nat->Nat->Rat) (a b:Nat):Nat->Nat->Rat:=fun i=>if i = b then M a else if i = a then M b else M i
noncomputable def pivM (M:Nat->Nat->Rat) (c k:Nat):Nat->Nat->Rat:=fun i j=>if i = c then M c j / M c k else M i j - M c j / M c k * M i k
theorem KerM.unpiv {n:Nat} {M:Nat->Nat->Rat} {c k:Nat} {y:Nat->Rat} (hc:c < n) (hp:M c k ≠ 0) (h:KerM n (pivM M c k) y):KerM n M y:=by
 have h0:dotR n (M c) y = 0:=by
  have:=h c hc
  unfold dotR pivM at this
  rw [zH7 (g:=fun j=>(M c j * y j) * (1 / M c k) + (0:Rat) * 0)] at this
  ·rw [yN6 (g:=fun _=>0)] at this
   unfold dotR
   grind
  ·intro i hi
   simp only [if_true]
   grind
 intro i hi
 by_cases e:i = c
 ·rw [e]; exact h0
 ·have:=h i hi
  unfold dotR pivM at this
  rw [zH7 (g:=fun j=>(M i j * y j) * 1 + (M c j * y j) * (-(M i k / M c k)))] at this
  ·rw [yN6] at this
   have h0':sN (n + 1) (fun j=>M c j * y j) = 0:=h0
   unfold dotR
   rw [h0'] at this
   grind
  ·intro j hj
   rw [if_neg e]
   grind
theorem KerM.unswap {n:Nat} {M:Nat->Nat->Rat} {a b:Nat} {y:Nat->Rat} (ha:a < n) (hb:b < n) (h:KerM n (ε M a b) y):KerM n M y:=by
 intro i hi
 by_cases e:i = a
 ·have:=h b hb
  unfold ε at this
  rw [if_pos rfl] at this
  rw [e]; exact this
 ·by_cases e2:i = b
  ·have:=h a ha
   unfold ε at this
   rw [if_pos rfl] at this
   by_cases e3:a = b
   ·exact absurd (e2.trans e3.symm) e
   ·rw [if_neg e3] at this
    rw [e2]; exact this
  ·have:=h i hi
   unfold ε at this
   rw [if_neg e2,if_neg e] at this
   exact this
noncomputable def ClrM (n:Nat) (M:Nat->Nat->Rat) (c:Nat):Prop:=∀ i,i < n->∀ j,j < c->M i j = if i = j then 1 else 0
theorem ClrM.swap {n:Nat} {M:Nat->Nat->Rat} {c a:Nat} (h:ClrM n M c) (hc:c < n) (ha:c <= a) (han:a < n):ClrM n (ε M a c) c:=by
 intro i hi j hj
 unfold ε
 by_cases e:i = c
 ·rw [if_pos e,h a han j hj,if_neg (by omega),if_neg (by omega)]
 ·rw [if_neg e]
  by_cases e2:i = a
  ·rw [if_pos e2,h c hc j hj,if_neg (by omega),if_neg (by omega)]
  ·rw [if_neg e2]; exact h i hi j hj
theorem ClrM.piv {n:Nat} {M:Nat->Nat->Rat} {c:Nat} (h:ClrM n M c) (hc:c < n) (hp:M c c ≠ 0):ClrM n (pivM M c c) (c + 1):=by
 intro i hi j hj
 unfold pivM
 by_cases ej:j = c
 ·subst ej
  by_cases e:i = j
  ·rw [if_pos e,if_pos e]; grind
  ·rw [if_neg e,if_neg e]; grind
 ·have hj':j < c:=by omega
  have z:M c j = 0:=by rw [h c hc j hj',if_neg (by omega)]
  by_cases e:i = c
  ·rw [if_pos e,z,if_neg (by omega)]; grind
  ·rw [if_neg e,z,h i hi j hj']; grind
theorem yO9 {n:Nat} {A M:Nat->Nat->Rat} {c:Nat} (hc:c < n) (h:ClrM n M c) (hk:∀ y,KerM n M y->KerM n A y) (hA:∀ y,y n = 0->KerM n A y->∀ j,j < n->y j = 0):∃ a,c <= a /\ a < n /\ M a c ≠ 0:=by
 by_cases q:∃ a,c <= a /\ a < n /\ M a c ≠ 0
 ·exact q
 ·exfalso
  have q:∀ a,c <= a->a < n->M a c = 0:=fun a h1 h2=>by
   by_cases e:M a c = 0
   ·exact e
   ·exact absurd ⟨a,h1,h2,e⟩ q
  let y:Nat->Rat:=fun j=>if j < c then -M j c else if j = c then 1 else 0
  have ky:KerM n M y:=by
   intro i hi
   unfold dotR
   have e:∀ m,c < m->m <= n + 1->sN m (fun j=>M i j * y j) = (if i < c then -M i c else 0) + M i c:=by
    intro m
    induction m with
    | zero=>intro z; omega
    | succ m ih =>
     intro h1 h2
     rw [ž]
     by_cases e:m = c
     ·subst e
      have e1:y m = 1:=by simp [y]
      rw [e1]
      have e2:sN m (fun j=>M i j * y j) = if i < m then -M i m else 0:=by
       by_cases e3:i < m
       ·rw [if_pos e3,yN4 e3]
        ·rw [h i hi i e3,if_pos rfl]
         simp [y,e3]
         try grind
        ·intro j hj hne
         rw [h i hi j hj,if_neg (by omega)]; grind
       ·rw [if_neg e3]
        refine yN5 fun j hj=>?_
        rw [h i hi j hj,if_neg (by omega)]; grind
      rw [e2]; grind
     ·rw [ih (by omega) (by omega)]
      have e1:y m = 0:=by
       simp only [y]
       rw [if_neg (by omega),if_neg e]
      rw [e1]; grind
   rw [e (n + 1) (by omega) (ą _)]
   by_cases e3:i < c
   ·rw [if_pos e3]; grind
   ·rw [if_neg e3,q i (by omega) hi]; grind
  have e0:=hA y (by simp only [y]; rw [if_neg (by omega),if_neg (by omega)]) (hk y ky) c hc
  simp [y] at e0
theorem yN1 {n:Nat} {A M:Nat->Nat->Rat} (h:ClrM n M n) (hk:∀ y,KerM n M y->KerM n A y):∀ i,i < n->sN n (fun j=>A i j * M j n) = A i n:=by
 let y:Nat->Rat:=fun j=>if j < n then M j n else -1
 have ky:KerM n M y:=by
  intro i hi
  unfold dotR
  rw [ž,yN4 hi]
  ·rw [h i hi i hi,if_pos rfl]
   simp only [y]
   rw [if_pos hi,if_neg (by omega)]; grind
  ·intro j hj hne
   rw [h i hi j hj,if_neg (by omega)]; grind
 intro i hi
 have:=hk y ky i hi
 unfold dotR at this
 rw [ž] at this
 have e:sN n (fun j=>A i j * y j) = sN n (fun j=>A i j * M j n):=zH7 fun j hj=>by
  simp only [y]; rw [if_pos hj]
 rw [e] at this
 simp only [y] at this
 rw [if_neg (by omega)] at this
 grind
noncomputable def Cd (D N:Nat) (r:Rat):Prop:=∃ m:Int,r * (D:Rat) = (m:Rat) /\ m.natAbs <= N
theorem Cd.mono {D N N':Nat} {r:Rat} (h:Cd D N r) (hn:N <= N'):Cd D N' r:=let ⟨m,e,l⟩:=h; ⟨m,e,č l hn⟩
theorem Cd.mul {D N E W:Nat} {r q:Rat} (h:Cd D N r) (g:Cd E W q):Cd (D * E) (N * W) (r * q):=by
 obtain ⟨m,e,l⟩:=h
 obtain ⟨k,f,u⟩:=g
 refine ⟨m * k,?_,by rw [ŀ]; exact ğ l u⟩
 rw [Ģ,ľ,<- e,<- f]; grind
theorem Cd.add {D N W:Nat} {r q:Rat} (h:Cd D N r) (g:Cd D W q):Cd D (N + W) (r + q):=by
 obtain ⟨m,e,l⟩:=h
 obtain ⟨k,f,u⟩:=g
 refine ⟨m + k,?_,by omega⟩
 rw [Rat.intCast_add,<- e,<- f]; grind
theorem Cd.neg {D N:Nat} {r:Rat} (h:Cd D N r):Cd D N (-r):=by
 obtain ⟨m,e,l⟩:=h
 refine ⟨-m,?_,by omega⟩
 rw [Rat.intCast_neg,<- e]; grind
theorem Cd.sub {D N W:Nat} {r q:Rat} (h:Cd D N r) (g:Cd D W q):Cd D (N + W) (r - q):=by
 have:=h.add g.neg
 rw [<- Rat.sub_eq_add_neg] at this
 exact this
theorem Cd.zero (D N:Nat):Cd D N 0:=⟨0,by rw [ō]; rfl,Ī _⟩
theorem Cd.one (D:Nat):Cd D D 1:=⟨D,by rw [Rat.one_mul]; rfl,by simp⟩
theorem Cd.up {D N:Nat} {r:Rat} (h:Cd D N r) (d:Nat):Cd (D * d) (N * d) r:=by
 have:=h.mul (Cd.one d)
 rw [Rat.mul_one] at this; exact this
theorem Cd.of {D k:Nat} {r:Rat} (h:IsM D k r):Cd D (k * D) r:=by
 obtain ⟨_,m,l,e⟩:=h
 exact ⟨m,by rw [e]; rfl,by simpa using l⟩
structure BdM (n:Nat) (M:Nat->Nat->Rat) (D N E W:Nat):Prop where
 d0:0 < D
 dn:D <= N
 e0:0 < E
 ew:E <= W
 co:∀ i,i < n->∀ j,j < n->Cd D N (M i j)
 la:∀ i,i < n->Cd E W (M i n)
theorem xQ2 {m:Int} {x:Rat} {D:Nat} (e:x * (D:Rat) = (m:Rat)) (hx:x ≠ 0) (hD:0 < D):m ≠ 0:=by
 intro z
 subst z
 have:=yJ4 hD
 have e:x * (D:Rat) = 0:=e
 rcases ń.mp e with q | q
 ·exact hx q
 ·exact this q
theorem xA3 (m:Int):∃ s:Int,(s = 1 \/ s = -1) /\ (m.natAbs:Int) = m * s:=by
 by_cases h:0 <= m
 ·exact ⟨1,.inl rfl,by omega⟩
 ·exact ⟨-1,.inr rfl,by omega⟩
theorem yA4 (m:Int):∃ s:Int,s.natAbs = 1 /\ ((m.natAbs:Nat):Rat) = (m:Rat) * (s:Rat):=by
 obtain ⟨s,h,e⟩:=xA3 m
 have e2:((m.natAbs:Nat):Rat) = (((m.natAbs:Nat):Int):Rat):=rfl
 refine ⟨s,by rcases h with rfl | rfl <;> rfl,by rw [e2,e,ľ]⟩
theorem Cd.lead {D N E W:Nat} {b x:Rat} {m:Int} (hb:Cd E W b) (e:x * (D:Rat) = (m:Rat)) (hx:x ≠ 0) (hD:0 < D) (hN:D <= N):Cd (E * m.natAbs) (W * N) (b / x):=by
 obtain ⟨k,f,u⟩:=hb
 obtain ⟨s,hs,e2⟩:=yA4 m
 refine ⟨k * D * s,?_,?_⟩
 ·rw [Ģ,ľ,ľ,e2,<- e,<- f]
  have:((D:Int):Rat) = (D:Rat):=rfl
  rw [this]
  grind
 ·rw [ŀ,ŀ,hs,Nat.mul_one]
  exact ğ u (by simpa using hN)
theorem Cd.took {D N E W:Nat} {b x c:Rat} {m:Int} (hb:Cd E W b) (hc:Cd D N c) (e:x * (D:Rat) = (m:Rat)) (hx:x ≠ 0) (hD:0 < D):Cd (E * m.natAbs) (W * N) (b / x * c):=by
 obtain ⟨k,f,u⟩:=hb
 obtain ⟨l,g,v⟩:=hc
 obtain ⟨s,hs,e2⟩:=yA4 m
 refine ⟨k * l * s,?_,?_⟩
 ·rw [Ģ,ľ,ľ,e2,<- e,<- f,<- g]
  have:=yJ4 hD
  grind
 ·rw [ŀ,ŀ,hs,Nat.mul_one]
  exact ğ u v
theorem Cd.stay {D N E W:Nat} {b x:Rat} {m:Int} (hb:Cd E W b) (hx:Cd D N x) (e:x * (D:Rat) = (m:Rat)) (hD:0 < D):Cd (E * m.natAbs) (W * N) b:=by
 have hm:m.natAbs <= N:=by
  obtain ⟨k,f,u⟩:=hx
  have:(k:Rat) = (m:Rat):=f.symm.trans e
  have:k = m:=by exact_mod_cast this
  rw [<- this]; exact u
 exact (hb.up m.natAbs).mono (ğ (ą _) hm)
theorem BdM.swap {n a b D N E W:Nat} {M:Nat->Nat->Rat} (h:BdM n M D N E W) (ha:a < n) (hb:b < n):BdM n (ε M a b) D N E W:=by
 refine ⟨h.d0,h.dn,h.e0,h.ew,fun i hi j hj=>?_,fun i hi=>?_⟩
 ·unfold ε; split
  ·exact h.co a ha j hj
  ·split
   ·exact h.co b hb j hj
   ·exact h.co i hi j hj
 ·unfold ε; split
  ·exact h.la a ha
  ·split
   ·exact h.la b hb
   ·exact h.la i hi
theorem BdM.piv {n c k D N E W:Nat} {M:Nat->Nat->Rat} (h:BdM n M D N E W) (hc:c < n) (hk:k < n) (hp:M c k ≠ 0) :
  ∃ D' E',BdM n (pivM M c k) D' (2 * (N * N)) E' (2 * (W * N)) /\ (∀ i,i < n->∀ j,j < n->Cd D' (2 * (N * N)) (M c j / M c k * M i k)) /\ ∀ i,i < n->Cd E' (2 * (W * N)) (M c n / M c k * M i k):=by
 obtain ⟨m,e,l⟩:=h.co c hc k hk
 have hm:0 < m.natAbs:=by have:=xQ2 e hp h.d0; omega
 have hN:0 < N:=ď h.d0 h.dn
 have l2:∀ {X:Nat},X <= 2 * X:=fun {X}=>by omega
 refine ⟨D * m.natAbs,E * m.natAbs,⟨Ľ h.d0 hm,č (ğ h.dn l) l2,Ľ h.e0 hm,č (ğ h.ew l) l2,fun i hi j hj=>?_,fun i hi=>?_⟩,fun i hi j hj=>?_,fun i hi=>?_⟩
 ·unfold pivM; split
  ·exact ((h.co c hc j hj).lead e hp h.d0 h.dn).mono l2
  ·have:=((h.co i hi j hj).stay (h.co c hc k hk) e h.d0).sub ((h.co c hc j hj).took (h.co i hi k hk) e hp h.d0)
   exact this.mono (by omega)
 ·unfold pivM; split
  ·exact ((h.la c hc).lead e hp h.d0 h.dn).mono l2
  ·have:=((h.la i hi).stay (h.co c hc k hk) e h.d0).sub ((h.la c hc).took (h.co i hi k hk) e hp h.d0)
   exact this.mono (by omega)
 ·exact ((h.co c hc j hj).took (h.co i hi k hk) e hp h.d0).mono l2
 ·exact ((h.la c hc).took (h.co i hi k hk) e hp h.d0).mono l2
noncomputable def BdB (n:Nat) (M:Nat->Nat->Rat) (a b:Nat):Prop:=∃ D E,BdM n M D (2 ^ a) E (2 ^ b)
theorem BdB.piv {n c k a b:Nat} {M:Nat->Nat->Rat} (h:BdB n M a b) (hc:c < n) (hk:k < n) (hp:M c k ≠ 0):BdB n (pivM M c k) (2 * a + 1) (a + b + 1):=by
 obtain ⟨D,E,h⟩:=h
 obtain ⟨D',E',h1,_⟩:=h.piv hc hk hp
 refine ⟨D',E',?_⟩
 have e1:2 * (2 ^ a * 2 ^ a) = 2 ^ (2 * a + 1):=by rw [<- ī,ļ,<- į]; congr 1; omega
 have e2:2 * (2 ^ b * 2 ^ a) = 2 ^ (a + b + 1):=by rw [<- ī,ļ,<- į]; congr 1; omega
 rw [<- e1,<- e2]; exact h1
section
variable {α:Type} [DecidableEq α]
theorem zM2 {L:List α} {f g:α->Rat} (h:∀ z ∈ L,f z <= g z):sumL L f <= sumL L g:=by
 induction L with
 | nil=>exact ŏ
 | cons z L ih =>
  rw [Í,Í]
  have h1:=h z ă
  have h2:=ih fun y hy=>h y (Ă _ hy)
  grind
theorem Ų {L:List α} {f:α->Rat} (h:∀ z ∈ L,0 <= f z):0 <= sumL L f:=by
 have:=zM2 (L:=L) (f:=fun _=>0) (g:=f) h
 rw [ö L _ fun _ _=>rfl] at this
 exact this
theorem Ý {L:List α} {f g:α->Rat} (h:∀ z ∈ L,f z = g z):sumL L f = sumL L g:=by
 induction L with
 | nil=>rfl
 | cons z L ih=>rw [Í,Í,h z ă,ih fun y hy=>h y (Ă _ hy)]
theorem ŵ {L:List α} {f:α->Rat} (h:∀ z ∈ L,0 <= f z) (h0:sumL L f = 0):∀ z ∈ L,f z = 0:=by
 induction L with
 | nil=>intro z hz; cases hz
 | cons y L ih =>
  rw [Í] at h0
  have h1:=h y ă
  have h2:=Ų (L:=L) (f:=f) fun z hz=>h z (Ă _ hz)
  intro z hz
  rcases Ē.mp hz with e | e
  ·subst e; grind
  ·exact ih (fun z hz=>h z (Ă _ hz)) (by grind) z e
theorem zQ8 (L:List α) (f g:α->Rat):sumL L (fun z=>f z + g z) = sumL L f + sumL L g:=by
 induction L with
 | nil=>simp only [õ]; grind
 | cons z L ih=>rw [Í,Í,Í,ih]; grind
theorem Ŭ (L:List α) (f g:α->Rat):sumL L (fun z=>f z - g z) = sumL L f - sumL L g:=by
 induction L with
 | nil=>simp only [õ]; grind
 | cons z L ih=>rw [Í,Í,Í,ih]; grind
theorem zE3 (L:List α) (f:α->Rat) (c:Rat):sumL L (fun z=>c * f z) = c * sumL L f:=by
 induction L with
 | nil=>simp only [õ]; grind
 | cons z L ih=>rw [Í,Í,ih]; grind
theorem zV7 (L M:List α) (f:α->α->Rat):sumL L (fun i=>sumL M fun j=>f i j) = sumL M fun j=>sumL L fun i=>f i j:=by
 induction L with
 | nil =>
  rw [õ]
  exact (ö M _ fun _ _=>rfl).symm
 | cons z L ih =>
  rw [Í,ih,<- zQ8]
  refine Ý fun j _=>?_
  rw [Í]
noncomputable def absR (x:Rat):Rat:=if 0 <= x then x else -x
theorem zV2 (x:Rat):0 <= absR x:=by unfold absR; split <;> grind
theorem zO7 {x:Rat} (h:absR x = 0):x = 0:=by unfold absR at h; split at h <;> grind
theorem xA4 (x y:Rat):absR (x + y) <= absR x + absR y:=by unfold absR; split <;> split <;> split <;> grind
theorem yH6 {x y:Rat} (hy:0 <= y):absR (x * y) = absR x * y:=by
 unfold absR
 by_cases h:0 <= x
 ·rw [if_pos h,if_pos (Ğ h hy)]
 ·rw [if_neg h]
  by_cases e:y = 0
  ·subst e; simp [Rat.mul_zero]
  ·have:0 < (-x) * y:=Rat.mul_pos (by grind) (yF4 hy e)
   rw [if_neg (by grind)]; grind
theorem yH5 (L:List α) (f:α->Rat):absR (sumL L f) <= sumL L fun z=>absR (f z):=by
 induction L with
 | nil=>rw [õ,õ]; decide
 | cons z L ih =>
  rw [Í,Í]
  have:=xA4 (f z) (sumL L f)
  grind
structure SubC (C:List α) (P:α->α->Rat):Prop where
 nn:∀ x ∈ C,∀ y,0 <= P x y
 le:∀ x ∈ C,sumL C (P x) <= 1
inductive Leak (C:List α) (P:α->α->Rat):α->Prop where
 | now {x:α} (hx:x ∈ C) (h:sumL C (P x) ≠ 1):Leak C P x
 | via {x y:α} (hx:x ∈ C) (hy:y ∈ C) (h:P x y ≠ 0) (l:Leak C P y):Leak C P x
theorem Leak.mem {C:List α} {P:α->α->Rat} {x:α} (h:Leak C P x):x ∈ C:=by cases h <;> assumption
theorem zY3 {C:List α} {P:α->α->Rat} (S:SubC C P) {v:α->Rat} (h:∀ j ∈ C,v j = sumL C fun i=>v i * P i j) {x:α} (l:Leak C P x):v x = 0:=by
 have h1:∀ j ∈ C,0 <= (sumL C fun i=>absR (v i) * P i j) - absR (v j):=fun j hj=>by
  have a:=yH5 C fun i=>v i * P i j
  rw [<- h j hj,Ý (g:=fun i=>absR (v i) * P i j) fun i hi=>yH6 (S.nn i hi j)] at a
  grind
 have h2:∀ i ∈ C,0 <= absR (v i) - absR (v i) * sumL C (P i):=fun i hi=>by
  have a:=S.le i hi
  have b:=Ğ (zV2 (v i)) (show 0 <= 1 - sumL C (P i) by grind)
  grind
 have e1:=Ŭ C (fun j=>sumL C fun i=>absR (v i) * P i j) fun j=>absR (v j)
 have e2:=Ŭ C (fun i=>absR (v i)) fun i=>absR (v i) * sumL C (P i)
 have e3:(sumL C fun i=>absR (v i) * sumL C (P i)) = sumL C fun j=>sumL C fun i=>absR (v i) * P i j:=by
  rw [<- zV7]
  exact Ý fun i _=>(zE3 C (P i) (absR (v i))).symm
 have n1:=Ų h1
 have n2:=Ų h2
 have z1:(sumL C fun j=>(sumL C fun i=>absR (v i) * P i j) - absR (v j)) = 0:=by grind
 have z2:(sumL C fun i=>absR (v i) - absR (v i) * sumL C (P i)) = 0:=by grind
 have f1:=ŵ h1 z1
 have f2:=ŵ h2 z2
 induction l with
 | now hx hn =>
  rename_i x
  have a:=f2 x hx
  apply zO7
  have b:absR (v x) * (1 - sumL C (P x)) = 0:=by grind
  rcases ń.mp b with q | q
  ·exact q
  ·exact absurd (by grind) hn
 | via hx hy hp _ ih =>
  rename_i x y _
  have a:=f1 y hy
  rw [ih] at a
  have e0:absR (0:Rat) = 0:=by decide
  have a:(sumL C fun i=>absR (v i) * P i y) = 0:=by grind
  have b:=ŵ (fun i hi=>Ğ (zV2 (v i)) (S.nn i hi y)) a x hx
  apply zO7
  rcases ń.mp b with q | q
  ·exact q
  ·exact absurd q hp
noncomputable def stay (C:List α) (P:α->α->Rat):Nat->α->Rat
 | 0=>fun _=>1
 | k + 1=>fun x=>sumL C fun y=>P x y * stay C P k y
theorem yA8 {C:List α} {P:α->α->Rat} (S:SubC C P):∀ k,∀ x ∈ C,0 <= stay C P k x
 | 0,_,_=>by show (0:Rat) <= 1; decide
 | k + 1,x,hx=>Ų fun y hy=>Ğ (S.nn x hx y) (yA8 S k y hy)
theorem zG7 {C:List α} {P:α->α->Rat} (S:SubC C P):∀ k,∀ x ∈ C,stay C P k x <= 1
 | 0,_,_=>ŏ
 | k + 1,x,hx=>by
  have a:=zM2 (L:=C) (f:=fun y=>P x y * stay C P k y) (g:=P x) fun y hy=>by
   have:=Ğ (S.nn x hx y) (show 0 <= 1 - stay C P k y by have:=zG7 S k y hy; grind)
   grind
  exact Rat.le_trans a (S.le x hx)
theorem zW1 {C:List α} {P:α->α->Rat} (S:SubC C P):∀ k,∀ x ∈ C,stay C P (k + 1) x <= stay C P k x
 | 0,x,hx=>zG7 S 1 x hx
 | k + 1,x,hx=>zM2 fun y hy=>by
  have:=Ğ (S.nn x hx y) (show 0 <= stay C P k y - stay C P (k + 1) y by have:=zW1 S k y hy; grind)
  grind
noncomputable def hold (C:List α) (P:α->α->Rat) (k:Nat):List α:=C.filter fun x=>decide (stay C P k x = 1)
theorem yD9 {C:List α} {P:α->α->Rat} (S:SubC C P) {k:Nat} {x:α} (hx:x ∈ C) (h:stay C P (k + 1) x = 1):sumL C (P x) = 1 /\ ∀ y ∈ C,P x y ≠ 0->stay C P k y = 1:=by
 have n:∀ y ∈ C,0 <= P x y - P x y * stay C P k y:=fun y hy=>by
  have:=Ğ (S.nn x hx y) (show 0 <= 1 - stay C P k y by have:=zG7 S k y hy; grind)
  grind
 have e:=Ŭ C (P x) fun y=>P x y * stay C P k y
 have h:(sumL C fun y=>P x y * stay C P k y) = 1:=h
 have a:=Ų n
 have b:=S.le x hx
 have c:sumL C (P x) = 1:=by grind
 refine ⟨c,fun y hy hp=>?_⟩
 have z:(sumL C fun y=>P x y - P x y * stay C P k y) = 0:=by grind
 have d:=ŵ n z y hy
 have d:P x y * (1 - stay C P k y) = 0:=by grind
 rcases ń.mp d with q | q
 ·exact absurd q hp
 ·grind
theorem yG3 {C:List α} {P:α->α->Rat} (S:SubC C P) {k:Nat} {x:α} (h:x ∈ hold C P (k + 1)):x ∈ hold C P k:=by
 obtain ⟨hx,e⟩:=ġ.mp h
 have e:=of_decide_eq_true e
 refine ġ.mpr ⟨hx,decide_eq_true ?_⟩
 have a:=zW1 S k x hx
 have b:=zG7 S k x hx
 rw [e] at a
 grind
theorem yS6 {C:List α} {P:α->α->Rat} (S:SubC C P) (l:∀ x ∈ C,Leak C P x) {k:Nat} (h:∀ x ∈ hold C P k,x ∈ hold C P (k + 1)):hold C P k = []:=by
 have key:∀ x,Leak C P x->x ∉ hold C P k:=by
  intro x lx
  induction lx with
  | now hx hn =>
   intro q
   obtain ⟨_,e⟩:=ġ.mp (h _ q)
   exact hn (yD9 S hx (of_decide_eq_true e)).1
  | via hx hy hp _ ih =>
   intro q
   obtain ⟨_,e⟩:=ġ.mp (h _ q)
   exact ih (ġ.mpr ⟨hy,decide_eq_true ((yD9 S hx (of_decide_eq_true e)).2 _ hy hp)⟩)
 cases q:hold C P k with
 | nil=>rfl
 | cons x r =>
  exfalso
  have hm:x ∈ hold C P k:=by rw [q]; exact ă
  exact key x (l x (ġ.mp hm).1) hm
theorem yG4 {C:List α} {P:α->α->Rat} (S:SubC C P) (hn:C.Nodup) (l:∀ x ∈ C,Leak C P x):∀ k,hold C P k = [] \/ (hold C P k).length + k <= C.length
 | 0=>.inr (by show _ + 0 <= _; exact Į _ _)
 | k + 1=>by
  by_cases q:∀ x ∈ hold C P k,x ∈ hold C P (k + 1)
  ·left
   have e:=yS6 S l q
   cases r:hold C P (k + 1) with
   | nil=>rfl
   | cons x t =>
    have:=yG3 S (k:=k) (x:=x) (by rw [r]; exact ă)
    rw [e] at this; cases this
  ·rcases yG4 S hn l k with e | e
   ·exact absurd (fun x hx=>by rw [e] at hx; cases hx) q
   ·right
    have hx:∃ x,x ∈ hold C P k /\ x ∉ hold C P (k + 1):=by
     by_cases r:∃ x,x ∈ hold C P k /\ x ∉ hold C P (k + 1)
     ·exact r
     ·exact absurd (fun x hx=>by by_cases u:x ∈ hold C P (k + 1); exact u; exact absurd ⟨x,hx,u⟩ r) q
    obtain ⟨x,h1,h2⟩:=hx
    have nd:(hold C P (k + 1)).Nodup:=hn.filter _
    have:=Ú (L:=(hold C P k).erase x) (ks:=hold C P (k + 1)) nd fun z hz=>by
     refine (List.mem_erase_of_ne ?_).mpr (yG3 S hz)
     rintro rfl; exact h2 hz
    rw [List.length_erase_of_mem h1] at this
    have:=List.length_pos_of_mem h1
    omega
theorem xE2 {C:List α} {P:α->α->Rat} (S:SubC C P) (hn:C.Nodup) (l:∀ x ∈ C,Leak C P x) {k:Nat} (hk:C.length <= k) {x:α} (hx:x ∈ C):stay C P k x < 1:=by
 have e:hold C P k = []:=by
  rcases yG4 S hn l k with e | e
  ·exact e
  ·exact Ō.mp (by omega)
 have a:=zG7 S k x hx
 by_cases q:stay C P k x = 1
 ·have:x ∈ hold C P k:=ġ.mpr ⟨hx,decide_eq_true q⟩
  rw [e] at this; cases this
 ·grind
end
section
variable {α:Type} [DecidableEq α]
structure LkS (C:List α) (P:α->α->Rat) (S:List α):Prop where
 nd:S.Nodup
 lk:∀ x ∈ S,Leak C P x
 now:∀ x ∈ C,sumL C (P x) ≠ 1->x ∈ S
noncomputable def yA6 (C:List α) (P:α->α->Rat) (S:List α):Prop:=∀ x,Leak C P x->x ∈ S
theorem LkS.done {C:List α} {P:α->α->Rat} {S:List α} (h:LkS C P S) (d:∀ x ∈ C,(∃ y ∈ S,P x y ≠ 0)->x ∈ S):yA6 C P S:=by
 intro x l
 induction l with
 | now hx hn=>exact h.now _ hx hn
 | via hx _ hp _ ih=>exact d _ hx ⟨_,ih,hp⟩
theorem LkS.full {C:List α} {P:α->α->Rat} {S:List α} (h:LkS C P S) (hl:C.length <= S.length):yA6 C P S:=by
 intro x l
 have hx:=l.mem
 by_cases q:x ∈ S
 ·exact q
 ·exfalso
  have:=Ú (L:=C) (ks:=x :: S) (Ġ.mpr ⟨q,h.nd⟩) fun z hz=>by
   rcases Ē.mp hz with e | e
   ·subst e; exact hx
   ·exact (h.lk z e).mem
  rw [ģ] at this
  omega
noncomputable def putS (S:List α) (x:α):List α:=if x ∈ S then S else S ++ [x]
theorem mem_putS {S:List α} {x z:α}:z ∈ putS S x ↔ z ∈ S \/ z = x:=by
 unfold putS; split
 ·rename_i h
  exact ⟨.inl,fun e=>e.elim id fun e=>e ▸ h⟩
 ·simp
theorem yO3 {S:List α} {x:α} (h:S.Nodup):(putS S x).Nodup:=by
 unfold putS; split
 ·exact h
 ·rename_i q
  rw [Ő]
  refine ⟨h,by simp,fun a ha b hb e=>q ?_⟩
  rw [ě.mp hb] at e
  exact e ▸ ha
theorem LkS.put {C:List α} {P:α->α->Rat} {S:List α} (h:LkS C P S) {x y:α} (hx:x ∈ C) (hy:y ∈ S) (hp:P x y ≠ 0):LkS C P (putS S x) :=
 ⟨yO3 h.nd,fun z hz=>(mem_putS.mp hz).elim (h.lk z) (fun e=>e ▸ .via hx (h.lk y hy).mem hp (h.lk y hy)),fun z hz hn=>mem_putS.mpr (.inl (h.now z hz hn))⟩
noncomputable def Swp (C:List α) (P:α->α->Rat) (T:List α) (i:Nat) (S:List α):Prop:=(T.length + 1 <= S.length \/ (S = T /\ ∀ x ∈ C.take i,(∃ y ∈ T,P x y ≠ 0)->x ∈ T)) /\ (yA6 C P T->yA6 C P S)
theorem Swp.start (C:List α) (P:α->α->Rat) (T:List α):Swp C P T 0 T:=⟨.inr ⟨rfl,fun x hx=>by simp at hx⟩,id⟩
theorem Swp.step {C:List α} {P:α->α->Rat} {T S:List α} {i:Nat} {x:α} (hx:C[i]? = some x) (h:Swp C P T i S) (b:Bool) (hb:b = true ↔ ∃ y ∈ S,P x y ≠ 0):Swp C P T (i + 1) (if b then putS S x else S):=by
 have et:C.take (i + 1) = C.take i ++ [x]:=by rw [ĺ,hx]; rfl
 refine ⟨?_,fun f=>?_⟩
 ·rcases h.1 with l | ⟨e,f⟩
  ·left
   cases b with
   | false=>exact l
   | true =>
    show _ <= (putS S x).length
    unfold putS; split
    ·exact l
    ·rw [Ĝ]; omega
  ·subst e
   cases b with
   | false =>
    right
    refine ⟨rfl,fun z hz q=>?_⟩
    rw [et] at hz
    rcases Ĥ.mp hz with e | e
    ·exact f z e q
    ·rw [ě.mp e] at q
     exact absurd (hb.mpr q) (by simp)
   | true =>
    show _ <= (putS S x).length \/ (putS S x = S /\ _)
    unfold putS
    by_cases hm:x ∈ S
    ·right
     rw [if_pos hm]
     refine ⟨rfl,fun z hz q=>?_⟩
     rw [et] at hz
     rcases Ĥ.mp hz with e | e
     ·exact f z e q
     ·rw [ě.mp e]; exact hm
    ·left
     rw [if_neg hm,Ĝ]; simp
 ·intro z l
  cases b with
  | false=>exact h.2 f z l
  | true=>exact mem_putS.mpr (.inl (h.2 f z l))
theorem Swp.stop {C:List α} {P:α->α->Rat} {T S:List α} {k:Nat} (h:Swp C P T C.length S) (hs:LkS C P S) (hk:yA6 C P T \/ k <= T.length):yA6 C P S \/ k + 1 <= S.length:=by
 rcases hk with q | q
 ·exact .inl (h.2 q)
 ·rcases h.1 with l | ⟨e,f⟩
  ·right; omega
  ·left
   subst e
   rw [Đ] at f
   exact hs.done f
structure LfT (C:List α) (P:α->α->Rat) (T:List α):Prop where
 nd:T.Nodup
 sub:∀ x ∈ T,x ∈ C
 lk:∀ x ∈ C,x ∉ T->Leak C P x
noncomputable def yA7 (C:List α) (P:α->α->Rat) (T:List α):Prop:=∀ x,Leak C P x->x ∉ T
theorem LfT.full {C:List α} {P:α->α->Rat} {T:List α} (h:T = []):yA7 C P T:=fun x _=>by rw [h]; simp
theorem zX6 {C L:List α} {R:α->α->Rat} (hC:C.Nodup) (hL:L.Nodup) (hCL:∀ x ∈ C,x ∈ L) {x:α} (h0:∀ z,0 <= R x z) (hs:sumL L (R x) = 1):sumL C (R x) ≠ 1 ↔ ∃ z ∈ L,z ∉ C /\ R x z ≠ 0:=by
 constructor
 ·intro h
  by_cases q:∃ z ∈ L,z ∉ C /\ R x z ≠ 0
  ·exact q
  ·exfalso
   apply h
   rw [<- hs]
   refine Ζ (R x) hL hC hCL fun z hz hn=>?_
   by_cases e:z ∈ C
   ·exact e
   ·exact absurd ⟨z,hz,e,hn⟩ q
 ·rintro ⟨z,hz,hn,hr⟩ e
  have e2:=Ζ (L:=L) (ks:=L.filter fun y=>decide (y ∈ C) || decide (y = z)) (R x)
  have e3:sumL C (R x) + R x z <= sumL L (R x):=by
   have hcz:(C ++ [z]).Nodup:=by
    rw [Ő]
    refine ⟨hC,by simp,fun a ha b hb e=>hn ?_⟩
    rw [ě.mp hb] at e
    exact e ▸ ha
   have key:∀ {ks L:List α},L.Nodup->ks.Nodup->(∀ y ∈ ks,y ∈ L)->sumL ks (R x) <= sumL L (R x):=by
    intro ks
    induction ks with
    | nil=>intro L _ _ _; rw [õ]; exact Ų fun y _=>h0 y
    | cons k ks ih =>
     intro L hL hk hs
     rw [Ġ] at hk
     rw [Í,ô (hs k ă)]
     have:=ih (L:=L.erase k) (hL.erase k) hk.2 fun y hy=>by
      refine (List.mem_erase_of_ne ?_).mpr (hs y (Ă _ hy))
      rintro rfl; exact hk.1 hy
     grind
   have:=key hL hcz fun y hy=>by
    rcases Ĥ.mp hy with q | q
    ·exact hCL y q
    ·rw [ě.mp q]; exact hz
   rw [zH1] at this
   exact this
  rw [e,hs] at e3
  have:=yF4 (h0 z) hr
  grind
end
section
variable {α:Type} [DecidableEq α]
theorem LfT.done {C L:List α} {R:α->α->Rat} {T:List α} (hC:C.Nodup) (hL:L.Nodup) (hCL:∀ x ∈ C,x ∈ L) (h0:∀ x ∈ C,∀ z,0 <= R x z) (hs:∀ x ∈ C,sumL L (R x) = 1) (h:LfT C R T) (d:∀ x ∈ T,∀ z ∈ L,R x z ≠ 0->z ∈ T):yA7 C R T:=by
 intro x l
 induction l with
 | now hx hn =>
  intro q
  obtain ⟨z,h1,h2,h3⟩:=(zX6 hC hL hCL (h0 _ hx) (hs _ hx)).mp hn
  exact h2 (h.sub z (d _ q z h1 h3))
 | via hx hy hp _ ih=>exact fun q=>ih (d _ q _ (hCL _ hy) hp)
noncomputable def χ (T:List α) (x:α):List α:=T.filter fun y=>decide (y ≠ x)
theorem mem_dropT {T:List α} {x z:α}:z ∈ χ T x ↔ z ∈ T /\ z ≠ x:=by
 unfold χ; rw [ġ]; simp
theorem yT7 {T:List α} {x:α} (h:x ∈ T):(χ T x).length + 1 <= T.length:=by
 unfold χ
 induction T with
 | nil=>cases h
 | cons y T ih =>
  rw [Ŗ]
  by_cases e:y = x
  ·subst e
   rw [if_neg (by simp)]
   have:=Į (fun z=>decide (z ≠ y)) T
   rw [ģ]; omega
  ·rw [if_pos (by simp [e])]
   rcases Ē.mp h with q | q
   ·exact absurd q.symm e
   ·have:=ih q
    rw [ģ,ģ]; omega
theorem LfT.drop {C L:List α} {R:α->α->Rat} {T:List α} (hC:C.Nodup) (hL:L.Nodup) (hCL:∀ x ∈ C,x ∈ L) (h0:∀ x ∈ C,∀ z,0 <= R x z) (hs:∀ x ∈ C,sumL L (R x) = 1) (h:LfT C R T) {x z:α} (hx:x ∈ T) (hz:z ∈ L) (hr:R x z ≠ 0) (hn:z ∉ T):LfT C R (χ T x):=by
 have hxC:=h.sub x hx
 refine ⟨h.nd.filter _,fun y hy=>h.sub y (mem_dropT.mp hy).1,fun y hy hm=>?_⟩
 by_cases e:y = x
 ·subst e
  by_cases q:z ∈ C
  ·exact .via hxC q hr (h.lk z q hn)
  ·exact .now hxC ((zX6 hC hL hCL (h0 _ hxC) (hs _ hxC)).mpr ⟨z,hz,q,hr⟩)
 ·exact h.lk y hy fun q=>hm (mem_dropT.mpr ⟨q,e⟩)
noncomputable def Swq (C L:List α) (R:α->α->Rat) (T0:List α) (i:Nat) (T:List α):Prop:=(∀ x ∈ T,x ∈ T0) /\ (∀ x ∈ T0.drop i,x ∈ T) /\ (T.length + 1 <= T0.length \/ (T = T0 /\ ∀ x ∈ T0.take i,∀ z ∈ L,R x z ≠ 0->z ∈ T0)) /\ (yA7 C R T0->yA7 C R T)
theorem Swq.start (C L:List α) (R:α->α->Rat) (T:List α):Swq C L R T 0 T:=⟨fun _ h=>h,fun _ h=>h,.inr ⟨rfl,fun x hx=>by simp at hx⟩,id⟩
theorem Swq.step {C L:List α} {R:α->α->Rat} {T0 T:List α} {i:Nat} {x:α} (nd:T0.Nodup) (hx:T0[i]? = some x) (h:Swq C L R T0 i T) (b:Bool) (hb:b = true ↔ ∃ z ∈ L,R x z ≠ 0 /\ z ∉ T):Swq C L R T0 (i + 1) (if b then χ T x else T):=by
 have hi:i < T0.length:=(Ą.mp hx).1
 have ed:T0.drop i = x :: T0.drop (i + 1):=by rw [ţ hi,(Ą.mp hx).2]
 have et:T0.take (i + 1) = T0.take i ++ [x]:=by rw [ĺ,hx]; rfl
 have hxT:x ∈ T:=h.2.1 x (by rw [ed]; exact ă)
 have hxn:x ∉ T0.drop (i + 1):=by
  have:=nd.sublist (List.drop_sublist i T0)
  rw [ed,Ġ] at this
  exact this.1
 cases b with
 | false =>
  refine ⟨h.1,fun y hy=>h.2.1 y (by rw [ed]; exact Ă _ hy),?_,h.2.2.2⟩
  rcases h.2.2.1 with l | ⟨e,f⟩
  ·exact .inl l
  ·right
   subst e
   refine ⟨rfl,fun y hy z hz hr=>?_⟩
   rw [et] at hy
   rcases Ĥ.mp hy with q | q
   ·exact f y q z hz hr
   ·rw [ě.mp q] at hr
    by_cases u:z ∈ T
    ·exact u
    ·exact absurd (hb.mpr ⟨z,hz,hr,u⟩) (by simp)
 | true =>
  refine ⟨fun y hy=>h.1 y (mem_dropT.mp hy).1,fun y hy=>mem_dropT.mpr ⟨h.2.1 y (by rw [ed]; exact Ă _ hy),fun e=>hxn (e ▸ hy)⟩,.inl ?_,fun f y l q=>h.2.2.2 f y l (mem_dropT.mp q).1⟩
  have:=yT7 hxT
  rcases h.2.2.1 with l | ⟨e,_⟩
  ·show (χ T x).length + 1 <= _
   omega
  ·rw [<- e]; exact this
theorem Swq.stop {C L:List α} {R:α->α->Rat} {T0 T:List α} {k:Nat} (hC:C.Nodup) (hL:L.Nodup) (hCL:∀ x ∈ C,x ∈ L) (h0:∀ x ∈ C,∀ z,0 <= R x z) (hs:∀ x ∈ C,sumL L (R x) = 1) (h:Swq C L R T0 T0.length T) (ht:LfT C R T) (hk:yA7 C R T0 \/ T0.length + k <= C.length):yA7 C R T \/ T.length + (k + 1) <= C.length:=by
 rcases hk with q | q
 ·exact .inl (h.2.2.2 q)
 ·rcases h.2.2.1 with l | ⟨e,f⟩
  ·right; omega
  ·left
   subst e
   rw [Đ] at f
   exact ht.done hC hL hCL h0 hs f
theorem sort_same {le:α->α->Prop} (anti:∀ a b,le a b->le b a->a = b):∀ {l1 l2:List α},l1.Perm l2->l1.Pairwise le->l2.Pairwise le->l1 = l2
 | [],l2,p,_,_=>p.nil_eq
 | a :: l1,[],p,_,_=>absurd p.length_eq (by simp)
 | a :: l1,b :: l2,p,h1,h2=>by
  have e:a = b:=by
   have ha:a ∈ b :: l2:=p.mem_iff.mp ă
   have hb:b ∈ a :: l1:=p.mem_iff.mpr ă
   rcases Ē.mp ha with q | q
   ·exact q
   ·rcases Ē.mp hb with u | u
    ·exact u.symm
    ·exact anti a b ((ř.mp h1).1 b u) ((ř.mp h2).1 a q)
  subst e
  rw [sort_same anti (List.perm_cons a |>.mp p) (ř.mp h1).2 (ř.mp h2).2]
end
section
variable {α:Type} [DecidableEq α]
theorem yL5 {f:α->Rat} (h0:∀ z,0 <= f z):∀ {ks L:List α},L.Nodup->ks.Nodup->(∀ y ∈ ks,y ∈ L)->sumL ks f <= sumL L f:=by
 intro ks
 induction ks with
 | nil=>intro L _ _ _; rw [õ]; exact Ų fun y _=>h0 y
 | cons k ks ih =>
  intro L hL hk hs
  rw [Ġ] at hk
  rw [Í,ô (hs k ă)]
  have:=ih (L:=L.erase k) (hL.erase k) hk.2 fun y hy=>by
   refine (List.mem_erase_of_ne ?_).mpr (hs y (Ă _ hy))
   rintro rfl; exact hk.1 hy
  grind
theorem Good.sub {C L:List α} {D:Nat} {R:α->α->Rat} (G:Good L D R) (hC:C.Nodup) (hL:L.Nodup) (hCL:∀ x ∈ C,x ∈ L):SubC C R :=
 ⟨fun x hx y=>(G.part x (hCL x hx) y).1,fun x hx=>by rw [<- G.all x (hCL x hx)]; exact yL5 (fun z=>(G.part x (hCL x hx) z).1) hL hC hCL⟩
theorem xG2:∀ {C:List α} {i j:Nat},C.Nodup->i < C.length->C[i]? = C[j]?->i = j
 | [],i,j,_,hi,_=>by simp at hi
 | x :: C,0,0,_,_,_=>rfl
 | x :: C,0,j + 1,hn,_,e=>by
  rw [Ġ] at hn
  have:C[j]? = some x:=by simpa using e.symm
  exact absurd (ċ this) hn.1
 | x :: C,i + 1,0,hn,_,e=>by
  rw [Ġ] at hn
  have:C[i]? = some x:=by simpa using e
  exact absurd (ċ this) hn.1
 | x :: C,i + 1,j + 1,hn,hi,e=>by
  rw [Ġ] at hn
  have:=xG2 (i:=i) (j:=j) hn.2 (by simpa using hi) (by simpa using e)
  omega
noncomputable def Nmd (C:List α) (c:Nat->α):Prop:=∀ i,i < C.length->C[i]? = some (c i)
theorem Nmd.mem {C:List α} {c:Nat->α} (h:Nmd C c) {i:Nat} (hi:i < C.length):c i ∈ C:=ċ (h i hi)
theorem Nmd.sum {C:List α} {c:Nat->α} (h:Nmd C c) (f:α->Rat):∀ n,n <= C.length->sN n (fun i=>f (c i)) = sumL (C.take n) f
 | 0,_=>rfl
 | n + 1,hn=>by
  have e:C.take (n + 1) = C.take n ++ [c n]:=by rw [ĺ,h n (by omega)]; rfl
  rw [ž,Nmd.sum h f n (by omega),e,zH1]
theorem Nmd.sumC {C:List α} {c:Nat->α} (h:Nmd C c) (f:α->Rat):sN C.length (fun i=>f (c i)) = sumL C f:=by
 rw [h.sum f _ (ą _),Đ]
theorem Nmd.inj {C:List α} {c:Nat->α} (h:Nmd C c) (hn:C.Nodup) {i j:Nat} (hi:i < C.length) (hj:j < C.length) (e:c i = c j):i = j:=by
 exact xG2 hn hi ((h i hi).trans ((congrArg some e).trans (h j hj).symm))
theorem Nmd.idx {C:List α} {c:Nat->α} (h:Nmd C c) (hn:C.Nodup) {i:Nat} (hi:i < C.length):C.idxOf (c i) = i:=by
 have l:C.idxOf (c i) < C.length:=List.idxOf_lt_length_of_mem (h.mem hi)
 have a:C[C.idxOf (c i)] = c i:=List.getElem_idxOf l
 exact xG2 hn l ((Č l).trans ((congrArg some a).trans (h i hi).symm))
theorem Nmd.at {C:List α} {c:Nat->α} (h:Nmd C c) {x:α} (hx:x ∈ C):∃ i,i < C.length /\ c i = x:=by
 obtain ⟨i,hi,e⟩:=Ĺ hx
 refine ⟨i,hi,?_⟩
 have:=h i hi
 rw [Č hi,e] at this
 exact (Option.some.inj this).symm
noncomputable def eqM (n:Nat) (c:Nat->α) (R:α->α->Rat) (b:α->Rat):Nat->Nat->Rat:=fun i j=>if j < n then (if c j = c i then 1 else 0) - R (c j) (c i) else b (c i)
theorem yT3 {C:List α} {c:Nat->α} (h:Nmd C c) (hn:C.Nodup) (R:α->α->Rat) (b:α->Rat) (y:Nat->Rat) {i:Nat} (hi:i < C.length) :
  sN C.length (fun j=>eqM C.length c R b i j * y j) = y i - sumL C fun z=>y (C.idxOf z) * R z (c i):=by
 have e1:sN C.length (fun j=>eqM C.length c R b i j * y j) = sN C.length (fun j=>(if j = i then y i else 0) * 1 + (y j * R (c j) (c i)) * (-1)):=zH7 fun j hj=>by
  unfold eqM
  rw [if_pos hj]
  by_cases e:j = i
  ·subst e; rw [if_pos rfl,if_pos rfl]; grind
  ·rw [if_neg e,if_neg fun q=>e (h.inj hn hj hi q)]; grind
 rw [e1,yN6,yN4 (k:=i) hi (fun j _ hne=>if_neg hne),if_pos rfl]
 have e2:sN C.length (fun j=>y j * R (c j) (c i)) = sumL C fun z=>y (C.idxOf z) * R z (c i):=by
  rw [<- h.sumC]
  exact zH7 fun j hj=>by rw [h.idx hn hj]
 rw [e2]; grind
theorem yZ3 {C:List α} {c:Nat->α} (h:Nmd C c) (hn:C.Nodup) {R:α->α->Rat} (S:SubC C R) (l:∀ x ∈ C,Leak C R x) (b:α->Rat) {y:Nat->Rat} (hy:y C.length = 0) (hk:KerM C.length (eqM C.length c R b) y):∀ j,j < C.length->y j = 0:=by
 have key:∀ z ∈ C,y (C.idxOf z) = sumL C fun x=>y (C.idxOf x) * R x z:=fun z hz=>by
  obtain ⟨i,hi,rfl⟩:=h.at hz
  have:=hk i hi
  unfold dotR at this
  rw [ž,yT3 h hn R b y hi,hy] at this
  rw [h.idx hn hi]
  grind
 intro j hj
 have:=zY3 S (v:=fun z=>y (C.idxOf z)) key (l _ (h.mem hj))
 rw [<- h.idx hn hj]; exact this
theorem xH4 {C:List α} {c:Nat->α} (h:Nmd C c) (hn:C.Nodup) (R:α->α->Rat) (b:α->Rat) {x:Nat->Rat} (hs:∀ i,i < C.length->sN C.length (fun j=>eqM C.length c R b i j * x j) = b (c i)):∀ z ∈ C,x (C.idxOf z) = (sumL C fun y=>x (C.idxOf y) * R y z) + b z:=by
 intro z hz
 obtain ⟨i,hi,rfl⟩:=h.at hz
 have:=hs i hi
 rw [yT3 h hn R b x hi] at this
 rw [h.idx hn hi]
 grind
theorem Cd.diff {D:Nat} {r:Rat} (b:Bool) (h:IsM D 1 r):Cd D D ((if b then 1 else 0) - r):=by
 obtain ⟨_,m,hm,e⟩:=h
 have l:m <= D:=by omega
 cases b with
 | true =>
  refine ⟨(D:Int) - m,?_,by omega⟩
  rw [Rat.intCast_sub]
  show _ = (D:Rat) - (m:Rat)
  rw [<- e]
  simp only [if_true]
  grind
 | false =>
  refine ⟨-(m:Int),?_,by omega⟩
  rw [Rat.intCast_neg]
  show _ = -(m:Rat)
  rw [<- e]
  simp only [ĭ,if_false]
  grind
theorem xM7 {C L:List α} {c:Nat->α} (h:Nmd C c) (hCL:∀ x ∈ C,x ∈ L) {D:Nat} {R:α->α->Rat} (G:Good L D R) (hD:0 < D) {b:α->Rat} {E W:Nat} (hE:0 < E) (hEW:E <= W) (hb:∀ z ∈ C,Cd E W (b z)) {a d:Nat} (ha:D <= 2 ^ a) (hd:W <= 2 ^ d):BdB C.length (eqM C.length c R b) a d:=by
 refine ⟨D,E,hD,ha,hE,č hEW hd,fun i hi j hj=>?_,fun i hi=>?_⟩
 ·unfold eqM
  rw [if_pos hj]
  have:=Cd.diff (decide (c j = c i)) (G.part (c j) (hCL _ (h.mem hj)) (c i))
  simp only [decide_eq_true_eq] at this
  exact this.mono ha
 ·unfold eqM
  rw [if_neg (by omega)]
  exact (hb _ (h.mem hi)).mono hd
end
section
variable {α:Type} [DecidableEq α]
theorem zH2 {C C':List α} (hn:C.Nodup) (hn':C'.Nodup) (h:∀ x,x ∈ C ↔ x ∈ C') (f:α->Rat):sumL C f = sumL C' f :=
 Ζ f hn' hn (fun z hz=>(h z).mp hz) fun z hz _=>(h z).mpr hz
theorem Leak.same {C C':List α} {R:α->α->Rat} (hn:C.Nodup) (hn':C'.Nodup) (h:∀ x,x ∈ C ↔ x ∈ C') {x:α} (l:Leak C R x):Leak C' R x:=by
 induction l with
 | now hx hs=>exact .now ((h _).mp hx) (by rw [<- zH2 hn hn' h]; exact hs)
 | via hx hy hp _ ih=>exact .via ((h _).mp hx) ((h _).mp hy) hp ih
theorem zW0 {C C':List α} {R:α->α->Rat} (hn:C.Nodup) (hn':C'.Nodup) (h:∀ x,x ∈ C ↔ x ∈ C'):∀ k,stay C R k = stay C' R k
 | 0=>rfl
 | k + 1=>by
  funext x
  show sumL C _ = sumL C' _
  rw [zW0 hn hn' h k,zH2 hn hn' h]
theorem IsM.mul {P Q k j:Nat} {a b:Rat} (h:IsM P k a) (g:IsM Q j b):IsM (P * Q) (k * j) (a * b):=by
 obtain ⟨h0,m,hm,e⟩:=h
 obtain ⟨g0,n,hn,f⟩:=g
 refine ⟨Ğ h0 g0,m * n,?_,?_⟩
 ·have:=ğ hm hn
  have e:k * P * (j * Q) = k * j * (P * Q):=by rw [Nat.mul_mul_mul_comm]
  rw [<- e]; exact this
 ·rw [Ģ,Ģ,<- e,<- f]; grind
theorem zQ9 {C L:List α} {D:Nat} {R:α->α->Rat} (G:Good L D R) (hC:C.Nodup) (hL:L.Nodup) (hCL:∀ x ∈ C,x ∈ L):∀ k,∀ x ∈ C,IsM (D ^ k) 1 (stay C R k x)
 | 0,x,_=>by rw [Nat.pow_zero]; exact IsM.one 1
 | k + 1,x,hx=>by
  have S:=G.sub hC hL hCL
  have n0:=yA8 S (k + 1) x hx
  have n1:=zG7 S (k + 1) x hx
  have key:∀ l:List α,(∀ y ∈ l,y ∈ C)->∃ m:Nat,(sumL l fun y=>R x y * stay C R k y) * ((D ^ (k + 1):Nat):Rat) = (m:Rat):=by
   intro l
   induction l with
   | nil=>intro _; exact ⟨0,by rw [õ,ō]; rfl⟩
   | cons y l ih =>
    intro hl
    obtain ⟨m,e⟩:=ih fun z hz=>hl z (Ă _ hz)
    have hy:=hl y ă
    obtain ⟨_,p,_,f⟩:=(G.part x (hCL x hx) y).mul (zQ9 G hC hL hCL k y hy)
    refine ⟨p + m,?_⟩
    rw [Í,Rat.add_mul,e,Rat.natCast_add,<- f,į,ļ D]
  obtain ⟨m,e⟩:=key C fun _ h=>h
  refine ⟨n0,m,?_,e⟩
  have e:stay C R (k + 1) x * ((D ^ (k + 1):Nat):Rat) = (m:Rat):=e
  have h2:(m:Rat) <= ((D ^ (k + 1):Nat):Rat):=by
   rw [<- e]
   have c0:(0:Rat) <= ((D ^ (k + 1):Nat):Rat):=by exact_mod_cast Ī _
   have:=Ğ (show 0 <= 1 - stay C R (k + 1) x by grind) c0
   grind
  have h3:m <= D ^ (k + 1):=by exact_mod_cast h2
  omega
end
theorem Cd.bd {D N s:Nat} {r:Rat} (hD:0 < D) (hDN:D <= N) (hN:N <= 2 ^ s) (h:Cd D N r):Bd (s + 1) r:=by
 obtain ⟨m,e,l⟩:=h
 have er:r = Ě m D:=by
  rw [Ļ,Ť]
  have:=yJ4 hD
  grind
 have hp:(2:Nat) ^ s < 2 ^ (s + 1):=by rw [į]; have:=Nat.two_pow_pos s; omega
 rw [er]
 refine Bd.divInt (by omega) (by omega) ?_
 show D < _
 omega
theorem BdB.all {n c k a b:Nat} {M:Nat->Nat->Rat} (h:BdB n M a b) (hc:c < n) (hk:k < n) (hp:M c k ≠ 0) (h1:2 * a + 2 <= 8000) (h2:a + b + 2 <= 8000):∀ i,i < n->∀ j,j < n + 1->Bd 8000 (M i j) /\ Bd 8000 (M c j / M c k) /\ Bd 8000 (M c j / M c k * M i k):=by
 obtain ⟨D,E,h⟩:=h
 obtain ⟨D',E',g,t1,t2⟩:=h.piv hc hk hp
 have e1:2 * (2 ^ a * 2 ^ a) = 2 ^ (2 * a + 1):=by rw [<- ī,ļ,<- į]; congr 1; omega
 have e2:2 * (2 ^ b * 2 ^ a) = 2 ^ (a + b + 1):=by rw [<- ī,ļ,<- į]; congr 1; omega
 intro i hi j hj
 have el:∀ x,pivM M c k c x = M c x / M c k:=fun x=>by unfold pivM; rw [if_pos rfl]
 by_cases q:j < n
 ·refine ⟨((h.co i hi j q).bd h.d0 h.dn (ą _)).mono (by omega),?_,((t1 i hi j q).bd g.d0 g.dn (Nat.le_of_eq e1)).mono (by omega)⟩
  rw [<- el]
  exact ((g.co c hc j q).bd g.d0 g.dn (Nat.le_of_eq e1)).mono (by omega)
 ·have q:j = n:=by omega
  subst q
  refine ⟨((h.la i hi).bd h.e0 h.ew (ą _)).mono (by omega),?_,((t2 i hi).bd g.e0 g.ew (Nat.le_of_eq e2)).mono (by omega)⟩
  rw [<- el]
  exact ((g.la c hc).bd g.e0 g.ew (Nat.le_of_eq e2)).mono (by omega)
theorem BdB.swap {n x y a b:Nat} {M:Nat->Nat->Rat} (h:BdB n M a b) (hx:x < n) (hy:y < n):BdB n (ε M x y) a b:=let ⟨D,E,h⟩:=h; ⟨D,E,h.swap hx hy⟩
end Tc
namespace L2
open PySem PySem.Spec PyProof.Rows
theorem yC2:typeLookup (.type "zip") "keys" = pure none:=by rw [typeLookup_type,builtinLookup_eq_fast]; kernel_rfl
theorem zK9:typeLookup (.type "zip") "__getattr__" = pure none:=by rw [typeLookup_type,builtinLookup_eq_fast]; kernel_rfl
theorem zY6:entryFor table "zip.__getattribute__" = some Builtin.«object.__getattribute__» :=
 entryFor_alias (id':="object.__getattribute__") (by kernel_rfl) (by first | rfl | decide +kernel) (by decide +kernel) (by kernel_rfl)
section
variable {prog:Program} {w:World} {A:Around} {E:Value->Shared->Prop} {h:Heap} {g:Array GenState} {d:Drawn} {t:Nat} {os:OsState} {a:Addr} {fs:Array Value}
noncomputable abbrev ZpO (fs:Array Value):Obj:={ cls:=.type "zip",dict:=none,data:=.fields fs,slots:=#[] }
theorem yC3 {tk:Tok} {Q:PySem.Fin->Shared->Prop} (hh:A.handled = none) (hx:h.get? a = some (ZpO fs)) (hE:∀ h' tk' e,Heap.NewAttrErr h h' e (.ref a) "keys"->E (.ref e) ⟨h',g,d,tk',os⟩) :
  wpAny (model prog w) A (Builtin.«object.__getattribute__» ⟨[.ref a,.str "keys" tk],[]⟩) Q E ⟨h,g,d,t,os⟩:=by
 have hT:(⟨h,g,d,t,os⟩:Shared).TypeIs (.ref a) "zip":=⟨_,hx,rfl⟩
 have f4:=yC2
 repeat (any_goals (first | assumption | wp_step))
 exact wpAny_raiseAttrError hh hE (attrMsg_fits (by decide +kernel) (by size_fits))
theorem yX8 {Q:Option Value->Shared->Prop} (hh:A.handled = none) (hx:h.get? a = some (ZpO fs)) (fin:∀ h' tk,(∀ b o,h.get? b = some o->h'.get? b = some o)->Q none ⟨h',g,d,tk,os⟩) :
  wpAny (model prog w) A (getAttr? (.ref a) "keys") Q E ⟨h,g,d,t,os⟩:=by
 have hT:∀ t',(⟨h,g,d,t',os⟩:Shared).TypeIs (.ref a) "zip":=fun _=>⟨_,hx,rfl⟩
 have hT0:=hT t
 have hT1:=hT (t + 1)
 have f1:=sub_AttributeError
 have f3:=F.slot_zip_getattribute.lookup
 have f4:=F.slot_zip_getattribute.bind (.ref a)
 have f5:=zK9
 unfold getAttr? getAttrBy? getAttrBy
 repeat (any_goals (first | assumption | wp_step))
 refine codeAny_call_builtin F.slot_zip_getattribute.plain zY6 (F.slot_zip_getattribute.check _ _ _ _ _ _ _ _ (hT _) (F.args_zip_getattribute_2 _ _) (yC3 (by first | exact hh | simp [hh]) hx fun h' tk' e hx'=>?_))
 obtain ⟨t',u',he⟩:=hx'.there
 have hk:=hx'.keeps
 show wpAny _ _ (getattributeRaised _ _ _ _ _ _ _) _ _ _
 unfold getattributeRaised
 repeat (any_goals (first | assumption | wp_step))
 exact fin _ _ hk
end
section
variable {P:Program} {w:World} {A:Around} {E:Value->Shared->Prop} {s:Shared}
noncomputable abbrev ZpB (h:Heap) (z ti to' a:Addr) (b:Bool):Prop:=h.get? z = some { cls:=.type "zip",dict:=none,data:=.fields #[rawInt a,.bool b,.bool false,.ref ti,.ref to'],slots:=#[] }
theorem yV4 {z ti to' m n l l' a:Addr} {k:Nat} {b:Bool} {xs ys:Array Value} {x y:Value} {Q:Value->Shared->Prop} (D:ZipApart z ti to' m n l l') (zz:ZpB s.heap z ti to' a b) (ha:∃ o,s.heap.get? a = some o) (hT:IsPair s.heap ti (.ref m) (.ref n))
  (h1:s.heap.IsListIter m l k) (h2:s.heap.IsListIter n l' k) (hl1:s.heap.IsList l xs) (hl2:s.heap.IsList l' ys) (hx:xs[k]? = some x) (hy:ys[k]? = some y)
  (fin:∀ g,ZpB g z ti to' a true->g.IsListIter m l (k + 1)->g.IsListIter n l' (k + 1)->IsPair g s.heap.objs.size x y->(∀ c o,c ≠ z->c ≠ m->c ≠ n->s.heap.get? c = some o->g.get? c = some o)->Q (.ref s.heap.objs.size) { s with heap:=g }) :
  wpAny (model P w) A (Builtin.«zip.__next__» ⟨[.ref z],[]⟩) (fun r s'=>∃ v,r = .done (.ret v) /\ Q v s') E s:=by
 obtain ⟨hp,gg,dr,tk,os⟩:=s
 show wpAny (model P w) _ (field (.ref z) 2 >>= _) _ _ _
 refine wpAny_bind (wpAny_field zz rfl (x:=.bool false) rfl ?_)
 show wpAny (model P w) _ (field (.ref z) 3 >>= _) _ _ _
 refine wpAny_bind (wpAny_field zz rfl (x:=.ref ti) rfl (wpAny_bind (wpAny_seqItems hT rfl ?_)))
 show wpAny (model P w) _ (Builtin.SmallTypes.ownedTupleIsFree (.ref z) >>= _) _ _ _
 obtain ⟨oa,ga⟩:=ha
 refine wpAny_bind ?_
 unfold Builtin.SmallTypes.ownedTupleIsFree
 refine wpAny_bind (wpAny_field zz rfl (x:=rawInt a) rfl ?_)
 show wpAny (model P w) _ (loadIfAlive a >>= _) _ _ _
 refine wpAny_bind (yH4 ga ?_)
 simp only [Option.isNone_some,ĭ,if_false]
 refine wpAny_bind (wpAny_field zz rfl (x:=.bool b) rfl ?_)
 have go:∀ g1:Heap,ZpB g1 z ti to' a true->Heap.SameBut z hp g1->∀ (f:Value->(Option PySem.Fin × Array Value)->Sem (ForInStep (Option PySem.Fin × Array Value))) (fe:(Option PySem.Fin × Array Value)->Sem PySem.Fin),
   (∀ (it:Addr) (u:Option PySem.Fin × Array Value) (q:Value) (Z:ForInStep (Option PySem.Fin × Array Value)->Shared->Prop) (s1:Shared),wpAny (model P w) A (Builtin.SmallTypes.nextOf (.ref it)) (fun v s2=>Z (.yield (none,u.2.push v)) s2) E s1->wpAny (model P w) A (f (.ref it) u) Z E s1) ->
   (∀ vs:Array Value,fe (none,vs) = newTuple vs.toList >>= fun r=>ret r) ->
   wpAny (model P w) A (forIn #[Value.ref m,Value.ref n] (none,#[]) f >>= fe) (fun r s'=>∃ v,r = .done (.ret v) /\ Q v s') E ⟨g1,gg,dr,tk,os⟩:=by
  intro g1 z1 b1 f fe hf hfe
  have e:forIn #[Value.ref m,Value.ref n] ((none,#[]):Option PySem.Fin × Array Value) f = forIn [Value.ref m,Value.ref n] ((none,#[]):Option PySem.Fin × Array Value) f:=by simp
  rw [e]
  simp only [List.forIn_cons,List.forIn_nil]
  refine wpAny_bind (wpAny_bind (hf m _ .none _ _ (wpAny_nextOf_list_item (h1.extBut b1.extBut D.i1z) (hl1.extBut b1.extBut D.l1z) hx fun g2 i2 b2=>?_)))
  refine wpAny_bind (hf n _ .none _ _ (wpAny_nextOf_list_item ((h2.extBut b1.extBut D.i2z).extBut b2.extBut D.i12.symm) ((hl2.extBut b1.extBut D.l2z).extBut b2.extBut D.l2i1) hy fun g3 i3 b3=>?_))
  refine wpAny_pure ?_
  rw [hfe]
  refine wpAny_bind (wpAny_newTuple (hsz:=(show (2:Nat) <= sizeLine by decide)) ?_)
  have es:g3.objs.size = hp.objs.size:=by rw [b3.1,b2.1,b1.1]
  have k3:∀ c o,c ≠ z->c ≠ m->c ≠ n->hp.get? c = some o->g3.get? c = some o:=fun c o c1 c2 c3 e=>b3.extBut _ _ c3 (b2.extBut _ _ c2 (b1.extBut _ _ c1 e))
  have z3:ZpB g3 z ti to' a true:=b3.extBut _ _ D.i2z.symm (b2.extBut _ _ D.i1z.symm z1)
  refine wpAny_pure ⟨_,rfl,?_⟩
  show Q (.ref g3.objs.size) _
  rw [es]
  refine fin _ (Ĉ _ z3) ((i2.extBut b3.extBut D.i12).at fun o q=>Ĉ _ q) (i3.at fun o q=>Ĉ _ q) ?_ fun c o c1 c2 c3 q=>Ĉ _ (k3 c o c1 c2 c3 q)
  show IsPair _ hp.objs.size x y
  rw [<- es]
  exact Ĕ _ rfl
 cases b with
 | true =>
  refine wpAny_pure ?_
  simp only [ĭ,if_false]
  refine go hp zz ⟨rfl,fun _ _=>rfl⟩ _ _ (fun it u q Z s1 h=>?_) fun vs=>rfl
  refine wpAny_bind (wpAny_holding ?_)
  show wpAny (model P w) A (Builtin.SmallTypes.nextOf (.ref it) >>= _) _ _ _
  exact wpAny_bind (wpAny_mono h (fun v s2 z=>wpAny_pure (wpAny_pure z)) fun _ _ z=>z)
 | false =>
  refine wpAny_bind (wpAny_setField_rec zz (by simp) fun g1 z1 b1=>?_)
  replace z1:ZpB g1 z ti to' a true:=z1
  refine wpAny_pure ?_
  simp only [ĭ,if_false]
  refine go g1 z1 b1 _ _ (fun it u q Z s1 h=>?_) fun vs=>rfl
  refine wpAny_bind (wpAny_holding ?_)
  show wpAny (model P w) A (Builtin.SmallTypes.nextOf (.ref it) >>= _) _ _ _
  exact wpAny_bind (wpAny_mono h (fun v s2 z=>wpAny_pure (wpAny_pure z)) fun _ _ z=>z)
theorem yV5 {z ti to' m n l l' a:Addr} {k:Nat} {b:Bool} {xs:Array Value} {Q:PySem.Fin->Shared->Prop} (hh:A.handled = none) (D:ZipApart z ti to' m n l l') (zz:ZpB s.heap z ti to' a b) (ha:∃ o,s.heap.get? a = some o) (hT:IsPair s.heap ti (.ref m) (.ref n))
  (h1:s.heap.IsListIter m l k) (hl1:s.heap.IsList l xs) (hx:xs[k]? = none)
  (fin:∀ g e,(∀ c o,c ≠ z->c ≠ m->s.heap.get? c = some o->g.get? c = some o)->(∃ o,g.get? e = some o /\ o.cls = .type "StopIteration")->E (.ref e) { s with heap:=g }) :
  wpAny (model P w) A (Builtin.«zip.__next__» ⟨[.ref z],[]⟩) Q E s:=by
 obtain ⟨hp,gg,dr,tk,os⟩:=s
 show wpAny (model P w) _ (field (.ref z) 2 >>= _) _ _ _
 refine wpAny_bind (wpAny_field zz rfl (x:=.bool false) rfl ?_)
 show wpAny (model P w) _ (field (.ref z) 3 >>= _) _ _ _
 refine wpAny_bind (wpAny_field zz rfl (x:=.ref ti) rfl (wpAny_bind (wpAny_seqItems hT rfl ?_)))
 show wpAny (model P w) _ (Builtin.SmallTypes.ownedTupleIsFree (.ref z) >>= _) _ _ _
 obtain ⟨oa,ga⟩:=ha
 refine wpAny_bind ?_
 unfold Builtin.SmallTypes.ownedTupleIsFree
 refine wpAny_bind (wpAny_field zz rfl (x:=rawInt a) rfl ?_)
 show wpAny (model P w) _ (loadIfAlive a >>= _) _ _ _
 refine wpAny_bind (yH4 ga ?_)
 simp only [Option.isNone_some,ĭ,if_false]
 refine wpAny_bind (wpAny_field zz rfl (x:=.bool b) rfl ?_)
 have go:∀ g1:Heap,Heap.SameBut z hp g1->∀ (f:Value->(Option PySem.Fin × Array Value)->Sem (ForInStep (Option PySem.Fin × Array Value))) (fe:(Option PySem.Fin × Array Value)->Sem PySem.Fin),
   (∀ (it:Addr) (u:Option PySem.Fin × Array Value) (Z:ForInStep (Option PySem.Fin × Array Value)->Shared->Prop) (s1:Shared),wpAny (model P w) A (Builtin.SmallTypes.nextOf (.ref it)) (fun v s2=>Z (.yield (none,u.2.push v)) s2) E s1->wpAny (model P w) A (f (.ref it) u) Z E s1) ->
   wpAny (model P w) A (forIn #[Value.ref m,Value.ref n] (none,#[]) f >>= fe) Q E ⟨g1,gg,dr,tk,os⟩:=by
  intro g1 b1 f fe hf
  have e:forIn #[Value.ref m,Value.ref n] ((none,#[]):Option PySem.Fin × Array Value) f = forIn [Value.ref m,Value.ref n] ((none,#[]):Option PySem.Fin × Array Value) f:=by simp
  rw [e]
  simp only [List.forIn_cons,List.forIn_nil]
  exact wpAny_bind (wpAny_bind (hf m _ _ _ (wpAny_nextOf_list_end hh (h1.extBut b1.extBut D.i1z) (hl1.extBut b1.extBut D.l1z) hx fun g2 e2 b2 h2=>fin g2 e2 (fun c o c1 c2 q=>b2 c o c2 (b1.extBut c o c1 q)) h2)))
 cases b with
 | true =>
  refine wpAny_pure ?_
  simp only [ĭ,if_false]
  refine go hp ⟨rfl,fun _ _=>rfl⟩ _ _ (fun it u Z s1 h=>?_)
  refine wpAny_bind (wpAny_holding ?_)
  show wpAny (model P w) A (Builtin.SmallTypes.nextOf (.ref it) >>= _) _ _ _
  exact wpAny_bind (wpAny_mono h (fun v s2 z=>wpAny_pure (wpAny_pure z)) fun _ _ z=>z)
 | false =>
  refine wpAny_bind (wpAny_setField_rec zz (by simp) fun g1 z1 b1=>?_)
  refine wpAny_pure ?_
  simp only [ĭ,if_false]
  refine go g1 b1 _ _ (fun it u Z s1 h=>?_)
  refine wpAny_bind (wpAny_holding ?_)
  show wpAny (model P w) A (Builtin.SmallTypes.nextOf (.ref it) >>= _) _ _ _
  exact wpAny_bind (wpAny_mono h (fun v s2 z=>wpAny_pure (wpAny_pure z)) fun _ _ z=>z)
noncomputable def ZpG (h:Heap) (z ti to' m n d:Addr):Prop:=(IsZip h z ti to' .none /\ ∃ u v,IsPair h to' u v) \/ ∃ a b,ZpB h z ti to' a b /\ (∃ o,h.get? a = some o) /\ a ≠ d /\ a ≠ z /\ a ≠ m /\ a ≠ n
theorem yQ3 {z ti to' m n l l' d:Addr} {k:Nat} {xs ys:Array Value} {x y:Value} {Q:Option Value->Shared->Prop} (D:ZipApart z ti to' m n l l') (zz:ZpG s.heap z ti to' m n d) (dlt:d < s.heap.objs.size) (hT:IsPair s.heap ti (.ref m) (.ref n))
  (h1:s.heap.IsListIter m l k) (h2:s.heap.IsListIter n l' k) (hl1:s.heap.IsList l xs) (hl2:s.heap.IsList l' ys) (hx:xs[k]? = some x) (hy:ys[k]? = some y)
  (fin:∀ g,ZpG g z ti to' m n d->g.IsListIter m l (k + 1)->g.IsListIter n l' (k + 1)->IsPair g s.heap.objs.size x y->(∀ c o,c ≠ z->c ≠ to'->c ≠ m->c ≠ n->s.heap.get? c = some o->g.get? c = some o)->Q (some (.ref s.heap.objs.size)) { s with heap:=g }) :
  wpAny (model P w) A (pyNext (.ref z)) Q E s:=by
 rcases zz with ⟨zz,u,v,po⟩ | ⟨a,b,zz,ha,had,haz,ham,han⟩
 ·exact wpAny_pyNext_zip_item D zz hT po h1 h2 hl1 hl2 hx hy fun g jz jo j1 j2 jt hsz kp=>fin g (.inr ⟨_,false,jz,⟨_,jt⟩,Ĩ dlt,Ĩ (ć zz),Ĩ (let ⟨_,q,_⟩:=h1; ć q),Ĩ (let ⟨_,q,_⟩:=h2; ć q)⟩) j1 j2 jt kp
 ·have ty:s.TypeIs (.ref z) "zip":=⟨_,zz,rfl⟩
  unfold pyNext
  refine wpAny_bind (wpAny_attempt (wpAny_callSpecial?_slot (name:=Str.ofString "__next__") ty F.slot_zip_next (wpAny_call_entry F.slot_zip_next ty F.entry_zip_next
   (yV4 D zz ha hT h1 h2 hl1 hl2 hx hy fun g a1 a2 a3 a4 a5=>wpAny_pure (fin g (.inr ⟨a,true,a1,ha.imp fun o q=>a5 a o haz ham han q,had,haz,ham,han⟩) a2 a3 a4 fun c o c1 _ c3 c4 q=>a5 c o c1 c3 c4 q)) (F.args_zip_next_1 _))))
theorem yZ4 {z ti to' m n l l' d:Addr} {k:Nat} {xs ys:Array Value} {Q:Option Value->Shared->Prop} (hh:A.handled = none) (D:ZipApart z ti to' m n l l') (zz:ZpG s.heap z ti to' m n d) (hT:IsPair s.heap ti (.ref m) (.ref n))
  (h1:s.heap.IsListIter m l k) (h2:s.heap.IsListIter n l' k) (hl1:s.heap.IsList l xs) (hl2:s.heap.IsList l' ys) (hx:xs[k]? = none)
  (fin:∀ g,(∀ c o,c ≠ z->c ≠ to'->c ≠ m->c ≠ n->s.heap.get? c = some o->g.get? c = some o)->Q none { s with heap:=g }) :
  wpAny (model P w) A (pyNext (.ref z)) Q E s:=by
 rcases zz with ⟨zz,u,v,po⟩ | ⟨a,b,zz,ha,_⟩
 ·exact wpAny_pyNext_zip_end hh D zz hT po h1 h2 hl1 hl2 (.inl hx) fin
 ·have ty:s.TypeIs (.ref z) "zip":=⟨_,zz,rfl⟩
  unfold pyNext
  refine wpAny_bind (wpAny_attempt (wpAny_callSpecial?_slot (name:=Str.ofString "__next__") ty F.slot_zip_next (wpAny_call_entry F.slot_zip_next ty F.entry_zip_next (yV5 hh D zz ha hT h1 hl1 hx fun g e kp he=>?_) (F.args_zip_next_1 _))))
  obtain ⟨o,ho,hc⟩:=he
  exact wpAny_bind (wpAny_isInstance (T:="StopIteration") (b:=true) ⟨o,ho,hc⟩ isSubtype_stop (wpAny_pure (fin _ fun c o c1 _ c3 _ q=>kp c o c1 c3 q)))
end
noncomputable def zkV (ks:List Str) (us:List Value) (i:Nat):List (Key × Value):=((ks.zip us).take i).map fun p=>(.inr p.1,p.2)
theorem xH9 (ks:List Str) (us:List Value) (i:Nat):(zkV ks us i).length <= i:=by
 unfold zkV; rw [ā,ē]; omega
theorem xD6 {ks:List Str} {us:List Value} {i:Nat} {x:Str} {u:Value} (nd:ks.Nodup) (hk:ks[i]? = some x) (hu:us[i]? = some u):stored (zkV ks us i) (.inr x) u = zkV ks us (i + 1):=by
 have hz:(ks.zip us)[i]? = some (x,u):=by
  rw [List.getElem?_zip_eq_some]; exact ⟨hk,hu⟩
 unfold stored
 rw [if_neg]
 ·unfold zkV
  rw [ĺ,hz,ė]; rfl
 ·intro z
  rw [š] at z
  obtain ⟨kv,hm,e⟩:=z
  unfold zkV at hm
  obtain ⟨⟨y,q⟩,h1,h2⟩:=ĕ.mp hm
  have e:kv.1 = (.inr x:Key):=of_decide_eq_true e
  rw [<- h2] at e
  have e:y = x:=Sum.inr.inj e
  obtain ⟨j,hj,ej⟩:=Ĺ h1
  rw [ē] at hj
  have hj1:(ks.zip us)[j]? = some (y,q):=by
   rw [List.getElem_take] at ej
   rw [Č (by omega),ej]
  have hj2:=(List.getElem?_zip_eq_some.mp hj1).1
  rw [e] at hj2
  obtain ⟨l1,e1⟩:=Ą.mp hj2
  obtain ⟨l2,e2⟩:=Ą.mp hk
  exact Ţ.mp nd j i l1 l2 (by omega) (e1.trans e2.symm)
theorem yL6:∀ {vs:List Value} {ks:List Str} {i:Nat} {v:Value},StrsAre vs ks->vs[i]? = some v->∃ x t,ks[i]? = some x /\ v = .str x t
 | _,_,i,v,.nil,h=>by simp at h
 | _,_,0,v,.cons y t _,h=>⟨y,t,rfl,by simpa using h.symm⟩
 | _,_,i + 1,v,.cons y t r,h=>by
  obtain ⟨x,t',h1,h2⟩:=yL6 (i:=i) r (by simpa using h)
  exact ⟨x,t',by simpa using h1,h2⟩
section
variable {P:Program} {w:World} {A:Around} {E:Value->Shared->Prop} {s:Shared}
theorem yC7 {R:Result->Shared->Prop} {z ti to' m n l l' d:Addr} {xs ys:Array Value} {ks:List Str} (hh:A.handled = none) (Da:ZipApart z ti to' m n l l') (nd:ks.Nodup) (hk:StrsAre xs.toList ks) (hy:ys.size = xs.size) (hz:xs.size < 4000)
  (d1:d ≠ z) (d2:d ≠ ti) (d3:d ≠ to') (d4:d ≠ m) (d5:d ≠ n) (d6:d ≠ l) (d7:d ≠ l') (t1:ti ≠ z) (t2:ti ≠ m) (t3:ti ≠ n) (t4:ti ≠ to') :
  ∀ (k i:Nat) (s:Shared),i + k = xs.size->ZpG s.heap z ti to' m n d->IsPair s.heap ti (.ref m) (.ref n)->s.heap.IsListIter m l i->s.heap.IsListIter n l' i->s.heap.IsList l xs->s.heap.IsList l' ys->s.heap.DictOf (æ P w) d (zkV ks ys.toList i) ->
   (∀ g tk,g.DictOf (æ P w) d (zkV ks ys.toList xs.size)->(∀ c o,c ≠ z->c ≠ to'->c ≠ m->c ≠ n->c ≠ d->s.heap.get? c = some o->g.get? c = some o)->R (.ok (.ret .none)) { s with heap:=g,toks:=tk }) ->
   codeAny (model P w) A (.builtin "dict.update.loop" ⟨[.ref d,.ref z,rawInt i,.none],[]⟩) R s:=by
 intro k
 induction k with
 | zero =>
  intro i s hi zz hT h1 h2 hl1 hl2 hd fin
  have:i = xs.size:=by omega
  subst this
  refine codeAny_builtin zY7 ?_
  rw [Around.under_plainId zH8 _]
  show wpAny (model P w) A.in1 (pyNext (.ref z) >>= _) _ _ s
  refine wpAny_bind (yZ4 (by first | exact hh | simp [hh]) Da zz hT h1 h2 hl1 hl2 (by simp) fun g b1=>?_)
  show wpAny (model P w) A.in1 (Builtin.Dict.addKeywords d [] >>= _) _ _ _
  refine wpAny_bind (wpAny_pure (wpAny_pure (fin g s.toks ?_ fun c o c1 c2 c3 c4 _ q=>b1 c o c1 c2 c3 c4 q)))
  obtain ⟨o,es,ep,ho,r⟩:=hd
  exact ⟨o,es,ep,b1 d o d1 d3 d4 d5 ho,r⟩
 | succ k ih =>
  intro i s hi zz hT h1 h2 hl1 hl2 hd fin
  refine codeAny_builtin zY7 ?_
  rw [Around.under_plainId zH8 _]
  show wpAny (model P w) A.in1 (pyNext (.ref z) >>= _) _ _ s
  obtain ⟨x,hx⟩:∃ x,xs[i]? = some x:=⟨_,Array.getElem?_eq_getElem (by omega)⟩
  obtain ⟨y,hy1⟩:∃ y,ys[i]? = some y:=⟨_,Array.getElem?_eq_getElem (by omega)⟩
  obtain ⟨x0,t0,hk0,rfl⟩:=yL6 hk (by simpa using hx)
  refine wpAny_bind (yQ3 Da zz (by obtain ⟨_,_,_,ho,_⟩:=hd; exact ć ho) hT h1 h2 hl1 hl2 hx hy1 fun g a1 a2 a3 a4 a5=>?_)
  obtain ⟨hp,gg,dr,tk,os⟩:=s
  have hd1:g.DictOf (æ P w) d (zkV ks ys.toList i):=by
   obtain ⟨o,es,ep,ho,r⟩:=hd
   exact ⟨o,es,ep,a5 d o d1 d3 d4 d5 ho,r⟩
  have a4:g.get? hp.objs.size = some { cls:=.type "tuple",data:=.seq #[.str x0 t0,y] }:=a4
  show wpAny (model P w) A.in1 (holding [.ref hp.objs.size] _ >>= _) _ _ ⟨g,gg,dr,tk,os⟩
  refine wpAny_bind (wpAny_holding (wpAny_bind (wpAny_tryCatch (yI8 a4 ?_))))
  show wpAny (model P w) A.in1 (holding [.str x0 t0,y] (dictSet d (.str x0 t0) y)) _ _ _
  refine wpAny_holding (wpAny_dictSet_pairs (zO0 P w x0 t0) hd1 (fun h2' hd2 s2=>?_) (č (xH9 _ _ _) (č (m:=4000) (by omega) (by decide))))
  rw [xD6 nd hk0 (by simpa using hy1)] at hd2
  replace s2:Heap.SameBut d g h2':=s2
  refine wpAny_pure ⟨plainId_quiet zH8 _,?_⟩
  have hTg:IsPair g ti (.ref m) (.ref n):=a5 _ _ t1 t4 t2 t3 hT
  refine ih (i + 1) ⟨h2',gg,dr,_,os⟩ (by omega) ?_ (s2.extBut _ _ (Ne.symm d2) hTg) (a2.extBut s2.extBut (Ne.symm d4)) (a3.extBut s2.extBut (Ne.symm d5)) ?_ ?_ hd2 fun g3 tk3 hd3 k3=>fin g3 tk3 hd3 fun c o c1 c2 c3 c4 c5 q=>k3 c o c1 c2 c3 c4 c5 (s2.extBut c o c5 (a5 c o c1 c2 c3 c4 q))
  ·rcases a1 with ⟨q1,u,v,q2⟩ | ⟨a,b,q,⟨o,qo⟩,q2,q3,q4,q5⟩
   ·exact .inl ⟨s2.extBut _ _ (Ne.symm d1) q1,u,v,s2.extBut _ _ (Ne.symm d3) q2⟩
   ·exact .inr ⟨a,b,s2.extBut _ _ (Ne.symm d1) q,⟨o,s2.extBut _ _ q2 qo⟩,q2,q3,q4,q5⟩
  ·exact (hl1.at fun o q=>a5 l o Da.l1z Da.l1TO Da.l1i1 Da.l1i2 q).extBut s2.extBut (Ne.symm d6)
  ·exact (hl2.at fun o q=>a5 l' o Da.l2z Da.l2TO Da.l2i1 Da.l2i2 q).extBut s2.extBut (Ne.symm d7)
theorem zU6 {z ti to' m n l l':Addr} {xs ys:Array Value} {ks:List Str} {Q:Value->Shared->Prop} (hh:A.handled = none) (Da:ZipApart z ti to' m n l l') (nd:ks.Nodup) (hk:StrsAre xs.toList ks) (hy:ys.size = xs.size) (hz:xs.size < 4000)
  (zz:IsZip s.heap z ti to' .none) (hT:IsPair s.heap ti (.ref m) (.ref n)) (hO:∃ u v,IsPair s.heap to' u v) (h1:s.heap.IsListIter m l 0) (h2:s.heap.IsListIter n l' 0) (hl1:s.heap.IsList l xs) (hl2:s.heap.IsList l' ys)
  (fin:∀ g tk,g.DictOf (æ P w) s.heap.objs.size (zkV ks ys.toList xs.size)->(∀ c o,c ≠ z->c ≠ to'->c ≠ m->c ≠ n->s.heap.get? c = some o->g.get? c = some o)->Q (.ref s.heap.objs.size) { s with heap:=g,toks:=tk }) :
  wpAny (model P w) A (call (.type "dict") [.ref z]) Q E s:=by
 refine callType_codes (Q₁:=fun obj s₁=>obj = .ref s.heap.objs.size /\ s₁ = { s with heap:=s.heap.push { cls:=.type "dict",data:=.dict #[] } }) F.kt_called_dict (F.kt_typeCall_dict_1 _) F.entry_dict_init (kt_code_dict_new _ ⟨rfl,rfl⟩) ?_
 rintro obj s₁ ⟨rfl,rfl⟩
 obtain ⟨hp,gg,dr,tk,os⟩:=s
 have hnew:(hp.push { cls:=.type "dict",data:=.dict #[] }).DictOf (æ P w) hp.objs.size []:=Heap.DictOf.new hp
 have k1:∀ c o,hp.get? c = some o->(hp.push { cls:=.type "dict",data:=.dict #[] }).get? c = some o:=fun c o q=>Ĉ _ q
 have z1:IsZip (hp.push { cls:=.type "dict",data:=.dict #[] }) z ti to' .none:=k1 _ _ zz
 have ty1:(⟨hp.push { cls:=.type "dict",data:=.dict #[] },gg,dr,tk,os⟩:Shared).TypeIs (.ref z) "zip":=⟨_,z1,rfl⟩
 have lz:z < hp.objs.size:=ć zz
 have lti:ti < hp.objs.size:=ć hT
 obtain ⟨u,v,hO⟩:=hO
 have lto:to' < hp.objs.size:=ć hO
 have lm:m < hp.objs.size:=by obtain ⟨_,q,_⟩:=h1; exact ć q
 have ln:n < hp.objs.size:=by obtain ⟨_,q,_⟩:=h2; exact ć q
 have ll:l < hp.objs.size:=by obtain ⟨_,q,_⟩:=hl1; exact ć q
 have ll':l' < hp.objs.size:=by obtain ⟨_,q,_⟩:=hl2; exact ć q
 refine ⟨hnew.typeIs,F.args_dict_init_2 _ _,?_⟩
 unfold Builtin.«dict.__init__»
 refine wpAny_bind ?_
 unfold Builtin.Dict.selfAndRest
 refine wpAny_bind (wpAny_notOrdered_dict hnew.typeIs (wpAny_pure ?_))
 show wpAny (model P w) _ (Builtin.Dict.updateFrom "dict.__init__" hp.objs.size (.ref z) [] .none) _ _ ⟨hp.push { cls:=.type "dict",data:=.dict #[] },gg,dr,tk,os⟩
 generalize hp.push { cls:=.type "dict",data:=.dict #[] } = h1' at hnew z1 ty1 k1 ⊢
 unfold Builtin.Dict.updateFrom
 refine wpAny_bind (wpAny_typeOf ty1 ?_)
 rw [if_pos (by decide)]
 refine wpAny_bind (yX8 (by first | exact hh | simp [hh]) z1 fun h2' t2 k2=>?_)
 rw [if_pos (show (none:Option Value).isNone = true from rfl)]
 have z2:IsZip h2' z ti to' .none:=k2 _ _ z1
 refine wpAny_bind (wpAny_rule (wpAny_bind (wpAny_pyIter_zip z2 (wpAny_pure ⟨plainId_quiet zH8 _,?_⟩))))
 refine yC7 (by first | exact hh | simp [hh]) Da nd hk hy hz (Ĩ lz) (Ĩ lti) (Ĩ lto) (Ĩ lm) (Ĩ ln) (Ĩ ll) (Ĩ ll') Da.TIz Da.TIi1 Da.TIi2 Da.TITO xs.size 0 ⟨h2',gg,dr,t2,os⟩ (Nat.zero_add _) (.inl ⟨z2,u,v,k2 _ _ (k1 _ _ hO)⟩) (k2 _ _ (k1 _ _ hT)) ?_ ?_ ?_ ?_ ?_ fun g tk3 hd kp=>?_
 ·obtain ⟨o,q,r⟩:=h1; exact ⟨o,k2 _ _ (k1 _ _ q),r⟩
 ·obtain ⟨o,q,r⟩:=h2; exact ⟨o,k2 _ _ (k1 _ _ q),r⟩
 ·obtain ⟨o,q,r⟩:=hl1; exact ⟨o,k2 _ _ (k1 _ _ q),r⟩
 ·obtain ⟨o,q,r⟩:=hl2; exact ⟨o,k2 _ _ (k1 _ _ q),r⟩
 ·obtain ⟨o,es,ep,q,r⟩:=hnew; exact ⟨o,es,ep,k2 _ _ q,r⟩
 ·exact ⟨rfl,fin g tk3 hd fun c o c1 c2 c3 c4 q=>kp c o c1 c2 c3 c4 (Ħ (ć q)) (k2 _ _ (k1 _ _ q))⟩
end
noncomputable def zipV (ks:List Str) (ys:List V):List (Key × V):=(ks.zip ys).map fun p=>(.inr p.1,p.2)
theorem yD5:∀ {ks:List Str} {ys:List V} {us:List Value},Vals ys us->KV (zipV ks ys) ((ks.zip us).map fun p=>(.inr p.1,p.2))
 | [],_,_,_=>.nil
 | _ :: _,_,_,.nil=>.nil
 | k :: ks,_,_,.cons a r=>.cons ⟨rfl,a⟩ (yD5 (ks:=ks) r)
noncomputable def yV9 (K:Ā) (ta:TA):TE:=fun σ H Q=>ta σ H fun vs H1=>∃ (a b:Addr) (ks:List Str) (ys:List V),vs = [V.ref a,V.ref b] /\ SqL K H1 a (ks.map V.str) /\ SqL K H1 b ys /\ ks.Nodup /\ ys.length = ks.length /\ ks.length < 4000 /\ ∀ p,H1 p = none->Q (.ref p) (upd H1 p (.dK (zipV ks ys)))
theorem yI5 {X:Cx} {K:Ā} {a b:Expr} {ta:TA} {p p2 pos pos2:Pos} (hK:X.K = K) (hc:X.calm = true) (hg:Gl X "dict") (hm:X.mg "dict" = none) (hg2:Gl X "zip") (hm2:X.mg "zip" = none) (ha:PA X [a,b] ta)
  (hs:starEach [a,b] X.env = (false,eval a X.env) :: starEach [b] X.env:=by rfl) (hs2:starEach [b] X.env = [(false,eval b X.env)]:=by rfl) (hs3:starEach [.Call (.Name "zip" p2) [a,b] [] pos2] X.env = [(false,eval (.Call (.Name "zip" p2) [a,b] [] pos2) X.env)]:=by rfl) :
  PE X (.Call (.Name "dict" p) [.Call (.Name "zip" p2) [a,b] [] pos2] [] pos) (yV9 K ta):=by
 subst hK
 intro pins s σ H Q I h
 refine Call_ (η I hg hm zK5 (PyProof.Rows.callWith_type1 ?_ hs3 rfl))
 rw [hs3]
 show wpAny _ _ (spliced ((false,eval (.Call (.Name "zip" p2) [a,b] [] pos2) X.env) :: [])) _ _ s
 refine Calls.spliced_cons (Call_ (η I hg2 hm2 xD3 (PyProof.Rows.callWith_type1 (thn (ha pos2 pins s σ H _ I h) fun us s1 ⟨vs,H1,I1,r1,q1⟩=>?_) hs (by rw [hs2]; rfl))))
 obtain ⟨b1,b2,ks,ys,rfl,hq1,hq2,nd,hlen,h4,q⟩:=q1
 obtain ⟨u,u',rfl,ru,ru'⟩:=xD7 r1
 cases ru
 cases ru'
 obtain ⟨its1,rv1,p1,hz1⟩:=I1.list hq1
 obtain ⟨its2,rv2,p2',hz2⟩:=I1.list hq2
 have l1:its1.length = ks.length:=by rw [<- rv1.length,ā]
 have l2:its2.length = ks.length:=by rw [<- rv2.length]; exact hlen
 have lt1:b1 < s1.heap.objs.size:=by obtain ⟨_,q,_⟩:=p1.isList; exact ć q
 have lt2:b2 < s1.heap.objs.size:=by obtain ⟨_,q,_⟩:=p2'.isList; exact ć q
 refine call_zip_2 p1.isList p2'.isList fun h' jz jt jo j1 j2 hsz kp=>Calls.spliced_nil ?_
 have ea:h'.objs.size = s1.heap.objs.size + 5:=hsz
 refine zU6 (xs:=its1.toArray) (ys:=its2.toArray) (ks:=ks) (I1.ok.hd hc) (zipApart_new lt1 lt2) nd (by simpa using zE1 rv1) (by simp [l1,l2]) (by rw [ę]; omega) jz jt ⟨_,_,jo⟩ j1 j2 ?_ ?_ fun g tk hd kk=>?_
 ·obtain ⟨o,q,r⟩:=p1.isList; exact ⟨o,kp _ _ q,r⟩
 ·obtain ⟨o,q,r⟩:=p2'.isList; exact ⟨o,kp _ _ q,r⟩
 have zl:(zipV ks ys).length <= 4000:=by unfold zipV; rw [ā,List.length_zip]; omega
 have ne:∀ {b:Addr} {ob:Obj} {j:Nat},s1.heap.get? b = some ob->b ≠ s1.heap.objs.size + j:=fun e=>Ħ (ď (ć e) (Nat.le_add_right _ _))
 refine ⟨.ref _,_,I1.laid (a:=h'.objs.size) (o:=.dK (zipV ks ys)) (t':=tk) (fun b ob e=>kk b ob (ne (j:=4) e) (ne (j:=3) e) (ne (j:=0) e) (ne (j:=1) e) (kp b ob e)) (by rw [ea]; exact Nat.le_add_right _ _) ⟨č zl (by decide),?_,_,yD5 rv2,?_⟩,rfl,q _ (I1.hok.fresh (by rw [ea]; exact Nat.le_add_right _ _))⟩
 ·refine beq_eq_false_iff_ne.mpr (Ĩ ?_)
  rw [ea]
  exact ď I1.big (Nat.le_add_right _ _)
 ·have hd:g.DictOf (æ X.prog X.w) h'.objs.size (zkV ks its2.toArray.toList its1.toArray.size):=hd
  unfold zkV at hd
  rw [List.take_of_length_le (by rw [List.length_zip,ę]; omega)] at hd
  simpa using hd
theorem zF3:∀ {vs:List Value} {ys:List Str},StrsAre vs ys->Vals (ys.map V.str) vs
 | _,_,.nil=>.nil
 | _,_,.cons y t r=>.cons ⟨t,rfl⟩ (zF3 r)
theorem zW6:∀ (p:Str) (l:List Str),risingS p l = true->(p :: l).Pairwise fun a b=>ltCps b.cps.toList a.cps.toList = false
 | p,[],_=>by simp
 | p,x :: l,h=>by
  rw [risingS,ŗ,Bool.not_eq_true'] at h
  have ih:=zW6 x l h.2
  rw [ř]
  refine ⟨fun b hb=>?_,ih⟩
  rcases Ē.mp hb with e | e
  ·rw [e]; exact h.1
  ·have h1:=(ř.mp ih).1 b e
   have h0:=h.1
   rw [ltCps_eq] at h0 h1 ⊢
   have h0:=of_decide_eq_false h0
   have h1:=of_decide_eq_false h1
   exact decide_eq_false (List.not_lt.mpr (List.le_trans (List.not_lt.mp h0) (List.not_lt.mp h1)))
theorem zW4:∀ {l:List Str},sortedS l = true->l.Pairwise fun a b=>ltCps b.cps.toList a.cps.toList = false
 | [],_=>.nil
 | p :: l,h=>zW6 p l h
theorem yZ6 (a b:Str) (h1:ltCps b.cps.toList a.cps.toList = false) (h2:ltCps a.cps.toList b.cps.toList = false):a = b:=by
 rw [ltCps_eq] at h1 h2
 have e:a.cps.toList = b.cps.toList:=List.le_antisymm (List.not_lt.mp (of_decide_eq_false h1)) (List.not_lt.mp (of_decide_eq_false h2))
 obtain ⟨⟨x⟩⟩:=a
 obtain ⟨⟨y⟩⟩:=b
 cases (show x = y from e)
 rfl
theorem yB1 {l1 l2:List Str} (p:l1.Perm l2) (h1:sortedS l1 = true) (h2:sortedS l2 = true):l1 = l2:=_root_.Tc.sort_same yZ6 p (zW4 h1) (zW4 h2)
section
variable {P0:Program} {w0:World} {A0:Around} {E0':Value->Shared->Prop} {s0:Shared} {T0:String} {r0 d0:Addr} {n0:Nat} {F0:Nat->Value->Prop} {G0:Heap->Prop}
theorem zZ3 {R0:List Value->Shared->Prop} (S:PySem.W.KdlSrc P0 w0 T0 r0 d0 n0 F0 G0) (hh:A0.handled = none) (ok:G0 s0.heap) (hn:n0 <= sizeLine)
  (fin:∀ (h1:Heap) (t1:Nat) (ac:Array Value),(∀ b o,s0.heap.get? b = some o->h1.get? b = some o)->s0.heap.objs.size < h1.objs.size->PySem.ItemsOf F0 ac n0->R0 ac.toList { s0 with heap:=h1,toks:=t1 }) :
  wpAny (model P0 w0) A0 (collect (.ref r0)) R0 E0' s0:=by
 have lt:=S.there _ ok
 have ne1:=Ĩ lt.1
 have ne2:=Ĩ lt.2
 unfold collect
 refine wpAny_bind (wpAny_runValue (codeAny_builtin entry_proto_collect' ?_))
 rw [Around.under_plainId PySem.F.plain_proto_collect _]
 refine (show wpAny (model P0 w0) A0.in1 (newList [] >>= fun l=>again (.builtin "list.__iadd__" ⟨[l,.ref r0],[]⟩)) _ _ s0 from wpAny_bind (wpAny_newObj_type (wpAny_pure ⟨plainId_quiet PySem.F.plain_list_iadd _,codeAny_builtin entry_list_iadd' ?_⟩)))
 rw [Around.under_plainId PySem.F.plain_list_iadd _]
 let hp:Heap:=s0.heap.push { cls:=.type "list",data:=.seq ([]:List Value).toArray }
 have new:hp.get? s0.heap.objs.size = some { cls:=.type "list",data:=.seq #[] }:=Ĕ _ rfl
 have key:=PySem.W.kdl_extend (A:=A0) (s:={ s0 with heap:=hp })
  (R:=fun (z:Result) (u:Shared)=>∃ (h1:Heap) (t1:Nat) (ac:Array Value) (c:Nat),z = .ok (.ret (.ref s0.heap.objs.size)) /\ u = { s0 with heap:=h1,toks:=t1 } /\ (∀ b o,s0.heap.get? b = some o->h1.get? b = some o) /\
   h1.get? s0.heap.objs.size = some { cls:=.type "list",dict:=none,data:=.seq ac c,slots:=#[] } /\ PySem.ItemsOf F0 ac n0)
  S hh (S.keep _ _ ok fun b _ o e=>Ĉ _ e) s0.heap.objs.size ne1 ne2 (.ref s0.heap.objs.size) 0 new
  (fun h1 t1 ac c k1 k2 k3=>⟨h1,t1,ac,c,rfl,rfl,fun b o e=>k1 b o (Ħ (ć e)) (Ĉ _ e),k2,k3⟩) hn
 have go:∀ u,(∃ (h1:Heap) (t1:Nat) (ac:Array Value) (c:Nat),u = { s0 with heap:=h1,toks:=t1 } /\ (∀ b o,s0.heap.get? b = some o->h1.get? b = some o) /\
   h1.get? s0.heap.objs.size = some { cls:=.type "list",dict:=none,data:=.seq ac c,slots:=#[] } /\ PySem.ItemsOf F0 ac n0)->wpAny (model P0 w0) A0 (load s0.heap.objs.size >>= fun o=>match o.data with | .seq items _=>pure items.toList | _=>unsupported "internal:collect") R0 E0' u:=by
  rintro u ⟨h1,t1,ac,c,rfl,k1,k2,k3⟩
  exact wpAny_bind (wpAny_load k2 (wpAny_pure (fin h1 t1 ac k1 (ć k2) k3)))
 refine wpAny_mono key (fun z u x=>?_) fun e u x=>?_
 ·cases z with
  | done f =>
   obtain ⟨h1,t1,ac,c,e,rfl,k1,k2,k3⟩:=x
   cases e
   exact go _ ⟨h1,t1,ac,c,rfl,k1,k2,k3⟩
  | again c1 =>
   refine ⟨x.1,codeAny_mono x.2 fun z u y=>?_⟩
   obtain ⟨h1,t1,ac,c,rfl,rfl,k1,k2,k3⟩:=y
   exact go _ ⟨h1,t1,ac,c,rfl,k1,k2,k3⟩
 ·obtain ⟨_,_,_,_,e,_⟩:=x
  cases e
end
section
variable {X:Cx} {K:Ā}
theorem zZ5:Υ X (.builtin "sorted") (fun xs H Q=>∃ (a:Addr) (ss:List Str),xs = [V.ref a] /\ SqL X.K H a (ss.map V.str) /\ ss.length < 64 /\ ∀ ss',ss'.Perm ss->sortedS ss' = true->∀ l,H l = none->Q (.ref l) (upd H l (.lst (ss'.map V.str)))):=by
 intro pins s σ H xs us Q I r h
 obtain ⟨a,ss,rfl,hq,h64,q⟩:=h
 obtain ⟨u,rfl,ru⟩:=ν r
 cases ru
 obtain ⟨its,rv,pl,hz⟩:=I.list hq
 have hl:its.length = ss.length:=by rw [<- rv.length,ā]
 refine sorted_strs pl.isList (zE1 rv) (by omega) fun out ss' a1 a2 a3=>?_
 obtain ⟨e,he⟩:=sortedAll_at s.heap its out
 refine ⟨.ref _,_,I.laid (a:=s.heap.objs.size + 1) (o:=.lst (ss'.map V.str)) (t':=s.toks) (fun b ob e=>sortedAll_old e) (Nat.le_succ _) ⟨?_,out.toList,e,zF3 a1,by simpa using he⟩,rfl,q ss' a2 a3 _ (I.hok.fresh (Nat.le_succ _))⟩
 rw [ā,a2.length_eq]
 exact č (m:=4000) (by omega) (by decide)
theorem zU5 (h:X.K = K):Υ X (.builtin "sorted") (fun xs H Q=>∃ (a:Addr) (ss:List Str),xs = [V.ref a] /\ SqL K H a (ss.map V.str) /\ ss.length < 64 /\ ∀ ss',ss'.Perm ss->sortedS ss' = true->∀ l,H l = none->Q (.ref l) (upd H l (.lst (ss'.map V.str)))):=by subst h; exact zZ5
theorem zF4 (hc:X.calm = true):Υ X (.builtin "sorted") (fun xs H Q=>∃ (d:Addr) (kvs:List (Key × V)) (ss:List Str),xs = [V.ref d] /\ H d = some (.dK kvs) /\ kvs.map (·.1) = ss.map Sum.inr /\ ss.length < 64 /\ ∀ ss',ss'.Perm ss->sortedS ss' = true->∀ l,H l = none->Q (.ref l) (upd H l (.lst (ss'.map V.str)))):=by
 intro pins s σ H xs us Q I r h
 obtain ⟨d,kvs,ss,rfl,hd,hk,h64,q⟩:=h
 obtain ⟨w0,rfl,rw0⟩:=ν r
 cases rw0
 obtain ⟨o,es,ep,ps,g,ex,dat,hs,hps0,rel⟩:=I.raw hd (show isDk (.dK kvs) = true from rfl)
 have hps:ps = kvs.map fun kv=>(kV kv.1,kv.2):=hps0
 have hlen:ps.length = es.size:=by rw [rel.length]; simp
 have hkl:ss.length = ps.length:=by
  rw [hps,ā,<- ā (f:=(·.1)) (as:=kvs),hk,ā]
 refine Calls.call_function_entry kind_sorted plain_sorted entry_sorted (args_sorted1 _) ?_
 unfold Builtin.«sorted»
 refine wpAny_bind (m:=checkCount "sorted" 1 1 _) (wpAny_pure ?_)
 refine wpAny_bind (zZ3 (A0:=X.A.in1) (yE0 (es:=es) (ep:=ep) hs) (I.ok.hd hc) ⟨o,g,ex,dat⟩ (č (m:=4000) (by omega) (by decide)) fun h' tk acc kk hgr hacc=>?_)
 have sa:StrsAre acc.toList ss:=by
  have e1:acc.toList = es.toList.map (·.key):=by
   apply List.ext_getElem?
   intro j
   rw [đ]
   by_cases hj:j < es.size
   ·have hj2:j < acc.size:=by rw [hacc.1]; exact hj
    obtain ⟨e,he,hv⟩:=hacc.2 j acc[j] (by simp [hj2])
    have e2:es.toList[j]? = some e:=by simpa using he
    rw [e2]
    simp [hj2,hv]
   ·have hj2:¬ j < acc.size:=by rw [hacc.1]; exact hj
    rw [Ņ (by simp; omega),Ņ (by simp; omega)]; rfl
  have vr:Vals (ps.map (·.1)) acc.toList:=by
   rw [e1]
   clear hlen hkl hps hps0 e1 hacc
   generalize es.toList = el at rel
   induction rel with
   | nil=>exact .nil
   | cons h t ih=>exact .cons h.1 ih
  have e2:ps.map (·.1) = ss.map V.str:=by
   rw [hps,Ň]
   have:(kvs.map fun kv=>kV kv.1) = (kvs.map (·.1)).map kV:=by rw [Ň]; rfl
   show (kvs.map fun kv=>kV kv.1) = _
   rw [this,hk,Ň]; rfl
  rw [e2] at vr
  exact zE1 vr
 have hl2:acc.toList.length = ss.length:=by
  have:=hacc.1
  rw [Array.length_toList]; omega
 refine wpAny_bind (wpAny_newList ?_ (č (m:=4000) (by omega) (by decide)))
 have hoL:(h'.push (seqObj "list" acc.toList.toArray 0)).get? h'.objs.size = some (seqObj "list" acc.toList.toArray 0):=Ĕ _ rfl
 refine wpAny_bind (wpAny_holding (wpAny_call_entry slot_list_sort ⟨_,hoL,rfl⟩ entry_list_sort (list_sort_treeK strKind_oneLt hoL sa.keysOf (fun v₁ v₂ rest e=>keyKind_strs (by rw [<- e]; exact sa)) (by omega) fun st' a1 a2=>⟨_,rfl,?_⟩) (args_list_sort _)))
 obtain ⟨ss',h1,h2,h3⟩:=sorted_out_str sa a1 a2
 refine wpAny_pure ⟨_,rfl,?_⟩
 have kk2:∀ b ob,s.heap.get? b = some ob->(sortedHeap (h'.push (seqObj "list" acc.toList.toArray 0)) h'.objs.size acc.toList ((arrOf st').map (·.2))).get? b = some ob:=fun b ob e=>by
  have e1:=kk b ob e
  have hlt:=ć e1
  rw [sortedHeap_old (Ħ hlt) (by rw [size_push']; exact Nat.lt_succ_of_lt hlt)]
  exact Ĉ _ e1
 have hsz:s.heap.objs.size <= h'.objs.size:=Ś hgr
 obtain ⟨ee,he⟩:=sortedHeap_at (h:=h'.push (seqObj "list" acc.toList.toArray 0)) (a:=h'.objs.size) (vs:=acc.toList) (out:=(arrOf st').map (·.2)) (n:=0) hoL
 refine ⟨.ref _,_,I.laid (a:=h'.objs.size) (o:=.lst (ss'.map V.str)) (t':=tk) kk2 hsz ⟨?_,((arrOf st').map (·.2)).toList,ee,zF3 h1,?_⟩,rfl,q ss' h2 h3 _ (I.hok.fresh hsz)⟩
 ·rw [ā,h2.length_eq]
  exact č (m:=4000) (by omega) (by decide)
 ·show _ = some (seqObj "list" ((arrOf st').map (·.2)).toList.toArray ee)
  rw [Array.toArray_toList]
  exact he
end
end L2
namespace Tc
section
variable {α:Type} [DecidableEq α]
theorem yR2 {C:List α} {P:α->α->Rat} (S:SubC C P) {v:α->Rat} (h0:∀ j ∈ C,0 <= v j) (h:∀ j ∈ C,v j <= sumL C fun i=>v i * P i j) {x:α} (l:Leak C P x):v x = 0:=by
 have h1:∀ j ∈ C,0 <= (sumL C fun i=>v i * P i j) - v j:=fun j hj=>by have:=h j hj; grind
 have h2:∀ i ∈ C,0 <= v i - v i * sumL C (P i):=fun i hi=>by
  have a:=S.le i hi
  have b:=Ğ (h0 i hi) (show 0 <= 1 - sumL C (P i) by grind)
  grind
 have e1:=Ŭ C (fun j=>sumL C fun i=>v i * P i j) fun j=>v j
 have e2:=Ŭ C (fun i=>v i) fun i=>v i * sumL C (P i)
 have e3:(sumL C fun i=>v i * sumL C (P i)) = sumL C fun j=>sumL C fun i=>v i * P i j:=by
  rw [<- zV7]
  exact Ý fun i _=>(zE3 C (P i) (v i)).symm
 have n1:=Ų h1
 have n2:=Ų h2
 have z1:(sumL C fun j=>(sumL C fun i=>v i * P i j) - v j) = 0:=by grind
 have z2:(sumL C fun i=>v i - v i * sumL C (P i)) = 0:=by grind
 have f1:=ŵ h1 z1
 have f2:=ŵ h2 z2
 induction l with
 | now hx hn =>
  rename_i x
  have a:=f2 x hx
  have b:v x * (1 - sumL C (P x)) = 0:=by grind
  rcases ń.mp b with q | q
  ·exact q
  ·exact absurd (by grind) hn
 | via hx hy hp _ ih =>
  rename_i x y _
  have a:=f1 y hy
  rw [ih] at a
  have a:(sumL C fun i=>v i * P i y) = 0:=by grind
  have b:=ŵ (fun i hi=>Ğ (h0 i hi) (S.nn i hi y)) a x hx
  rcases ń.mp b with q | q
  ·exact q
  ·exact absurd q hp
theorem yR5 {C:List α} {P:α->α->Rat} (S:SubC C P) (l:∀ x ∈ C,Leak C P x) {X b:α->Rat} (hb:∀ z ∈ C,0 <= b z) (h:∀ z ∈ C,X z = (sumL C fun y=>X y * P y z) + b z):∀ z ∈ C,0 <= X z:=by
 have key:∀ z ∈ C,(if 0 <= X z then 0 else -X z) = 0:=fun z hz=>by
  refine yR2 S (v:=fun z=>if 0 <= X z then 0 else -X z) (fun j _=>by show 0 <= (if 0 <= X j then (0:Rat) else -X j); split <;> grind) (fun j hj=>?_) (l z hz)
  show (if 0 <= X j then (0:Rat) else -X j) <= sumL C fun i=>(if 0 <= X i then 0 else -X i) * P i j
  have n:∀ i ∈ C,0 <= (if 0 <= X i then (0:Rat) else -X i) * P i j:=fun i hi=>Ğ (by split <;> grind) (S.nn i hi j)
  split
  ·exact Ų n
  ·have e:=h j hj
   have le:sumL C (fun y=>X y * P y j) + (sumL C fun i=>(if 0 <= X i then (0:Rat) else -X i) * P i j) = sumL C fun i=>(X i + if 0 <= X i then (0:Rat) else -X i) * P i j:=by
    rw [<- zQ8]
    exact Ý fun i _=>by grind
   have nn:0 <= sumL C fun i=>(X i + if 0 <= X i then (0:Rat) else -X i) * P i j:=Ų fun i hi=>Ğ (by split <;> grind) (S.nn i hi j)
   have:=hb j hj
   grind
 intro z hz
 have:=key z hz
 split at this
 ·assumption
 ·grind
end
section
variable {α:Type} [DecidableEq α]
noncomputable def mass (C:List α) (P:α->α->Rat) (m:α->Rat):Nat->α->Rat
 | 0=>m
 | k + 1=>fun z=>sumL C fun y=>mass C P m k y * P y z
end
section
variable {α:Type} [DecidableEq α]
noncomputable def lap (a:α->Rat) (g:List α->Rat):List α->Rat
 | []=>0
 | r :: R=>a r * g R - lap a (fun S=>g (r :: S)) R
theorem zT8 (a:α->Rat) (x:Rat):∀ (R:List α) (g h:List α->Rat),lap a (fun S=>x * g S - h S) R = x * lap a g R - lap a h R
 | [],_,_=>by show (0:Rat) = x * 0 - 0; grind
 | r :: R,g,h=>by
  show a r * (x * g R - h R) - lap a (fun S=>x * g (r :: S) - h (r :: S)) R = x * (a r * g R - lap a (fun S=>g (r :: S)) R) - (a r * h R - lap a (fun S=>h (r :: S)) R)
  rw [zT8 a x R (fun S=>g (r :: S)) fun S=>h (r :: S)]
  grind
theorem zT9 (a b:α->Rat):∀ (R:List α) (g:List α->Rat),lap a (lap b g) R = -lap b (lap a g) R
 | [],_=>by show (0:Rat) = -0; grind
 | r :: R,g=>by
  have e1:lap a (lap b g) (r :: R) = a r * lap b g R - (b r * lap a g R - lap a (lap b fun T=>g (r :: T)) R):=by
   show a r * lap b g R - lap a (fun S=>b r * g S - lap b (fun T=>g (r :: T)) S) R = _
   rw [zT8]
  have e2:lap b (lap a g) (r :: R) = b r * lap a g R - (a r * lap b g R - lap b (lap a fun T=>g (r :: T)) R):=by
   show b r * lap a g R - lap b (fun S=>a r * g S - lap a (fun T=>g (r :: T)) S) R = _
   rw [zT8]
  rw [e1,e2,zT9 a b R fun T=>g (r :: T)]
  grind
theorem zT7 (a:α->Rat):∀ R:List α,lap a (fun _=>0) R = 0
 | []=>rfl
 | r :: R=>by
  show a r * 0 - lap a (fun _=>0) R = 0
  rw [zT7 a R]; grind
theorem yY4 (a:α->Rat) (s:Rat) (g:List α->Rat) (R:List α):lap a (fun S=>s * g S) R = s * lap a g R:=by
 have:=zT8 a s R g fun _=>0
 rw [zT7] at this
 have e:(fun S=>s * g S) = fun S=>s * g S - 0:=by funext S; grind
 rw [e,this]; grind
theorem yR6 (A:α->α->Rat) (x:α->Rat) (C:List α):∀ (R:List α) (g:List α->Rat) {b:α->Rat},(∀ r ∈ R,b r = sumL C fun j=>A r j * x j)->lap b g R = sumL C fun j=>x j * lap (fun r=>A r j) g R
 | [],_,_,_=>by
  show (0:Rat) = sumL C fun j=>x j * 0
  exact (ö _ _ fun z _=>by grind).symm
 | r :: R,g,b,h=>by
  show b r * g R - lap b (fun S=>g (r :: S)) R = sumL C fun j=>x j * (A r j * g R - lap (fun r=>A r j) (fun S=>g (r :: S)) R)
  rw [yR6 A x C R (fun S=>g (r :: S)) fun y hy=>h y (Ă _ hy),h r ă]
  have e:(sumL C fun j=>x j * (A r j * g R - lap (fun r=>A r j) (fun S=>g (r :: S)) R)) = sumL C fun j=>g R * (A r j * x j) - x j * lap (fun r=>A r j) (fun S=>g (r :: S)) R:=Ý fun j _=>by grind
  rw [e,Ŭ,zE3]
  grind
noncomputable def detL (A:α->α->Rat):List α->List α->Rat
 | []=>fun _=>1
 | c :: cs=>lap (fun r=>A r c) (detL A cs)
theorem zU2 (A:α->α->Rat) (a:α):∀ (cs:List α),a ∈ cs->∀ R,detL A (a :: cs) R = 0
 | [],h,_=>nomatch h
 | b :: cs,h,R=>by
  have e:=zT9 (fun r=>A r a) (fun r=>A r b) R (detL A cs)
  show lap (fun r=>A r a) (lap (fun r=>A r b) (detL A cs)) R = 0
  by_cases q:a = b
  ·subst q; grind
  ·have h:a ∈ cs:=by
    rcases Ē.mp h with h | h
    ·exact absurd h q
    ·exact h
   rw [e]
   have:lap (fun r=>A r a) (detL A cs) = fun _=>0:=by
    funext S
    exact zU2 A a cs h S
   rw [this,zT7]; grind
theorem zZ2 (A:α->α->Rat) (a:α):∀ (cs:List α),a ∈ cs->∃ s:Rat,(s = 1 \/ s = -1) /\ ∀ R,detL A (a :: cs.erase a) R = s * detL A cs R
 | [],h=>nomatch h
 | b :: cs,h=>by
  by_cases q:b = a
  ·subst q
   refine ⟨1,.inl rfl,fun R=>?_⟩
   rw [List.erase_cons_head]; grind
  ·have h:a ∈ cs:=by
    rcases Ē.mp h with h | h
    ·exact absurd h.symm q
    ·exact h
   obtain ⟨s,hs,e⟩:=zZ2 A a cs h
   have hs':-s = 1 \/ -s = -1:=by
    rcases hs with hs | hs
    ·right; rw [hs]
    ·left; rw [hs]; rfl
   refine ⟨-s,hs',fun R=>?_⟩
   rw [List.erase_cons_tail (by simpa using q)]
   have e1:=zT9 (fun r=>A r a) (fun r=>A r b) R (detL A (cs.erase a))
   show lap (fun r=>A r a) (lap (fun r=>A r b) (detL A (cs.erase a))) R = -s * lap (fun r=>A r b) (detL A cs) R
   rw [e1]
   have:lap (fun r=>A r a) (detL A (cs.erase a)) = fun S=>s * detL A cs S:=by
    funext S
    exact e S
   rw [this,yY4]; grind
theorem yY5 {C:List α} (g:List α->Rat):∀ {R:List α},R.Nodup->(∀ r ∈ R,r ∈ C)->C.Nodup->∃ w:α->Rat,(∀ z,z ∉ R->w z = 0) /\ ∀ a:α->Rat,lap a g R = sumL C fun z=>w z * a z:=by
 intro R
 induction R generalizing g with
 | nil=>intro _ _ _; exact ⟨fun _=>0,fun _ _=>rfl,fun a=>(ö _ _ fun z _=>by grind).symm⟩
 | cons r R ih =>
  intro hn hR hC
  have hn':=Ġ.mp hn
  obtain ⟨w,w0,hw⟩:=ih (fun S=>g (r :: S)) hn'.2 (fun z hz=>hR z (Ă _ hz)) hC
  refine ⟨fun z=>if z = r then g R else -w z,fun z hz=>?_,fun a=>?_⟩
  ·have h1:z ≠ r:=fun e=>hz (by rw [e]; exact ă)
   have h2:z ∉ R:=fun e=>hz (Ă _ e)
   show (if z = r then g R else -w z) = 0
   rw [if_neg h1,w0 z h2]; grind
  ·show a r * g R - lap a (fun S=>g (r :: S)) R = _
   rw [hw a]
   have hr:=hR r ă
   rw [ô hr (fun z=>(if z = r then g R else -w z) * a z),ô hr (fun z=>w z * a z),w0 r hn'.1]
   have e:(sumL (C.erase r) fun z=>(if z = r then g R else -w z) * a z) = sumL (C.erase r) fun z=>-1 * (w z * a z):=Ý fun z hz=>by
    have:=((hC.mem_erase_iff).mp hz).1
    show (if z = r then g R else -w z) * a z = -1 * (w z * a z)
    rw [if_neg this]; grind
   rw [e,zE3]
   show _ = (if r = r then g R else _) * a r + _
   rw [if_pos rfl]; grind
theorem yR7 {C:List α} (g:List α->Rat) {r:α} {R:List α} (hn:(r :: R).Nodup) (hR:∀ z ∈ r :: R,z ∈ C) (hC:C.Nodup):∃ w:α->Rat,w r = g R /\ ∀ a:α->Rat,lap a g (r :: R) = sumL C fun z=>w z * a z:=by
 obtain ⟨w,_,hw⟩:=yY5 g hn hR hC
 refine ⟨w,?_,hw⟩
 have h:=hw (dlt r)
 have hr:=hR r ă
 rw [ô hr] at h
 have e:(sumL (C.erase r) fun z=>w z * dlt r z) = 0:=ö _ _ fun z hz=>by
  have:=((hC.mem_erase_iff).mp hz).1
  unfold dlt
  rw [if_neg this]; grind
 have e2:lap (dlt r) g (r :: R) = g R:=by
  have go:∀ (S:List α) (g:List α->Rat),r ∉ S->lap (dlt r) g S = 0:=by
   intro S
   induction S with
   | nil=>intro _ _; rfl
   | cons y S ih =>
    intro g hy
    show dlt r y * g S - lap (dlt r) (fun T=>g (y :: T)) S = 0
    have h1:y ≠ r:=fun e=>hy (by rw [e]; exact ă)
    rw [ih _ fun e=>hy (Ă _ e)]
    unfold dlt
    rw [if_neg h1]; grind
  show dlt r r * g R - lap (dlt r) (fun T=>g (r :: T)) R = g R
  rw [go R _ (Ġ.mp hn).1]
  unfold dlt
  rw [if_pos rfl]; grind
 rw [e2,e] at h
 unfold dlt at h
 rw [if_pos rfl] at h
 grind
theorem zZ1 {C:List α} {A:α->α->Rat} (hC:C.Nodup) (hK:∀ w:α->Rat,(∀ j ∈ C,(sumL C fun z=>w z * A z j) = 0)->∀ z ∈ C,w z = 0):∀ m,m <= C.length->∃ cs R:List α,cs.length = m /\ R.length = m /\ R.Nodup /\ (∀ z ∈ R,z ∈ C) /\ cs.Nodup /\ (∀ z ∈ cs,z ∈ C) /\ detL A cs R ≠ 0
 | 0,_=>⟨[],[],rfl,rfl,.nil,nofun,.nil,nofun,by show (1:Rat) ≠ 0; decide⟩
 | m + 1,hm=>by
  obtain ⟨cs,R,lc,lR,nR,hR,nc,hc,hd⟩:=zZ1 hC hK m (by omega)
  have:∃ r ∈ C,r ∉ R:=Classical.byContradiction fun q=>by
   have:∀ z ∈ C,z ∈ R:=fun z hz=>Classical.byContradiction fun h=>q ⟨z,hz,h⟩
   have:=Ú hC this
   omega
  obtain ⟨r,hr,hrR⟩:=this
  have n2:(r :: R).Nodup:=Ġ.mpr ⟨hrR,nR⟩
  have h2:∀ z ∈ r :: R,z ∈ C:=fun z hz=>by
   rcases Ē.mp hz with e | e
   ·rw [e]; exact hr
   ·exact hR z e
  obtain ⟨w,w1,hw⟩:=yR7 (detL A cs) n2 h2 hC
  have:∃ j ∈ C,(sumL C fun z=>w z * A z j) ≠ 0:=Classical.byContradiction fun q=>by
   have:=hK w (fun j hj=>Classical.byContradiction fun h=>q ⟨j,hj,h⟩) r hr
   rw [w1] at this
   exact hd this
  obtain ⟨j,hj,hne⟩:=this
  have e:detL A (j :: cs) (r :: R) ≠ 0:=by
   show lap (fun r=>A r j) (detL A cs) (r :: R) ≠ 0
   rw [hw]; exact hne
  refine ⟨j :: cs,r :: R,by rw [ģ,lc],by rw [ģ,lR],n2,h2,Ġ.mpr ⟨fun q=>e (zU2 A j cs q _),nc⟩,fun z hz=>?_,e⟩
  rcases Ē.mp hz with q | q
  ·rw [q]; exact hj
  ·exact hc z q
theorem yR8 {D N E W:Nat} {a:α->Rat}:∀ {R:List α} {g:List α->Rat},(∀ r ∈ R,Cd D N (a r))->(∀ S,(∀ z ∈ S,z ∈ R)->S.length + 1 = R.length->Cd E W (g S))->Cd (D * E) (R.length * (N * W)) (lap a g R)
 | [],_,_,_=>Cd.zero _ _
 | r :: R,g,ha,hg=>by
  have h1:=(ha r ă).mul (hg R (fun z hz=>Ă _ hz) rfl)
  have h2:=yR8 (R:=R) (g:=fun S=>g (r :: S)) (fun z hz=>ha z (Ă _ hz)) fun S hS hl=>hg _ (fun z hz=>by
   rcases Ē.mp hz with e | e
   ·rw [e]; exact ă
   ·exact Ă _ (hS z e)) (by rw [ģ,ģ,hl])
  refine (h1.sub h2).mono ?_
  rw [ģ,Nat.succ_mul]; omega
theorem yU0 {D N n:Nat} {A:α->α->Rat}:∀ {cs R:List α},R.length <= n->(∀ z ∈ R,∀ j ∈ cs,Cd D N (A z j))->Cd (D ^ cs.length) ((n * N) ^ cs.length) (detL A cs R)
 | [],R,_,_=>by
  rw [ť,Nat.pow_zero,Nat.pow_zero]
  exact Cd.one 1
 | c :: cs,R,hn,h=>by
  have:=yR8 (R:=R) (g:=detL A cs) (fun r hr=>h r hr c ă) fun S hS hl=>yU0 (n:=n) (by omega) fun z hz j hj=>h z (hS z hz) j (Ă _ hj)
  rw [ģ,į,ļ (D ^ cs.length),į]
  refine this.mono ?_
  rw [<- ŋ,ļ ((n * N) ^ _)]
  exact Ė _ (Ė _ hn)
theorem xN1 {C:List α} {A:α->α->Rat} {x b:α->Rat} (hC:C.Nodup) {cs R:List α} (nc:cs.Nodup) (hcs:∀ z,z ∈ cs ↔ z ∈ C) (hb:∀ r ∈ R,b r = sumL C fun j=>A r j * x j) {k:α} (hk:k ∈ cs):∃ s:Rat,(s = 1 \/ s = -1) /\ x k * detL A cs R = s * lap b (detL A (cs.erase k)) R:=by
 obtain ⟨s,hs,e⟩:=zZ2 A k cs hk
 refine ⟨s,hs,?_⟩
 have h:=yR6 A x C R (detL A (cs.erase k)) hb
 have hkC:=(hcs k).mp hk
 rw [ô hkC] at h
 have e0:(sumL (C.erase k) fun j=>x j * lap (fun r=>A r j) (detL A (cs.erase k)) R) = 0:=ö _ _ fun j hj=>by
  have hj':=(hC.mem_erase_iff).mp hj
  have:lap (fun r=>A r j) (detL A (cs.erase k)) R = 0:=zU2 A j (cs.erase k) ((nc.mem_erase_iff).mpr ⟨hj'.1,(hcs j).mpr hj'.2⟩) R
  rw [this]; grind
 have e1:lap (fun r=>A r k) (detL A (cs.erase k)) R = s * detL A cs R:=e R
 rw [e0,e1] at h
 rw [h]
 rcases hs with q | q <;> rw [q] <;> grind
theorem xG5 {C cs:List α} (hC:C.Nodup) (hn:cs.Nodup) (hs:∀ z ∈ cs,z ∈ C) (hl:cs.length = C.length):∀ z,z ∈ cs ↔ z ∈ C:=fun z=>⟨hs z,fun hz=>Classical.byContradiction fun q=>by
 have:=Ú (ks:=z :: cs) (Ġ.mpr ⟨q,hn⟩) (fun y hy=>by
  rcases Ē.mp hy with e | e
  ·rw [e]; exact hz
  ·exact hs y e)
 rw [ģ] at this
 omega⟩
theorem xJ1 {C:List α} {A:α->α->Rat} {x b:α->Rat} (hC:C.Nodup) {D E W:Nat} (D0:0 < D) (E0:0 < E) (EW:E <= W) (hA:∀ z ∈ C,∀ j ∈ C,Cd D D (A z j)) (hb:∀ z ∈ C,Cd E W (b z)) (hx:∀ z ∈ C,b z = sumL C fun j=>A z j * x j)
  (hK:∀ w:α->Rat,(∀ j ∈ C,(sumL C fun z=>w z * A z j) = 0)->∀ z ∈ C,w z = 0):∃ E',0 < E' /\ E' <= W * (C.length * D) ^ C.length /\ ∀ z ∈ C,Cd E' (W * (C.length * D) ^ C.length) (x z):=by
 obtain ⟨cs,R,lc,lR,nR,hR,nc,hc,hd⟩:=zZ1 hC hK C.length (ą _)
 have mc:=xG5 hC nc hc lc
 obtain ⟨u,eu,lu⟩:=yU0 (n:=C.length) (D:=D) (N:=D) (A:=A) (cs:=cs) (R:=R) (by omega) fun z hz j hj=>hA z (hR z hz) j (hc j hj)
 rw [lc] at eu lu
 have u0:u ≠ 0:=fun e=>by
  rw [e] at eu
  have h1:((D ^ C.length:Nat):Rat) ≠ 0:=yJ4 (Nat.pow_pos D0)
  have:detL A cs R * ((D ^ C.length:Nat):Rat) = 0:=by rw [eu]; rfl
  rcases ń.mp this with q | q
  ·exact hd q
  ·exact h1 q
 have up:0 < u.natAbs:=by omega
 refine ⟨E * u.natAbs,Ľ E0 up,ğ EW lu,fun k hk=>?_⟩
 have hkc:=(mc k).mpr hk
 obtain ⟨s,hs,e⟩:=xN1 hC nc mc (fun r hr=>hx r (hR r hr)) hkc
 have le:(cs.erase k).length = C.length - 1:=by rw [List.length_erase_of_mem hkc,lc]
 have n1:C.length = (C.length - 1) + 1:=by
  have:=List.length_pos_of_mem hk
  omega
 obtain ⟨v,ev,lv⟩:=yR8 (R:=R) (g:=detL A (cs.erase k)) (fun r hr=>hb r (hR r hr)) fun S hS hl=>yU0 (n:=C.length) (D:=D) (N:=D) (by omega) fun z hz j hj=>hA z (hR z (hS z hz)) j (hc j (List.mem_of_mem_erase hj))
 rw [le] at ev lv
 rw [lR] at lv
 have key:x k * ((E:Nat):Rat) * (u:Rat) = s * ((v:Rat) * (D:Rat)):=by
  rw [<- eu,<- ev,n1,į,Ģ,Ģ,show C.length - 1 + 1 - 1 = C.length - 1 by omega]
  have e':=e
  grind
 have fin:∀ t:Int,x k * ((E * u.natAbs:Nat):Rat) = ((t * (v * D):Int):Rat)->(t = 1 \/ t = -1)->Cd (E * u.natAbs) (W * (C.length * D) ^ C.length) (x k):=by
  intro t et ht
  refine ⟨t * (v * D),et,?_⟩
  have:(t * (v * D)).natAbs = v.natAbs * D:=by
   rw [ŀ,ŀ]
   rcases ht with q | q <;> rw [q] <;> simp
  rw [this]
  refine č (Ė D lv) (Nat.le_of_eq ?_)
  rw [n1,į,show C.length - 1 + 1 - 1 = C.length - 1 by omega]
  grind
 rcases hs with q | q
 ·rcases Int.natAbs_eq u with a | a
  ·refine fin 1 ?_ (.inl rfl)
   rw [Ģ,Int.one_mul,ľ]
   rw [a,q] at key
   have:((D:Int):Rat) = ((D:Nat):Rat):=rfl
   have:(((u.natAbs:Nat):Int):Rat) = ((u.natAbs:Nat):Rat):=rfl
   grind
  ·refine fin (-1) ?_ (.inr rfl)
   rw [Ģ,ľ,ľ]
   rw [a,q,Rat.intCast_neg] at key
   have:((D:Int):Rat) = ((D:Nat):Rat):=rfl
   have:(((u.natAbs:Nat):Int):Rat) = ((u.natAbs:Nat):Rat):=rfl
   have:((-1:Int):Rat) = -1:=rfl
   grind
 ·rcases Int.natAbs_eq u with a | a
  ·refine fin (-1) ?_ (.inr rfl)
   rw [Ģ,ľ,ľ]
   rw [a,q] at key
   have:((D:Int):Rat) = ((D:Nat):Rat):=rfl
   have:(((u.natAbs:Nat):Int):Rat) = ((u.natAbs:Nat):Rat):=rfl
   have:((-1:Int):Rat) = -1:=rfl
   grind
  ·refine fin 1 ?_ (.inl rfl)
   rw [Ģ,Int.one_mul,ľ]
   rw [a,q,Rat.intCast_neg] at key
   have:((D:Int):Rat) = ((D:Nat):Rat):=rfl
   have:(((u.natAbs:Nat):Int):Rat) = ((u.natAbs:Nat):Rat):=rfl
   grind
theorem yQ9 (f:α->Rat):∀ {C:List α},C ≠ []->∃ x ∈ C,∀ y ∈ C,f y <= f x
 | [],h=>absurd rfl h
 | [x],_=>⟨x,ă,fun y hy=>by
  rcases Ē.mp hy with e | e
  ·rw [e]; exact ŏ
  ·cases e⟩
 | x :: y :: C,_=>by
  obtain ⟨z,hz,hm⟩:=yQ9 f (C:=y :: C) nofun
  by_cases q:f z <= f x
  ·refine ⟨x,ă,fun u hu=>?_⟩
   rcases Ē.mp hu with e | e
   ·rw [e]; exact ŏ
   ·exact Rat.le_trans (hm u e) q
  ·refine ⟨z,Ă _ hz,fun u hu=>?_⟩
   rcases Ē.mp hu with e | e
   ·rw [e]; exact Rat.le_of_lt (Rat.not_le.mp q)
   ·exact hm u e
theorem yR1 {C:List α} {P:α->α->Rat} (S:SubC C P) {h:α->Rat} (hh:∀ y ∈ C,h y = sumL C fun z=>P y z * h z) (hl:∀ x ∈ C,Leak C P x):∀ x ∈ C,h x = 0:=by
 intro x0 hx0
 obtain ⟨xm,hxm,hM⟩:=yQ9 (fun y=>absR (h y)) (C:=C) (fun e=>by rw [e] at hx0; cases hx0)
 let M:Rat:=absR (h xm)
 have hM:∀ y ∈ C,absR (h y) <= M:=hM
 have M0:0 <= M:=zV2 _
 have up:∀ y ∈ C,absR (h y) <= sumL C fun z=>P y z * absR (h z):=fun y hy=>by
  have a:=yH5 C fun z=>P y z * h z
  rw [<- hh y hy] at a
  refine Rat.le_trans a (zM2 fun z hz=>?_)
  have:P y z * h z = h z * P y z:=Rat.mul_comm _ _
  rw [this,yH6 (S.nn y hy z),Rat.mul_comm]
  exact ŏ
 have key:∀ x,Leak C P x->absR (h x) = M->M = 0:=by
  intro x l
  induction l with
  | now hx hs =>
   rename_i x
   intro e
   have a:=up x hx
   have b:(sumL C fun z=>P x z * absR (h z)) <= M * sumL C (P x):=by
    rw [<- zE3]
    exact zM2 fun z hz=>by
     have:=Ğ (S.nn x hx z) (show 0 <= M - absR (h z) by have:=hM z hz; grind)
     grind
   have c:=S.le x hx
   have d:0 < 1 - sumL C (P x):=by
    have:sumL C (P x) ≠ 1:=hs
    have:=Rat.lt_of_le_of_ne c this
    grind
   have f:M * (1 - sumL C (P x)) <= 0:=by grind
   have g:=Ğ M0 (Rat.le_of_lt d)
   have:M * (1 - sumL C (P x)) = 0:=by grind
   rcases ń.mp this with q | q
   ·exact q
   ·rw [q] at d; exact absurd d (by decide)
  | via hx hy hp _ ih =>
   rename_i x y _
   intro e
   refine ih ?_
   have a:=up x hx
   have nn:∀ z ∈ C,0 <= P x z * (M - absR (h z)):=fun z hz=>Ğ (S.nn x hx z) (by have:=hM z hz; grind)
   have b:(sumL C fun z=>P x z * (M - absR (h z))) = M * sumL C (P x) - sumL C fun z=>P x z * absR (h z):=by
    rw [<- zE3,<- Ŭ]
    exact Ý fun z _=>by grind
   have c:=Ğ M0 (show 0 <= 1 - sumL C (P x) by have:=S.le x hx; grind)
   have d:(sumL C fun z=>P x z * (M - absR (h z))) = 0:=by
    have:=Ų nn
    grind
   have f:=ŵ nn d y hy
   rcases ń.mp f with q | q
   ·exact absurd q hp
   ·grind
 have:M = 0:=key xm (hl xm hxm) rfl
 have:=hM x0 hx0
 apply zO7
 have:=zV2 (h x0)
 grind
theorem zT6 {C L:List α} {D:Nat} {R:α->α->Rat} (G:Good L D R) (hC:C.Nodup) (hL:L.Nodup) (hCL:∀ x ∈ C,x ∈ L) (hl:∀ x ∈ C,Leak C R x) (D0:0 < D) {X b:α->Rat} (hX:∀ z ∈ C,X z = (sumL C fun y=>X y * R y z) + b z) {E W:Nat} (E0:0 < E) (EW:E <= W) (hb:∀ z ∈ C,Cd E W (b z)) :
  ∃ E',0 < E' /\ E' <= W * (C.length * D) ^ C.length /\ ∀ z ∈ C,Cd E' (W * (C.length * D) ^ C.length) (X z):=by
 refine xJ1 (A:=fun z y=>dlt z y - R y z) hC D0 E0 EW (fun z hz j hj=>?_) hb (fun z hz=>?_) fun w hw=>yR1 (G.sub hC hL hCL) (fun y hy=>?_) hl
 ·have:=Cd.diff (decide (j = z)) (G.part j (hCL j hj) z)
  simp only [decide_eq_true_eq] at this
  exact this
 ·have e:(sumL C fun y=>(dlt z y - R y z) * X y) = sumL C fun y=>dlt z y * X y - X y * R y z:=Ý fun y _=>by grind
  rw [e,Ŭ]
  have e2:(sumL C fun y=>dlt z y * X y) = X z:=by
   rw [ô hz]
   have:(sumL (C.erase z) fun y=>dlt z y * X y) = 0:=ö _ _ fun y hy=>by
    have:=((hC.mem_erase_iff).mp hy).1
    unfold dlt
    rw [if_neg this]; grind
   rw [this]
   unfold dlt
   rw [if_pos rfl]; grind
  rw [e2]
  have:=hX z hz
  grind
 ·have h:=hw y hy
  have e:(sumL C fun z=>w z * (dlt z y - R y z)) = sumL C fun z=>dlt y z * w z - R y z * w z:=Ý fun z _=>by
   have:dlt z y = dlt y z:=by
    unfold dlt
    by_cases q:y = z
    ·rw [if_pos q,if_pos q.symm]
    ·rw [if_neg q,if_neg fun u=>q u.symm]
   rw [this]; grind
  rw [e,Ŭ] at h
  have e2:(sumL C fun z=>dlt y z * w z) = w y:=by
   rw [ô hy]
   have:(sumL (C.erase y) fun z=>dlt y z * w z) = 0:=ö _ _ fun z hz=>by
    have:=((hC.mem_erase_iff).mp hz).1
    unfold dlt
    rw [if_neg this]; grind
   rw [this]
   unfold dlt
   rw [if_pos rfl]; grind
  rw [e2] at h
  grind
end
end Tc
namespace L2
open PySem PySem.Spec PyProof.Rows
theorem scF {N P:List Str} {sc:Scope} (h1:sc.kind = .function:=by rfl) (h2:sc.isCoroutine = false:=by rfl) (h3:sc.isGenerator = false:=by rfl) (h4:N.Nodup:=by decide +kernel) (h5:N.take P.length = P:=by rfl) (h6:∀ x ∈ P,sc.names.lookup x = some .local \/ sc.names.lookup x = some .cell:=by decide +kernel) (h7:∀ y ∈ sc.names,y.2 ≠ .free:=by decide +kernel):Ì N P sc:=⟨h1,h2,h3,h4,h5,h6,h7⟩
section
variable {X:Cx} {k j:Nat} {ps:List Str} {sp:Sp} {x:Str} {p pos:Pos} {e:Expr} {es:List Expr} {t:TA}
theorem pfn (F:FnAt X.prog X.w X.K X.mg X.base CX0 j x ps sp) (hr:Room k X.A) (ha:PA X (e :: es) t) (hg:Gl X x:=by rfl) (hj:j <= k:=by decide)
  (hdb:(x == ("__debug__":Str)) = false:=by decide) (he:starEach (e :: es) X.env = (false,eval e X.env) :: starEach es X.env:=by rfl) (hpl:(backTo pos (starEach es X.env)).any (·.1) = false:=by rfl) :
  PE X (.Call (.Name x p) (e :: es) [] pos) (xE0 sp [] E0 t):=xF3 F hr hg xP8 ha hj hdb he hpl
end
theorem pixT {X:Cx} {K:Ā} {a b:Expr} {ta tb:TE} {pos:Pos} (ha:PE X a ta) (hb:PE X b tb) (h:X.K = K:=by rfl) (hs:yD4 b:=by exact fun _ _=>rfl):PE X (.Subscript a b pos) (tOp (rIxT K) ta tb):=xF2 (xG7 h) ha hb hs
theorem pixL {X:Cx} {K:Ā} {a b:Expr} {ta tb:TE} {pos:Pos} (ha:PE X a ta) (hb:PE X b tb) (h:X.K = K:=by rfl) (hs:yD4 b:=by exact fun _ _=>rfl):PE X (.Subscript a b pos) (tOp (rIxL K) ta tb):=xF2 (yY6 h) ha hb hs
end L2
namespace Tc
open PySem L2
theorem Ο {l:List (Key × V)} {i:Nat} {k' v:V} (hk:(l.map fun kv=>(kV kv.1,kv.2))[i]? = some (k',v)):∃ kvi,l[i]? = some kvi /\ (kV kvi.1,kvi.2) = (k',v):=by
 rw [đ] at hk
 cases q:l[i]? with
 | none=>rw [q] at hk; cases hk
 | some kvi=>rw [q] at hk; exact ⟨kvi,rfl,Option.some.inj hk⟩
end Tc
namespace T50
open PySem L2 Tc
noncomputable def top (i:Nat):Stmt:=PySem.Challenge.pw_tiercask_k50_whole_ages.main.body.getD i (.Pass ⟨0,0,0,0⟩)
set_option genInjectivity false in
structure Ca where
 NoNumber:Addr
structure Txt (K:Ā) (mg:Str->Option Value) (ca:Ca):Prop where
 z_abs:mg "abs" = none
 z_any:mg "any" = none
 z_bool:mg "bool" = none
 z_dict:mg "dict" = none
 z_enumerate:mg "enumerate" = none
 z_int:mg "int" = none
 z_isinstance:mg "isinstance" = none
 z_len:mg "len" = none
 z_list:mg "list" = none
 z_range:mg "range" = none
 z_reversed:mg "reversed" = none
 z_sorted:mg "sorted" = none
 z_str:mg "str" = none
 z_tuple:mg "tuple" = none
 z_zip:mg "zip" = none
 c_NoNumber:mg "NoNumber" = some (.ref ca.NoNumber)
 e_NoNumber:PySem.W.excIn K ca.NoNumber [.type "ValueError",.type "Exception",.type "BaseException",.type "object"] "ValueError.__new__" = true
 x_NoNumber:ExcK K ca.NoNumber
 i_NoNumber_NoNumber:PySem.W.kitOne K (.ref ca.NoNumber) (.ref ca.NoNumber) = some true
 m_NoNumber_NoNumber:PySem.W.exmOne K (.ref ca.NoNumber) (.ref ca.NoNumber) = some true
structure RowAt (H:Hp) (kvs:List (Key × V)) (f:Str->Option Rat):Prop where
 nodup:(kvs.map (·.1)).Nodup
 keys:∀ kv ∈ kvs,∃ z,kv.1 = .inr z
 has:∀ z r,f z = .some r->∃ v,valV kvs (.inr z) = .some v /\ FrV H v r
 not:∀ z,f z = .none->valV kvs (.inr z) = .none
theorem RowAt.same {H H':Hp} {kvs:List (Key × V)} {f:Str->Option Rat} (h:RowAt H kvs f) (s:∀ v r,FrV H v r->FrV H' v r):RowAt H' kvs f :=
 ⟨h.nodup,h.keys,fun z r e=>(let ⟨v,a,b⟩:=h.has z r e; ⟨v,a,s v r b⟩),h.not⟩
theorem RowAt.nil (H:Hp):RowAt H [] fun _=>.none:=⟨List.nodup_nil,(fun _ z=>nomatch z),(fun _ _ e=>nomatch e),fun _ _=>rfl⟩
theorem zI1 (kvs:List (Key × V)) (k:Key) (v:V):(putK kvs k v).map (·.1) = if (kvs.any fun kv=>decide (kv.1 = k)) = true then kvs.map (·.1) else kvs.map (·.1) ++ [k]:=by
 unfold putK
 split
 ·rw [Ň]
  apply List.map_congr_left
  intro kv _
  show (if kv.1 = k then (kv.1,v) else kv).1 = kv.1
  split <;> rfl
 ·rw [ė]; rfl
theorem RowAt.put {H:Hp} {kvs:List (Key × V)} {f:Str->Option Rat} (h:RowAt H kvs f) {z:Str} {v:V} {r:Rat} (hv:FrV H v r):RowAt H (putK kvs (.inr z) v) fun y=>if y = z then .some r else f y:=by
 refine ⟨?_,?_,fun y q e=>?_,fun y e=>?_⟩
 ·rw [zI1]
  split
  ·exact h.nodup
  ·rename_i hn
   refine Ő.mpr ⟨h.nodup,by simp,fun a ha b hb e=>hn ?_⟩
   have hb:=ě.mp hb
   subst hb
   obtain ⟨kv,hk,ek⟩:=ĕ.mp ha
   exact š.mpr ⟨kv,hk,decide_eq_true (ek.trans e)⟩
 ·intro kv hkv
  have:kv.1 ∈ (putK kvs (.inr z) v).map (·.1):=ĕ.mpr ⟨kv,hkv,rfl⟩
  rw [zI1] at this
  split at this
  ·obtain ⟨kw,h1,h2⟩:=ĕ.mp this
   rw [<- h2]; exact h.keys kw h1
  ·rcases Ĥ.mp this with q | q
   ·obtain ⟨kw,h1,h2⟩:=ĕ.mp q
    rw [<- h2]; exact h.keys kw h1
   ·exact ⟨z,ě.mp q⟩
 ·rw [zH0]
  by_cases ey:y = z
  ·subst ey
   rw [if_pos rfl] at e ⊢
   cases e
   exact ⟨v,rfl,hv⟩
  ·rw [if_neg ey] at e
   rw [if_neg fun q=>ey (Sum.inr.inj q)]
   exact h.has y q e
 ·rw [zH0]
  by_cases ey:y = z
  ·subst ey; rw [if_pos rfl] at e; cases e
  ·rw [if_neg ey] at e
   rw [if_neg fun q=>ey (Sum.inr.inj q)]
   exact h.not y e
noncomputable def nmz:Key->Str
 | .inr z=>z
 | .inl _=>""
noncomputable def nms (ks:List (Key × V)):List Str:=ks.map fun kv=>nmz kv.1
theorem Ŵ:∀ {ks:List (Key × V)},(ks.map (·.1)).Nodup->∀ {i:Nat} {p:Key × V},ks[i]? = .some p->valV ks p.1 = .some p.2
 | [],_,_,_,e=>by simp at e
 | q :: qs,hn,0,p,e=>by
  simp at e; subst e
  unfold valV
  rw [List.find?_cons_of_pos (by simp)]; rfl
 | q :: qs,hn,i + 1,p,e=>by
  have e':qs[i]? = .some p:=by simpa using e
  rw [ĸ,Ġ] at hn
  have ne:q.1 ≠ p.1:=fun z=>hn.1 (by rw [z]; exact ĕ.mpr ⟨p,ċ e',rfl⟩)
  have ih:=Ŵ hn.2 e'
  unfold valV at ih ⊢
  rw [List.find?_cons_of_neg (by simp [ne])]; exact ih
theorem zG9 {ks:List (Key × V)} {z:Str} {v:V} (h:valV ks (.inr z) = .some v):z ∈ nms ks:=by
 unfold valV at h
 cases q:ks.find? fun kv=>decide (kv.1 = .inr z) with
 | none=>rw [q] at h; cases h
 | some kv =>
  have h1:=List.mem_of_find?_eq_some q
  have h2:=List.find?_some q
  refine ĕ.mpr ⟨kv,h1,?_⟩
  rw [of_decide_eq_true h2]; rfl
theorem yQ2 {ks:List (Key × V)} (hn:(ks.map (·.1)).Nodup) {i:Nat} {p:Key × V} (hp:ks[i]? = .some p) {z:Str} (hz:p.1 = .inr z) (hk:∀ kv ∈ ks,∃ y,kv.1 = .inr y):z ∉ nms (ks.take i):=by
 intro h
 obtain ⟨q,hq,e⟩:=ĕ.mp h
 obtain ⟨j,hj,ej⟩:=Ĺ hq
 have hji:j < i:=by rw [ē] at hj; omega
 have hj2:ks[j]? = .some q:=by
  have:(ks.take i)[j]? = .some q:=by rw [Č hj,ej]
  rwa [List.getElem?_take_of_lt hji] at this
 obtain ⟨y,hy⟩:=hk q (ċ hj2)
 have eyz:y = z:=by rw [hy] at e; exact e
 have ek:q.1 = p.1:=by rw [hy,eyz,hz]
 have hi:i < ks.length:=(Ą.mp hp).1
 have hjl:j < ks.length:=by omega
 have e1:(ks.map (·.1))[j]'(by simpa using hjl) = (ks.map (·.1))[i]'(by simpa using hi):=by
  have a1:ks[j] = q:=by rw [Č hjl] at hj2; exact Option.some.inj hj2
  have a2:ks[i] = p:=by rw [Č hi] at hp; exact Option.some.inj hp
  simp [a1,a2,ek]
 exact Ţ.mp hn j i (by simpa using hjl) (by simpa using hi) hji e1
noncomputable def addF (e s:Str->Option Rat) (t:Rat) (ks:List Str):Str->Option Rat:=fun z=>if z ∈ ks then .some ((e z).getD 0 + (s z).getD 0 * t) else e z
noncomputable def zM6:Sp:=fun vs H Q _=>∃ (a b:Addr) (x:V) (t:Rat) (kv ks:List (Key × V)) (e s:Str->Option Rat),vs = [.ref a,.ref b,x] /\ a ≠ b /\ H a = some (.dK kv) /\ H b = some (.dK ks) /\ RowAt H kv e /\ RowAt H ks s /\ FrV H x t /\ Bd 3500 t /\
 (∀ z,Bd 3500 ((e z).getD 0) /\ Bd 3500 ((s z).getD 0)) /\ kv.length + ks.length <= 900 /\
 ∀ H' kv',(∀ c o,H c = some o->c ≠ a->H' c = some o)->H' a = some (.dK kv')->kv'.length <= kv.length + ks.length->RowAt H' kv' (if t = 0 then e else fun z=>if (s z).isSome then .some ((e z).getD 0 + (s z).getD 0 * t) else e z)->Q .non H'
noncomputable def addR (e s:Str->Option Rat) (t:Rat):Str->Option Rat:=if t = 0 then e else fun z=>if (s z).isSome then .some ((e z).getD 0 + (s z).getD 0 * t) else e z
noncomputable def zR0:Sp:=fun vs H Q _=>∃ (rw st ax ay:Addr) (x y:Str) (fr:V) (t:Rat) (rows kx ky:List (Key × V)) (fx fy:Str->Option Rat),vs = [.ref rw,.ref st] /\ H rw = some (.dK rows) /\ H st = some (.tup [.str "pass",.str x,.str y,fr]) /\ FrV H fr t /\
 valV rows (.inr x) = some (.ref ax) /\ H ax = some (.dK kx) /\ RowAt H kx fx /\ valV rows (.inr y) = some (.ref ay) /\ H ay = some (.dK ky) /\ RowAt H ky fy /\ Bd 3500 t /\ Bd 3500 (1 - t) /\
 (∀ z,Bd 3500 ((fx z).getD 0) /\ Bd 3500 ((fy z).getD 0) /\ Bd 3500 ((addR (fun _=>none) fx (1 - t) z).getD 0)) /\ kx.length + ky.length <= 900 /\
 ∀ p H' kv',H p = none->Same H H'->H' p = some (.dK kv')->kv'.length <= kx.length + ky.length->RowAt H' kv' (addR (addR (fun _=>none) fx (1 - t)) fy t)->Q (.ref p) H'
theorem _root_.Tc.FrV.tup {H H':Hp} {v:V} {r:Rat} (h:FrV H v r) (s:∀ a xs,H a = some (.tup xs)->H' a = some (.tup xs)):FrV H' v r:=let ⟨a,e,h⟩:=h; ⟨a,e,s _ _ h⟩
theorem Ñ {H:Hp} {p:Addr} {u o:HO} (hp:H p = some u) (hu:∀ xs,u ≠ .tup xs):∀ a ys,H a = some (.tup ys)->upd H p o a = some (.tup ys):=fun a ys e=>by
 rw [upd_ne (ê e hp (fun z=>hu ys z.symm))]; exact e
theorem yQ1 {kvs:List (Key × V)} {k:Key} {v:V} (h:(kvs.map (·.1)).Nodup):((putK kvs k v).map (·.1)).Nodup:=by
 rw [zI1]
 split
 ·exact h
 ·rename_i hn
  refine Ő.mpr ⟨h,by simp,fun a ha b hb e=>hn ?_⟩
  have hb:=ě.mp hb
  subst hb
  obtain ⟨kv,hk,ek⟩:=ĕ.mp ha
  exact š.mpr ⟨kv,hk,decide_eq_true (ek.trans e)⟩
theorem xG4 {kvs:List (Key × V)} {k:Key} {v:V} {kv:Key × V} (h:kv ∈ putK kvs k v):kv.1 = k \/ ∃ kw ∈ kvs,kw.1 = kv.1:=by
 have:kv.1 ∈ (putK kvs k v).map (·.1):=ĕ.mpr ⟨kv,h,rfl⟩
 rw [zI1] at this
 split at this
 ·obtain ⟨kw,h1,h2⟩:=ĕ.mp this
  exact .inr ⟨kw,h1,h2⟩
 ·rcases Ĥ.mp this with q | q
  ·obtain ⟨kw,h1,h2⟩:=ĕ.mp q
   exact .inr ⟨kw,h1,h2⟩
  ·exact .inl (ě.mp q)
theorem ä {kvs:List (Key × V)} (h:(kvs.map (·.1)).Nodup) (hk:∀ kv ∈ kvs,∃ z,kv.1 = .inr z):(nms kvs).Nodup:=by
 unfold nms List.Nodup
 unfold List.Nodup at h
 rw [List.pairwise_map] at h ⊢
 refine List.Pairwise.imp_of_mem (fun {a b} ha hb hab e=>hab ?_) h
 obtain ⟨x,hx⟩:=hk a ha
 obtain ⟨y,hy⟩:=hk b hb
 rw [hx,hy] at e ⊢
 have e:x = y:=e
 rw [e]
theorem Ø (kvs:List (Key × V)):(nms kvs).length = kvs.length:=ā ..
theorem RowAt.iff {H:Hp} {kvs:List (Key × V)} {g:Str->Option Rat} (h:RowAt H kvs g) (z:Str):z ∈ nms kvs ↔ (g z).isSome = true:=by
 constructor
 ·intro q
  obtain ⟨kvi,hm,ez⟩:=ĕ.mp q
  obtain ⟨y,hy⟩:=h.keys kvi hm
  obtain ⟨j,hj,ej⟩:=Ĺ hm
  have hval:=Ŵ h.nodup (i:=j) (p:=kvi) (by rw [Č hj,ej])
  have eyz:y = z:=by rw [hy] at ez; exact ez
  rw [hy,eyz] at hval
  cases q2:g z with
  | none=>rw [h.not z q2] at hval; cases hval
  | some r=>rfl
 ·intro q
  obtain ⟨r,hr⟩:=Option.isSome_iff_exists.mp q
  obtain ⟨v,h1,_⟩:=h.has z r hr
  exact zG9 h1
theorem RowAt.len {H:Hp} {kvs:List (Key × V)} {f:Str->Rat} {L:List Str} (h:RowAt H kvs (op f)) (hf:∀ z,f z ≠ 0->z ∈ L):kvs.length <= L.length:=by
 rw [<- Ø]
 exact Ú (ä h.nodup h.keys) fun z hz=>hf z (op_some.mp ((h.iff z).mp hz))
theorem RowAt.len_eq {H H':Hp} {ka kb:List (Key × V)} {g:Str->Option Rat} (h:RowAt H ka g) (h':RowAt H' kb g):ka.length = kb.length:=by
 rw [<- Ø,<- Ø]
 exact Nat.le_antisymm (Ú (ä h.nodup h.keys) fun z hz=>(h'.iff z).mpr ((h.iff z).mp hz)) (Ú (ä h'.nodup h'.keys) fun z hz=>(h.iff z).mpr ((h'.iff z).mp hz))
theorem RowAt.getD {H:Hp} {kvs:List (Key × V)} {g:Str->Option Rat} (h:RowAt H kvs g) {w:V} (hw:FrV H w 0) (z:Str):FrV H ((valV kvs (.inr z)).getD w) ((g z).getD 0):=by
 cases q:g z with
 | none=>rw [h.not z q]; exact hw
 | some r=>obtain ⟨v,h1,h2⟩:=h.has z r q; rw [h1]; exact h2
theorem RowAt.at {H:Hp} {kvs:List (Key × V)} {g:Str->Option Rat} (h:RowAt H kvs g) {i:Nat} {p:Key × V} (hp:kvs[i]? = some p):∃ z r,p.1 = .inr z /\ g z = some r /\ FrV H p.2 r /\ z ∉ nms (kvs.take i) /\ nms (kvs.take (i + 1)) = nms (kvs.take i) ++ [z]:=by
 obtain ⟨z,hz⟩:=h.keys p (ċ hp)
 have hval:=Ŵ h.nodup hp
 rw [hz] at hval
 refine ⟨z,?_⟩
 cases q:g z with
 | none=>rw [h.not z q] at hval; cases hval
 | some r =>
  obtain ⟨v',h1,h2⟩:=h.has z r q
  rw [hval] at h1; cases h1
  refine ⟨r,hz,rfl,h2,yQ2 h.nodup hp hz h.keys,?_⟩
  unfold nms
  rw [ĺ,hp,ė]
  show _ ++ [nmz p.1] = _
  rw [hz]; rfl
theorem RowAt.unit {H:Hp} {f:Addr} (n:Str) (h:FrV H (.ref f) 1):RowAt H (Ι [] [(.inr n,.ref f)]) (op (dlt n)):=by
 have e:(fun y=>if y = n then some (1:Rat) else (fun _=>none:Str->Option Rat) y) = op (dlt n):=by
  funext y
  unfold op dlt
  by_cases q:y = n
  ·rw [if_pos q,if_pos q,if_neg (by decide)]
  ·rw [if_neg q,if_neg q,if_pos rfl]
 rw [<- e]
 exact (RowAt.nil H).put (z:=n) h
theorem zV1 {g f:Str->Rat} {t:Rat} (hg:∀ z,0 <= g z) (hf:∀ z,0 <= f z) (ht:0 <= t):addR (op g) (op f) t = op fun z=>g z + f z * t:=by
 unfold addR
 split
 ·rename_i e
  subst e
  congr 1
  funext z
  rw [Rat.mul_zero,Ŋ]
 ·rename_i e
  funext z
  by_cases q:f z = 0
  ·have n:¬ (op f z).isSome = true:=fun h=>op_some.mp h q
   rw [if_neg n]
   have e2:g z + f z * t = g z:=by rw [q,ō,Ŋ]
   show op g z = op (fun z=>g z + f z * t) z
   unfold op
   show _ = if g z + f z * t = 0 then none else some (g z + f z * t)
   rw [e2]
  ·rw [if_pos (op_some.mpr q),ζ,ζ]
   have h1:0 < f z * t:=Rat.mul_pos (yF4 (hf z) q) (yF4 ht e)
   have n:g z + f z * t ≠ 0:=by have:=hg z; grind
   show _ = if g z + f z * t = 0 then none else some (g z + f z * t)
   rw [if_neg n]
inductive Stp where
 | br (z:Str) (yr:Int) (x:Str) (q:Rat)
 | ps (x y:Str) (t:Rat)
noncomputable abbrev Lay (z:Str):Prop:=(PyData.str z).canLay0 = true
noncomputable def bwS:Stp->(Str->Str->Rat)->(Str->Str->Rat)
 | .br _ _ _ _,R=>R
 | .ps x y t,R=>bw x y t R
noncomputable def fwS:Stp->(Str->Rat)->(Str->Rat)
 | .br _ _ _ _,v=>v
 | .ps x y t,v=>fw x y t v
noncomputable def dnS:Stp->Nat
 | .br _ _ _ _=>1
 | .ps _ _ t=>t.den
noncomputable def OkS (L:List Str):Stp->Prop
 | .br z _ x _=>x ∈ L /\ Lay z
 | .ps x y t=>x ∈ L /\ y ∈ L /\ x ≠ y /\ 0 <= t /\ t <= 1 /\ t.den < 2 ^ 40
noncomputable def ο (R:Str->Str->Rat):List Stp->Str->Str->Rat
 | []=>R
 | s :: ss=>bwS s (ο R ss)
noncomputable def back (ss:List Stp):Str->Str->Rat:=ο dlt ss
noncomputable def Î:List Stp->Nat
 | []=>1
 | s :: ss=>Î ss * dnS s
theorem zQ5 (R:Str->Str->Rat) (s:Stp):∀ ss:List Stp,ο R (ss ++ [s]) = ο (bwS s R) ss
 | []=>rfl
 | a :: ss=>by
  show bwS a (ο R (ss ++ [s])) = bwS a (ο (bwS s R) ss)
  rw [zQ5 R s ss]
theorem zU8 (x y:Str) (t:Rat) (R:Str->Str->Rat):∀ ss:List Stp,ο (fun n=>fw x y t (R n)) ss = fun n=>fw x y t (ο R ss n)
 | []=>rfl
 | .br _ _ _ _ :: ss=>zU8 x y t R ss
 | .ps x' y' t' :: ss=>by
  show bw x' y' t' (ο (fun n=>fw x y t (R n)) ss) = fun n=>fw x y t (bw x' y' t' (ο R ss) n)
  rw [zU8 x y t R ss,xR3]
theorem zO6 {L:List Str} (ss:List Stp) {s:Stp} (h:OkS L s):back (ss ++ [s]) = fun n=>fwS s (back ss n):=by
 unfold back
 rw [zQ5]
 cases s with
 | br _ _ _ _=>rfl
 | ps x y t =>
  show ο (bw x y t dlt) ss = fun n=>fw x y t (ο dlt ss n)
  rw [xN4 t h.2.2.1,zU8]
theorem ï {L:List Str} (hn:L.Nodup):∀ {ss:List Stp},(∀ s ∈ ss,OkS L s)->Good L (Î ss) (back ss)
 | [],_=>Good.dlt hn
 | .br _ _ _ _ :: ss,h=>by
  have g:=ï hn (ss:=ss) fun s hs=>h s (Ă _ hs)
  show Good L (Î ss * 1) (back ss)
  rw [Nat.mul_one]; exact g
 | .ps x y t :: ss,h=>by
  have g:=ï hn (ss:=ss) fun s hs=>h s (Ă _ hs)
  obtain ⟨hx,hy,_,h0,h1,_⟩:=h _ ă
  exact g.bw hx hy h0 h1
theorem xH5:∀ s:Stp,0 < dnS s
 | .br _ _ _ _=>Nat.one_pos
 | .ps _ _ t=>t.den_pos
theorem xM8 {L:List Str}:∀ {s:Stp},OkS L s->dnS s <= 2 ^ 40
 | .br _ _ _ _,_=>Nat.one_le_two_pow
 | .ps _ _ _,h=>Ś h.2.2.2.2.2
theorem ú:∀ ss:List Stp,0 < Î ss
 | []=>Nat.one_pos
 | s :: ss=>Ľ (ú ss) (xH5 s)
theorem yF2 {L:List Str}:∀ {ss:List Stp},(∀ s ∈ ss,OkS L s)->Î ss < 2 ^ (40 * ss.length + 1)
 | [],_=>by decide
 | s :: ss,h=>by
  have g:=yF2 (ss:=ss) fun s hs=>h s (Ă _ hs)
  have e:40 * (s :: ss).length + 1 = (40 * ss.length + 1) + 40:=by rw [ģ]; omega
  rw [e,ī]
  exact Nat.mul_lt_mul_of_lt_of_le g (xM8 (h s ă)) (Nat.two_pow_pos _)
theorem _root_.Tc.IsM.bd {P k n:Nat} {r:Rat} (hP:0 < P) (hk:1 <= k) (hb:k * P < 2 ^ n) (h:IsM P k r):Bd n r:=by
 obtain ⟨m,hm,rfl⟩:=h.eq hP
 refine Bd.divInt (by omega) ?_ ?_
 ·show m < 2 ^ n
  omega
 ·show P < 2 ^ n
  have:=Ė P hk
  omega
theorem zN0 {L:List Str} {ss:List Stp} (h:∀ s ∈ ss,OkS L s) (hl:ss.length <= 64) {k:Nat} (hk:k <= 16):k * Î ss < 2 ^ 2600:=by
 have h1:=yF2 h
 have h2:2 ^ (40 * ss.length + 1) <= 2 ^ 2561:=Δ (by omega)
 have h3:k * Î ss < 2 ^ 4 * 2 ^ 2561:=Ę (Ė _ hk) (Nat.mul_lt_mul_of_pos_left (ď h1 h2) (by decide))
 rw [<- ī] at h3
 exact ď h3 (Δ (by decide))
theorem _root_.Tc.Bd.share {t:Rat} (h0:0 <= t) (h1:t <= 1) (hd:t.den < 2 ^ 40):Bd 50 t /\ Bd 50 (1 - t):=by
 have a:=(IsM.one 1).mulL h0 h1
 have b:=(IsM.one 1).mulR h0 h1
 rw [Rat.one_mul,Ř] at a b
 have hb:1 * t.den < 2 ^ 50:=ď (by omega) (Δ (m:=40) (by decide))
 exact ⟨a.bd t.den_pos (ą _) hb,b.bd t.den_pos (ą _) hb⟩
noncomputable def StV (H:Hp) (v:V):Stp->Prop
 | .br z yr x q=>∃ a l f,v = .ref a /\ H a = some (.tup [.str "bring",.ref l,.str x,f]) /\ H l = some (.tup [.str z,.int yr]) /\ FrV H f q
 | .ps x y t=>∃ a f,v = .ref a /\ H a = some (.tup [.str "pass",.str x,.str y,f]) /\ FrV H f t
theorem StV.tup {H H':Hp} (s:∀ a xs,H a = some (.tup xs)->H' a = some (.tup xs)):∀ {v:V} {st:Stp},StV H v st->StV H' v st
 | _,.br _ _ _ _,⟨a,l,f,e,h1,h2,h3⟩=>⟨a,l,f,e,s _ _ h1,s _ _ h2,h3.tup s⟩
 | _,.ps _ _ _,⟨a,f,e,h1,h3⟩=>⟨a,f,e,s _ _ h1,h3.tup s⟩
theorem StV.same {H H':Hp} {v:V} {st:Stp} (h:StV H v st) (s:Same H H'):StV H' v st:=h.tup fun _ _ e=>s _ _ e
theorem Ö {H H':Hp} {xs:List V} {ss:List Stp} (h:Paired (StV H) xs ss) (s:Same H H'):Paired (StV H') xs ss:=Paired.mapP h fun _ _ f=>f.same s
structure TabAt (H0 H:Hp) (rw:Addr) (rows:List (Key × V)) (L:List Str) (R:Str->Str->Rat) (ad:Str->Addr):Prop where
 nodup:(rows.map (·.1)).Nodup
 keys:∀ kv ∈ rows,∃ z,kv.1 = .inr z /\ z ∈ L
 row:∀ n ∈ L,valV rows (.inr n) = some (.ref (ad n)) /\ H0 (ad n) = none /\ ∃ kvs,H (ad n) = some (.dK kvs) /\ RowAt H kvs (op (R n))
 inj:∀ n ∈ L,∀ m ∈ L,ad n = ad m->n = m
 apart:∀ n ∈ L,ad n ≠ rw
theorem TabAt.nil (H0 H:Hp) (rw:Addr) (R:Str->Str->Rat) (ad:Str->Addr):TabAt H0 H rw [] [] R ad:=⟨List.nodup_nil,(fun _ z=>nomatch z),(fun _ z=>nomatch z),(fun _ z=>nomatch z),fun _ z=>nomatch z⟩
theorem TabAt.same {H0 H H':Hp} {rw:Addr} {rows:List (Key × V)} {L:List Str} {R:Str->Str->Rat} {ad:Str->Addr} (T:TabAt H0 H rw rows L R ad) (s:Same H H'):TabAt H0 H' rw rows L R ad :=
 ⟨T.nodup,T.keys,fun n hn=>(let ⟨a,b,kvs,c,d⟩:=T.row n hn; ⟨a,b,kvs,s _ _ c,d.same fun _ _ f=>f.same s⟩),T.inj,T.apart⟩
theorem TabAt.len {H0 H:Hp} {rw:Addr} {rows:List (Key × V)} {L:List Str} {R:Str->Str->Rat} {ad:Str->Addr} (T:TabAt H0 H rw rows L R ad) (hn:L.Nodup):rows.length = L.length:=by
 rw [<- Ø]
 refine Nat.le_antisymm (Ú (ä T.nodup fun kv h=>(let ⟨z,e,_⟩:=T.keys kv h; ⟨z,e⟩)) fun z hz=>?_) (Ú hn fun z hz=>zG9 (T.row z hz).1)
 obtain ⟨kv,h1,h2⟩:=ĕ.mp hz
 obtain ⟨y,h3,h4⟩:=T.keys kv h1
 rw [h3] at h2
 have h2:y = z:=h2
 rw [<- h2]; exact h4
theorem TabAt.put {H0 H H':Hp} {rw:Addr} {rows:List (Key × V)} {L L':List Str} {R R':Str->Str->Rat} {ad:Str->Addr} (T:TabAt H0 H rw rows L R ad) {n:Str} {q:Addr} {kvs:List (Key × V)} (hq0:H0 q = none) (hq:H q = none) (hqr:q ≠ rw)
  (hk:∀ c o,H c = some o->c ≠ rw->H' c = some o) (hH:∀ v r,FrV H v r->FrV H' v r) (hr:H' q = some (.dK kvs)) (row:RowAt H' kvs (op (R' n))) (hR:∀ m ∈ L,m ≠ n->R' m = R m) (hL:∀ z,z ∈ L' ↔ z ∈ L \/ z = n) :
  TabAt H0 H' rw (putK rows (.inr n) (.ref q)) L' R' (fun z=>if z = n then q else ad z):=by
 have old:∀ m,m ∈ L'->m ≠ n->m ∈ L:=fun m hm e=>by
  rcases (hL m).mp hm with z | z
  ·exact z
  ·exact absurd z e
 have ne:∀ m ∈ L,ad m ≠ q:=fun m hm e=>by
  obtain ⟨_,_,kv,c,_⟩:=T.row m hm
  rw [e,hq] at c; cases c
 refine ⟨yQ1 T.nodup,fun kv h=>?_,fun m hm=>?_,fun m hm l hl e=>?_,fun m hm=>?_⟩
 ·rcases xG4 h with e | ⟨kw,h1,h2⟩
  ·exact ⟨n,e,(hL n).mpr (.inr rfl)⟩
  ·obtain ⟨z,e,hz⟩:=T.keys kw h1
   exact ⟨z,h2 ▸ e,(hL z).mpr (.inl hz)⟩
 ·rw [zH0]
  by_cases e:m = n
  ·subst e
   rw [if_pos rfl,if_pos rfl]
   exact ⟨rfl,hq0,kvs,hr,row⟩
  ·obtain ⟨a,b,kv,c,d⟩:=T.row m (old m hm e)
   rw [if_neg fun z=>e (Sum.inr.inj z),if_neg e]
   refine ⟨a,b,kv,hk _ _ c (T.apart m (old m hm e)),?_⟩
   rw [hR m (old m hm e) e]
   exact d.same hH
 ·by_cases e1:m = n
  ·by_cases e2:l = n
   ·rw [e1,e2]
   ·rw [if_pos e1,if_neg e2] at e
    exact absurd e.symm (ne l (old l hl e2))
  ·by_cases e2:l = n
   ·rw [if_neg e1,if_pos e2] at e
    exact absurd e (ne m (old m hm e1))
   ·rw [if_neg e1,if_neg e2] at e
    exact T.inj m (old m hm e1) l (old l hl e2) e
 ·by_cases e1:m = n
  ·rw [if_pos e1]; exact hqr
  ·rw [if_neg e1]; exact T.apart m (old m hm e1)
noncomputable def zM3 (K:Ā):Sp:=fun vs H Q _=>∃ (an:Addr) (L:List Str),vs = [.ref an] /\ SqL K H an (L.map V.str) /\ L.Nodup /\ L.length <= 8 /\ ∀ p H' rows ad,H p = none->Same H H'->H' p = some (.dK rows)->TabAt H H' p rows L dlt ad->Q (.ref p) H'
noncomputable def xI7 (K:Ā):Sp:=fun vs H Q _=>∃ (an as:Addr) (L:List Str) (xs:List V) (ss:List Stp),vs = [.ref an,.ref as] /\ SqL K H an (L.map V.str) /\ L.Nodup /\ L.length <= 8 /\ SqL K H as xs /\ Paired (StV H) xs ss /\ (∀ s ∈ ss,OkS L s) /\ ss.length <= 64 /\
 ∀ p H' rows ad,H p = none->Same H H'->H' p = some (.dK rows)->TabAt H H' p rows L (back ss) ad->Q (.ref p) H'
theorem _root_.Tc.IsM.mono {P k j:Nat} {r:Rat} (h:IsM P k r) (hk:k <= j):IsM P j r:=by
 obtain ⟨a,m,b,c⟩:=h
 exact ⟨a,m,č b (Ė _ hk),c⟩
theorem zQ7 {P:Nat} {f:Str->Rat} (h:∀ z,IsM P 1 (f z)):∀ l:List Str,IsM P l.length (sumL l f)
 | []=>IsM.zero P 0
 | z :: l=>by
  rw [Í,Rat.add_comm]
  exact (zQ7 h l).add (h z)
theorem zG6 {L:List Str} {i:Nat} {x:V} (h:(L.map V.str)[i]? = some x):∃ n,x = .str n /\ L[i]? = some n:=by
 rw [đ] at h
 cases q:L[i]? with
 | none=>rw [q] at h; cases h
 | some n=>rw [q] at h; exact ⟨n,(Option.some.inj h).symm,rfl⟩
theorem zH9 {L:List Str} {i:Nat} {n:Str} (h:L[i]? = some n) (z:Str):z ∈ L.take (i + 1) ↔ z ∈ L.take i \/ z = n:=by
 rw [ĺ,h]
 simp
noncomputable def ch8 (j:Nat):Nat:=(("abcdefgh":Str).cps.toList).getD j 0
noncomputable def nm8 (b:Str) (s k:Nat):Str:=b ++ one1 (ch8 ((k + s) % 8))
theorem xN3 {j:Nat} (h:j < 8):atI (("abcdefgh":Str).cps.toList) ((j:Nat):Int) = some (ch8 j):=by
 have:j = 0 \/ j = 1 \/ j = 2 \/ j = 3 \/ j = 4 \/ j = 5 \/ j = 6 \/ j = 7:=by omega
 rcases this with rfl | rfl | rfl | rfl | rfl | rfl | rfl | rfl <;> decide +kernel
noncomputable def yE3:Sp:=fun vs H Q _=>∃ (a b:Addr) (ka kb:List (Key × V)) (f:Str->Option Rat),vs = [.ref a,.ref b] /\ a ≠ b /\ H a = some (.dK ka) /\ H b = some (.dK kb) /\ RowAt H ka f /\ RowAt H kb f /\ ∀ H',Same H H'->Q (.bl true) H'
theorem lay3:∀ z ∈ (["ab","b","ba"]:List Str),(PyData.str z).canLay0 = true:=by decide +kernel
theorem xH0 {ms:List Int} {i:Nat} {x:V} (h:(ms.map V.int)[i]? = some x):∃ n,x = .int n /\ ms[i]? = some n:=by
 rw [đ] at h
 cases q:ms[i]? with
 | none=>rw [q] at h; cases h
 | some n=>rw [q] at h; exact ⟨n,(Option.some.inj h).symm,rfl⟩
theorem repT {K:Ā} {H:Hp} {a:Addr} {vs:List V} {xs:List PyData} (h:SqT K H a vs) (r:RepDs K H xs vs):RepD K H (.tuple xs) (.ref a):=by simp only [RepD]; exact ⟨a,vs,rfl,h,r⟩
theorem repL {K:Ā} {H:Hp} {a:Addr} {vs:List V} {xs:List PyData} (h:SqL K H a vs) (r:RepDs K H xs vs):RepD K H (.list xs) (.ref a):=by simp only [RepD]; exact ⟨a,vs,rfl,h,r⟩
theorem τ {K:Ā} {H:Hp}:RepDs K H [] []:=by simp [RepDs]
theorem Μ {K:Ā} {H:Hp} {d:PyData} {v:V} {ds:List PyData} {vs:List V} (h:RepD K H d v) (r:RepDs K H ds vs):RepDs K H (d :: ds) (v :: vs):=by simp only [RepDs]; exact ⟨_,_,rfl,h,r⟩
theorem repS {K:Ā} {H:Hp} {z:Str} (h:Lay z):RepD K H (.str z) (.str z):=by rw [RepD]; exact ⟨rfl,h⟩
theorem repI {K:Ā} {H:Hp} {i:Int}:RepD K H (.int i) (.int i):=by rw [RepD]
noncomputable def dSt:Stp->PyData
 | .br z yr x q=>.tuple [.str "bring",.tuple [.str z,.int yr],.str x,pq q.num q.den]
 | .ps x y t=>.tuple [.str "pass",.str x,.str y,pq t.num t.den]
theorem StV.rep {K:Ā} {H:Hp} {L:List Str} (hl:∀ z ∈ L,Lay z):∀ {v:V} {s:Stp},StV H v s->OkS L s->RepD K H (dSt s) v
 | _,.br z yr x q,⟨a,l,f,e,h1,h2,h3⟩,ok=>by
  subst e
  exact repT (SqT.of h1) (Μ (repS (by decide +kernel)) (Μ (repT (SqT.of h2) (Μ (repS ok.2) (Μ repI τ))) (Μ (repS (hl _ ok.1)) (Μ h3.rep τ))))
 | _,.ps x y t,⟨a,f,e,h1,h3⟩,ok=>by
  subst e
  exact repT (SqT.of h1) (Μ (repS (by decide +kernel)) (Μ (repS (hl _ ok.1)) (Μ (repS (hl _ ok.2.1)) (Μ h3.rep τ))))
theorem zW7 {K:Ā} {H:Hp} {L:List Str} (hl:∀ z ∈ L,Lay z):∀ {xs:List V} {ss:List Stp},Paired (StV H) xs ss->(∀ s ∈ ss,OkS L s)->RepDs K H (ss.map dSt) xs
 | _,_,.nil,_=>τ
 | _,_,.cons r t,h=>Μ (r.rep hl (h _ ă)) (zW7 hl t fun s hs=>h s (Ă _ hs))
theorem zW8 {K:Ā} {H:Hp}:∀ {L:List Str},(∀ z ∈ L,Lay z)->RepDs K H (L.map PyData.str) (L.map V.str)
 | [],_=>τ
 | _ :: _,h=>Μ (repS (h _ ă)) (zW8 fun z hz=>h z (Ă _ hz))
theorem zI5 {α:Type} {f:α->PyData} {n:Nat} (h:∀ a,(f a).depth <= n):∀ l:List α,PyData.depthAll (l.map f) <= n
 | []=>by simp [PyData.depthAll]
 | a :: l=>by
  rw [ĸ]; simp only [PyData.depthAll]
  have:=h a
  have:=zI5 h l
  omega
theorem yU6 (s:Stp):(dSt s).depth <= 10:=by
 cases s <;> simp [dSt,pq,PyData.depth,PyData.depthAll]
inductive Plc where
 | ck (z:Str) (r:Rat)
 | sk (z:Str)
noncomputable def nmP:Plc->Str
 | .ck z _=>z
 | .sk z=>z
noncomputable def isC:Plc->Bool
 | .ck _ _=>true
 | .sk _=>false
noncomputable def kd (b:Bool):Str:=if b then "cask" else "sink"
noncomputable def PlV (H:Hp) (v:V):Plc->Prop
 | .ck z r=>∃ a f,v = .ref a /\ H a = some (.tup [.str "cask",.str z,f]) /\ FrV H f r
 | .sk z=>∃ a,v = .ref a /\ H a = some (.tup [.str "sink",.str z])
theorem PlV.tup {H H':Hp} (s:∀ a xs,H a = some (.tup xs)->H' a = some (.tup xs)):∀ {v:V} {p:Plc},PlV H v p->PlV H' v p
 | _,.ck _ _,⟨a,f,e,h1,h2⟩=>⟨a,f,e,s _ _ h1,h2.tup s⟩
 | _,.sk _,⟨a,e,h1⟩=>⟨a,e,s _ _ h1⟩
theorem PlV.same {H H':Hp} {v:V} {p:Plc} (h:PlV H v p) (s:Same H H'):PlV H' v p:=h.tup fun _ _ e=>s _ _ e
theorem PlV.at {H:Hp}:∀ {v:V} {p:Plc},PlV H v p->∃ a ys,v = .ref a /\ H a = some (.tup ys) /\ atI ys 0 = some (.str (kd (isC p))) /\ atI ys 1 = some (.str (nmP p))
 | _,.ck _ _,⟨a,f,e,h1,h2⟩=>⟨a,_,e,h1,rfl,rfl⟩
 | _,.sk _,⟨a,e,h1⟩=>⟨a,_,e,h1,rfl,rfl⟩
theorem Ð {H H':Hp} {xs:List V} {ps:List Plc} (h:Paired (PlV H) xs ps) (s:Same H H'):Paired (PlV H') xs ps:=Paired.mapP h fun _ _ f=>f.same s
noncomputable def allN (ps:List Plc):List Str:=ps.map nmP
noncomputable def ckN (ps:List Plc):List Str:=(ps.filter isC).map nmP
structure HouseOk (ps:List Plc):Prop where
 nd:(allN ps).Nodup
 lay:∀ z ∈ allN ps,Lay z
 len:ps.length <= 8
theorem ż {ps:List Plc} {z:Str} (h:z ∈ ckN ps):z ∈ allN ps:=by
 obtain ⟨p,hp,e⟩:=ĕ.mp h
 exact ĕ.mpr ⟨p,(ġ.mp hp).1,e⟩
theorem HouseOk.ck {ps:List Plc} (h:HouseOk ps):(ckN ps).Nodup:=h.nd.sublist (List.filter_sublist.map nmP)
theorem zZ4 {ps:List Plc}:(ckN ps).length <= ps.length:=by
 unfold ckN
 rw [ā]
 exact Į _ _
noncomputable def resC (C:List Str) (R:Str->Str->Rat):Str->Str->Rat:=fun n z=>if z ∈ C then R n z else 0
noncomputable def all (L:List Str) (f:Str->Rat):Str->Option Rat:=fun z=>if z ∈ L then some (f z) else none
theorem Γ (L:List Str) (f:Str->Rat) (n:Str):all (L ++ [n]) f = fun y=>if y = n then some (f n) else all L f y:=by
 funext y
 unfold all
 by_cases e:y = n
 ·subst e; simp
 ·simp [e]
theorem δ (f:Str->Rat):all [] f = fun _=>none:=by funext z; simp [all]
noncomputable def zM4 (K:Ā):Sp:=fun vs H Q _=>∃ (a:Addr) (xs:List V) (ps:List Plc),vs = [.ref a] /\ SqL K H a xs /\ Paired (PlV H) xs ps /\ ps.length <= 8 /\ ∀ p H',H p = none->Same H H'->H' p = some (.lst ((allN ps).map V.str))->Q (.ref p) H'
noncomputable def zM5 (K:Ā):Sp:=fun vs H Q _=>∃ (a:Addr) (xs:List V) (ps:List Plc),vs = [.ref a] /\ SqL K H a xs /\ Paired (PlV H) xs ps /\ ps.length <= 8 /\ ∀ p H',H p = none->Same H H'->H' p = some (.lst ((ckN ps).map V.str))->Q (.ref p) H'
noncomputable def yM1 (K:Ā):Sp:=fun vs H Q _=>∃ (a:Addr) (xs:List V) (ps:List Plc) (b:Bool),vs = [.ref a,.str (kd b)] /\ SqL K H a xs /\ Paired (PlV H) xs ps /\ ps.length <= 8 /\ ∀ p H',H p = none->Same H H'->H' p = some (.lst (((ps.filter fun q=>isC q == b).map nmP).map V.str))->Q (.ref p) H'
noncomputable def yM0 (K:Ā):Sp:=fun vs H Q _=>∃ (a b:Addr) (kv:List (Key × V)) (C:List Str) (f:Str->Rat),vs = [.ref a,.ref b] /\ H a = some (.dK kv) /\ RowAt H kv (op f) /\ SqL K H b (C.map V.str) /\ C.length <= 8 /\
 ∀ p H' kv',H p = none->Same H H'->H' p = some (.dK kv')->RowAt H' kv' (op fun z=>if z ∈ C then f z else 0)->Q (.ref p) H'
noncomputable def zF7 (K:Ā):Sp:=fun vs H Q _=>∃ (ah as:Addr) (xs:List V) (ps:List Plc) (ys:List V) (ss:List Stp),vs = [.ref ah,.ref as] /\ SqL K H ah xs /\ Paired (PlV H) xs ps /\ HouseOk ps /\ SqL K H as ys /\ Paired (StV H) ys ss /\ (∀ s ∈ ss,OkS (allN ps) s) /\ ss.length <= 40 /\
 ∀ p H' rows ad,H p = none->Same H H'->H' p = some (.dK rows)->TabAt H H' p rows (ckN ps) (resC (ckN ps) (back ss)) ad->Q (.ref p) H'
theorem xK4 {f:Str->Rat} {C:List Str} {n:Str} (hf:f n ≠ 0):(fun y=>if y = n then some (f n) else op (fun z=>if z ∈ C then f z else 0) y) = op fun z=>if z ∈ C ++ [n] then f z else 0:=by
 funext y
 by_cases e:y = n
 ·subst e; simp [op,hf]
 ·simp [op,e]
theorem xF5 {f:Str->Rat} {C:List Str} {n:Str} (hf:f n = 0):(op fun z=>if z ∈ C then f z else 0) = op fun z=>if z ∈ C ++ [n] then f z else 0:=by
 funext y
 by_cases e:y = n
 ·subst e; simp [op,hf]
 ·simp [op,e]
theorem Û {α:Type} {L:List α} {i:Nat} {n:α} (h:L[i]? = some n):L.take (i + 1) = L.take i ++ [n]:=by rw [ĺ,h]; rfl
theorem TabAt.mem {H0 H:Hp} {rw:Addr} {rows:List (Key × V)} {L L':List Str} {R:Str->Str->Rat} {ad:Str->Addr} (T:TabAt H0 H rw rows L R ad) (h:∀ z,z ∈ L' ↔ z ∈ L):TabAt H0 H rw rows L' R ad :=
 ⟨T.nodup,fun kv hk=>(let ⟨z,e,m⟩:=T.keys kv hk; ⟨z,e,(h z).mpr m⟩),fun n hn=>T.row n ((h n).mp hn),fun n hn m hm e=>T.inj n ((h n).mp hn) m ((h m).mp hm) e,fun n hn=>T.apart n ((h n).mp hn)⟩
theorem yB3 {α β:Type} {F:α->β->Prop} {xs:List α} {ys:List β} (h:Paired F xs ys) {y:β} (hy:y ∈ ys):∃ x,x ∈ xs /\ F x y:=by
 induction h with
 | nil=>cases hy
 | cons r t ih =>
  rcases Ē.mp hy with e | e
  ·exact ⟨_,ă,e ▸ r⟩
  ·obtain ⟨x,h1,h2⟩:=ih e
   exact ⟨x,Ă _ h1,h2⟩
theorem yI7 {α β:Type} {F G:α->β->Prop} {xs:List α} {ys:List β} (h:Paired F xs ys) (k:∀ x y,y ∈ ys->F x y->G x y):Paired G xs ys:=by
 induction h with
 | nil=>exact .nil
 | cons r t ih=>exact .cons (k _ _ ă r) (ih fun x y hy f=>k x y (Ă _ hy) f)
set_option genInjectivity false in
structure Br where
 z:Str
 yr:Int
 q:Rat
 g:Str->Rat
noncomputable def brL:List Stp->List Br
 | []=>[]
 | .br z yr x q :: ss=>⟨z,yr,q,back ss x⟩ :: brL ss
 | .ps _ _ _ :: ss=>brL ss
noncomputable def adv (s:Stp) (b:Br):Br:=⟨b.z,b.yr,b.q,fwS s b.g⟩
noncomputable def newB:Stp->List Br
 | .br z yr x q=>[⟨z,yr,q,dlt x⟩]
 | .ps _ _ _=>[]
theorem zU7 {L:List Str} (s:Stp) (h:OkS L s):∀ ss:List Stp,brL (ss ++ [s]) = (brL ss).map (adv s) ++ newB s
 | []=>by cases s <;> rfl
 | .br z yr x q :: ss=>by
  show (⟨z,yr,q,back (ss ++ [s]) x⟩:Br) :: brL (ss ++ [s]) = _
  rw [zU7 s h ss,zO6 ss h]; rfl
 | .ps _ _ _ :: ss=>zU7 s h ss
theorem zO4:∀ ss:List Stp,(brL ss).length <= ss.length
 | []=>ą _
 | .br _ _ _ _ :: ss=>Nat.succ_le_succ (zO4 ss)
 | .ps _ _ _ :: ss=>Nat.le_succ_of_le (zO4 ss)
theorem yD1 {L:List Str}:∀ {ss:List Stp},(∀ s ∈ ss,OkS L s)->∀ b ∈ brL ss,∃ n x,x ∈ L /\ b.g = back (ss.drop n) x
 | .br z yr x q :: ss,h,b,hb=>by
  rcases Ē.mp hb with e | e
  ·exact ⟨1,x,(h _ ă).1,by rw [e]; rfl⟩
  ·obtain ⟨n,y,hy,eg⟩:=yD1 (ss:=ss) (fun s hs=>h s (Ă _ hs)) b e
   exact ⟨n + 1,y,hy,eg⟩
 | .ps _ _ _ :: ss,h,b,hb=>by
  obtain ⟨n,y,hy,eg⟩:=yD1 (ss:=ss) (fun s hs=>h s (Ă _ hs)) b hb
  exact ⟨n + 1,y,hy,eg⟩
noncomputable def BrV (H:Hp) (v:V) (bd:Br × Addr):Prop:=∃ a l f kvs,v = .ref a /\ H a = some (.tup [.ref l,f,.ref bd.2]) /\ H l = some (.tup [.str bd.1.z,.int bd.1.yr]) /\ FrV H f bd.1.q /\ H bd.2 = some (.dK kvs) /\ RowAt H kvs (op bd.1.g)
theorem BrV.keep {H H':Hp} {v:V} {bd:Br × Addr} (h:BrV H v bd) (s:∀ a xs,H a = some (.tup xs)->H' a = some (.tup xs)) (d:∀ kvs,H bd.2 = some (.dK kvs)->H' bd.2 = some (.dK kvs)):BrV H' v bd:=by
 obtain ⟨a,l,f,kvs,e,h1,h2,h3,h4,h5⟩:=h
 exact ⟨a,l,f,kvs,e,s _ _ h1,s _ _ h2,h3.tup s,d _ h4,h5.same fun v r g=>g.tup s⟩
noncomputable def zW3 (K:Ā):Sp:=fun vs H Q _=>∃ (an as:Addr) (L:List Str) (xs:List V) (ss:List Stp),vs = [.ref an,.ref as] /\ SqL K H an (L.map V.str) /\ L.Nodup /\ L.length <= 8 /\ SqL K H as xs /\ Paired (StV H) xs ss /\ (∀ s ∈ ss,OkS L s) /\ ss.length <= 64 /\
 ∀ p H' ys tds,H p = none->Same H H'->H' p = some (.lst ys)->Paired (BrV H') ys tds->tds.map (·.1) = brL ss->(tds.map (·.2)).Nodup->(∀ d ∈ tds.map (·.2),H d = none)->Q (.ref p) H'
noncomputable def Tm:Stp->Prop
 | .br _ _ _ q=>IsM 12 1000 q
 | .ps _ _ t=>t.den <= 99
noncomputable def OkT (L:List Str) (s:Stp):Prop:=OkS L s /\ Tm s
theorem xQ1 {u d:Int} (h0:0 <= u) (h1:u <= 1000) (d1:1 <= d) (d4:d <= 4):IsM 12 1000 (Ě u d):=by
 obtain ⟨n,rfl⟩:=ķ h0
 refine ⟨Rat.divInt_nonneg h0 (by omega),?_⟩
 have hd:d = 1 \/ d = 2 \/ d = 3 \/ d = 4:=by omega
 have e12:((12:Nat):Rat) = 12:=rfl
 have en:(((n:Nat):Int):Rat) = (n:Rat):=rfl
 rcases hd with rfl | rfl | rfl | rfl
 ·refine ⟨n * 12,by omega,?_⟩
  rw [Ļ,Ģ,e12,en]
  have:((1:Int):Rat) = 1:=rfl
  rw [this]; grind
 ·refine ⟨n * 6,by omega,?_⟩
  rw [Ļ,Ģ,e12,en]
  have:((2:Int):Rat) = 2:=rfl
  have:((6:Nat):Rat) = 6:=rfl
  grind
 ·refine ⟨n * 4,by omega,?_⟩
  rw [Ļ,Ģ,e12,en]
  have:((3:Int):Rat) = 3:=rfl
  have:((4:Nat):Rat) = 4:=rfl
  grind
 ·refine ⟨n * 3,by omega,?_⟩
  rw [Ļ,Ģ,e12,en]
  have:((4:Int):Rat) = 4:=rfl
  have:((3:Nat):Rat) = 3:=rfl
  grind
theorem yK4 {d:Int} (h:2 <= d) (hd:d <= 99):(Ě 1 d).den <= 99:=č (zI3 1 d (by omega)) (by omega)
theorem yJ5:∀ b ∈ (["","a","tier","zz"]:List Str),b.length <= 4 /\ ∀ s ∈ Ķ 8,((["out","oust"]:List Str) ++ (Ķ 8).map (nm8 b s)).Nodup /\ ∀ z ∈ (["out","oust"]:List Str) ++ (Ķ 8).map (nm8 b s),(PyData.str z).canLay0 = true:=by decide +kernel
noncomputable def mkC (b:Str) (s k:Nat):Plc:=.ck (nm8 b s k) (Ě (1 + (0 + (k:Int))) 1)
noncomputable def sks:List Plc:=(["out","oust"]:List Str).map Plc.sk
noncomputable def skN (ps:List Plc):List Str:=(ps.filter fun q=>isC q == false).map nmP
noncomputable def yM6:Sp:=fun vs H Q _=>∃ (c:Int) (n s:Nat),vs = [.int c,.int (n:Nat),.int (s:Nat)] /\ 1 <= n /\ n <= 5 /\ s <= 2 /\ ∀ a H' xs ps,H a = none->Same H H'->H' a = some (.lst xs)->Paired (PlV H') xs ps->HouseOk ps->ckN ps ≠ []->(ckN ps).length = n->(1 <= s->skN ps ≠ [])->Q (.ref a) H'
noncomputable def yE4:Sp:=fun vs H Q _=>∃ m f:Int,vs = [.int m,.int f] /\ (f = 0 \/ f = 1) /\ ∀ v H' t,Same H H'->FrV H' v t->0 <= t->t <= 1->t.den <= 99->Q v H'
noncomputable def yL8:Sp:=fun vs H Q _=>∃ (m:Int) (x:Str) (ao:Addr) (os L:List Str) (f:Int),vs = [.int m,.str x,.ref ao,.int f] /\ H ao = some (.lst (os.map V.str)) /\ os.length <= 8 /\ x ∈ L /\ (∀ z ∈ os,z ∈ L /\ z ≠ x /\ Lay z) /\ (f = 0 \/ f = 1) /\
 ∀ v H' st,Same H H'->StV H' v st->OkT L st->Q v H'
theorem xJ7:(10:Int) ^ (5:Int).toNat = 100000:=by decide
theorem yY8 {ps:List Plc} {b:Str} {s0 n s:Nat} (hok:((["out","oust"]:List Str) ++ (Ķ 8).map (nm8 b s0)).Nodup /\ ∀ z ∈ (["out","oust"]:List Str) ++ (Ķ 8).map (nm8 b s0),(PyData.str z).canLay0 = true) (n1:1 <= n) (n5:n <= 5) (s2:s <= 2)
  (h:ps.Perm (sks.take s ++ (Ķ n).map (mkC b s0))):HouseOk ps /\ ckN ps ≠ [] /\ (ckN ps).length = n /\ (1 <= s->skN ps ≠ []):=by
 have hp:(allN ps).Perm ((["out","oust"]:List Str).take s ++ (Ķ n).map (nm8 b s0)):=by
  have:=h.map nmP
  rw [ė] at this
  have e1:(sks.take s).map nmP = (["out","oust"]:List Str).take s:=by
   unfold sks
   rw [<- List.map_take,Ň]
   have:(nmP ∘ Plc.sk) = id:=by funext z; rfl
   rw [this,List.map_id]
  have e2:((Ķ n).map (mkC b s0)).map nmP = (Ķ n).map (nm8 b s0):=by
   rw [Ň]; rfl
  rw [e1,e2] at this
  exact this
 have et:(Ķ n).map (nm8 b s0) = ((Ķ 8).map (nm8 b s0)).take n:=by
  rw [<- List.map_take,List.take_range,Nat.min_eq_left (by omega)]
 have sub:List.Sublist ((["out","oust"]:List Str).take s ++ (Ķ n).map (nm8 b s0)) ((["out","oust"]:List Str) ++ (Ķ 8).map (nm8 b s0)):=by
  rw [et]; exact (Ŝ _ _).append (Ŝ _ _)
 refine ⟨⟨?_,fun z hz=>?_,?_⟩,fun e=>?_,?_,fun hs1 e=>?_⟩
 ·exact hp.nodup_iff.mpr (hok.1.sublist sub)
 ·exact hok.2 z (sub.subset (hp.mem_iff.mp hz))
 ·have:=h.length_eq
  rw [Ĝ,ē,ā,ŝ] at this
  have e:sks.length = 2:=rfl
  omega
 ·have hm:mkC b s0 0 ∈ ps:=h.mem_iff.mpr (ĩ _ (ĕ.mpr ⟨0,List.mem_range.mpr (by omega),rfl⟩))
  have:nmP (mkC b s0 0) ∈ ckN ps:=ĕ.mpr ⟨_,ġ.mpr ⟨hm,rfl⟩,rfl⟩
  rw [e] at this; cases this
 ·have hf:=(h.filter isC).length_eq
  have e1:(ckN ps).length = (ps.filter isC).length:=by unfold ckN; rw [ā]
  rw [Ĭ,Ĝ] at hf
  have e2:(sks.take s).filter isC = []:=by
   rw [List.filter_eq_nil_iff]
   intro p hp
   have hp:=ĵ hp
   unfold sks at hp
   obtain ⟨z,_,e⟩:=ĕ.mp hp
   rw [<- e]; simp [isC]
  have e3:((Ķ n).map (mkC b s0)).filter isC = (Ķ n).map (mkC b s0):=by
   rw [List.filter_eq_self]
   intro p hp
   obtain ⟨z,_,e⟩:=ĕ.mp hp
   rw [<- e]; rfl
  rw [e2,e3,ť,ā,ŝ] at hf
  omega
 ·have hm:Plc.sk "out" ∈ ps:=h.mem_iff.mpr (List.mem_append_left _ (by
   have e1:sks = Plc.sk "out" :: [Plc.sk "oust"]:=rfl
   have e2:s = (s - 1) + 1:=by omega
   rw [e1,e2,List.take_succ_cons]
   exact ă))
  have:nmP (Plc.sk "out") ∈ skN ps:=ĕ.mpr ⟨_,ġ.mpr ⟨hm,rfl⟩,rfl⟩
  rw [e] at this; cases this
theorem xC4:∀ {ps:List Plc},(ps.map nmP).Nodup->∀ p ∈ ps,∀ q ∈ ps,nmP p = nmP q->p = q
 | [],_,_,h,_,_,_=>nomatch h
 | a :: r,hn,p,hp,q,hq,e=>by
  rw [ĸ,Ġ] at hn
  rcases Ē.mp hp with e1 | h1
  ·rcases Ē.mp hq with e2 | h2
   ·rw [e1,e2]
   ·exact absurd (ĕ.mpr ⟨q,h2,by rw [<- e,e1]⟩) hn.1
  ·rcases Ē.mp hq with e2 | h2
   ·exact absurd (ĕ.mpr ⟨p,h1,by rw [e,e2]⟩) hn.1
   ·exact xC4 hn.2 p h1 q h2 e
theorem zE9 (zs:List Str):PyData.eqv (.list (zs.map PyData.str)) (.list []) = zs.isEmpty:=by
 cases zs <;> simp [PyData.eqv,PyData.eqvAll]
theorem zD3 (zs:List Str):(PyData.list (zs.map PyData.str)).depth <= 64:=by
 have h1:=zI5 (f:=PyData.str) (n:=10) (fun a=>by simp [PyData.depth]) zs
 simp only [PyData.depth]
 omega
theorem zF1 {K:Ā} {H:Hp} {a:Addr} {zs:List Str} (h:H a = some (.lst (zs.map V.str))) (l:∀ z ∈ zs,Lay z):RepD K H (.list (zs.map PyData.str)) (.ref a):=repL (SqL.of h) (zW8 l)
theorem zM7 {K:Ā} {H:Hp} {a:Addr} (h:H a = some (.lst [])):RepD K H (.list []) (.ref a):=repL (SqL.of h) τ
theorem zM0 {d:Int} (h:2 <= d) (hd:d < 1000):(1:Int) = (Ě 1 d).num /\ d = ((Ě 1 d).den:Int) /\ 0 <= Ě 1 d /\ Ě 1 d <= 1 /\ (Ě 1 d).den < 2 ^ 40:=by
 have l:=low (n:=1) (d:=d) (by omega) (by simp)
 have f:=xD1 (u:=1) (b:=d) (by decide) (by omega) (by omega)
 exact ⟨l.1.symm,l.2.symm,f.1,f.2,Ę (zI3 1 d (by omega)) (Ę (m:=1000) (by omega) (by decide))⟩
theorem xR2 (ps:List Plc):(ps.filter fun q=>isC q == true).map nmP = ckN ps:=by
 unfold ckN
 congr 1
 apply List.filter_congr
 intro q _
 cases isC q <;> rfl
theorem yN2 {ps:List Plc} {z:Str} (h:z ∈ skN ps):z ∈ allN ps:=by
 obtain ⟨p,hp,e⟩:=ĕ.mp h
 exact ĕ.mpr ⟨p,(ġ.mp hp).1,e⟩
theorem xN2 {ps:List Plc} (ok:HouseOk ps) {x y:Str} (hx:x ∈ ckN ps) (hy:y ∈ skN ps):x ≠ y:=by
 intro e
 obtain ⟨p,hp,e1⟩:=ĕ.mp hx
 obtain ⟨q,hq,e2⟩:=ĕ.mp hy
 obtain ⟨h1,h2⟩:=ġ.mp hp
 obtain ⟨h3,h4⟩:=ġ.mp hq
 have:=xC4 ok.nd p h1 q h3 (by rw [e1,e2,e])
 rw [this] at h2
 rw [h2] at h4; cases h4
theorem yA3 {zs:List Str} {j:Nat} {z:Str} (h:zs[j]? = some z):atI (zs.map V.str) ((j:Nat):Int) = some (.str z):=zK7 (by rw [đ,h]; rfl)
theorem xQ0 {zs:List Str} (h:zs.Nodup) {i j:Nat} {x y:Str} (hi:zs[i]? = some x) (hj:zs[j]? = some y) (n:i < j):x ≠ y:=by
 obtain ⟨hi',ei⟩:=Ą.mp hi
 obtain ⟨hj',ej⟩:=Ą.mp hj
 have:=Ţ.mp h i j hi' hj' n
 rw [ei,ej] at this; exact this
theorem xR1 (ns:List Int):∃ ms:List Int,cutV (ns.map V.int) (some 2) (some 12) = ms.map V.int /\ ms.length <= 10:=by
 have e1:HT.sIx (ns.map V.int).length 0 (some 2) = min 2 (ns.map V.int).length:=HT.sIx_nat _ _ 2
 have e2:HT.sIx (ns.map V.int).length (ns.map V.int).length (some 12) = min 12 (ns.map V.int).length:=HT.sIx_nat _ _ 12
 refine ⟨(ns.drop (HT.sIx (ns.map V.int).length 0 (some 2))).take (HT.sIx (ns.map V.int).length (ns.map V.int).length (some 12) - HT.sIx (ns.map V.int).length 0 (some 2)),?_,?_⟩
 ·unfold cutV
  rw [List.map_take,List.map_drop]
 ·rw [ē,e1,e2,ņ]
  omega
noncomputable def yM7 (K:Ā):Sp:=fun vs H Q _=>∃ (a:Addr) (ns:List Int),vs = [.ref a] /\ SqL K H a (ns.map V.int) /\ ∀ p H' ah as xs ps ys ss,Same H H'->H' p = some (.lst [.ref ah,.ref as])->H' ah = some (.lst xs)->Paired (PlV H') xs ps->HouseOk ps->ckN ps ≠ []->(ckN ps).length <= 5->H' as = some (.lst ys)->Paired (StV H') ys ss->(∀ s ∈ ss,OkT (allN ps) s)->ss.length <= 15->Q (.ref p) H'
noncomputable def stB (b:Bool):Stp->(Str->Rat)->(Str->Rat)
 | .br _ _ x q,f=>if b then fun z=>if z = x then f x + q else f z else f
 | .ps x y t,f=>fw x y t f
noncomputable def ledB (b:Bool) (ss:List Stp) (f:Str->Rat):Str->Rat:=ss.foldl (fun g s=>stB b s g) f
theorem zT5 {b:Bool} {ss:List Stp} {f:Str->Rat} {j:Nat} {s:Stp} (h:ss[j]? = some s):ledB b (ss.take (j + 1)) f = stB b s (ledB b (ss.take j) f):=by
 unfold ledB
 rw [Û h,List.foldl_append]; rfl
theorem zO1 {L:List Str} {ss:List Stp} (hO:∀ s ∈ ss,OkS L s) (n:Str):∀ j,j <= ss.length->ledB false (ss.take j) (dlt n) = back (ss.take j) n
 | 0,_=>rfl
 | j + 1,hj=>by
  obtain ⟨s,hs⟩:∃ s,ss[j]? = some s:=⟨_,Č (by omega)⟩
  rw [zT5 hs,zO1 hO n j (by omega)]
  have es:=zO6 (ss.take j) (hO s (ċ hs))
  rw [<- Û hs] at es
  rw [es]
  cases s <;> rfl
theorem yL3 {α:Type} (l:List α) (a p q:α->Rat) (t u:Rat):∀ (_:DecidableEq α),(sumL l fun i=>a i * (p i * u + q i * t)) = (sumL l fun i=>a i * p i) * u + (sumL l fun i=>a i * q i) * t:=by
 intro inst
 induction l with
 | nil=>simp only [õ]; grind
 | cons x l ih=>rw [Í,Í,Í,ih]; grind
theorem xC9 {α:Type} (l:List α) (a:α->Rat) (g:α->Str->Rat) (x y:Str) (t:Rat) (z:Str):fw x y t (fun z=>sumL l fun i=>a i * g i z) z = sumL l fun i=>a i * fw x y t (g i) z:=by
 unfold fw
 have inst:DecidableEq α:=fun a b=>Classical.propDecidable (a = b)
 by_cases e:z = y
 ·rw [if_pos e]
  have:=yL3 l a (fun i=>g i y) (fun i=>g i x) t 1 inst
  have e2:(sumL l fun i=>a i * if z = y then g i y + g i x * t else if z = x then g i x - g i x * t else g i z) = sumL l fun i=>a i * (g i y * 1 + g i x * t):=by
   congr 1
   funext i
   rw [if_pos e]; grind
  rw [e2,this]; grind
 ·rw [if_neg e]
  by_cases e1:z = x
  ·rw [if_pos e1]
   have:=yL3 l a (fun i=>g i x) (fun i=>g i x) (-t) 1 inst
   have e2:(sumL l fun i=>a i * if z = y then g i y + g i x * t else if z = x then g i x - g i x * t else g i z) = sumL l fun i=>a i * (g i x * 1 + g i x * (-t)):=by
    congr 1
    funext i
    rw [if_neg e,if_pos e1]; grind
   rw [e2,this]; grind
  ·rw [if_neg e1]
   show (sumL l fun i=>a i * g i z) = _
   congr 1
   funext i
   rw [if_neg e,if_neg e1]
theorem xM4 (f g:Str->Rat) (x y:Str) (t:Rat) (z:Str):fw x y t (fun z=>f z + g z) z = fw x y t f z + fw x y t g z:=by
 unfold fw
 split
 ·grind
 ·split <;> grind
noncomputable def bTs (ss:List Stp) (z:Str):Rat:=sumL (brL ss) fun b=>b.q * b.g z
theorem xA2 {L:List Str} {ss:List Stp} {s:Stp} (h:OkS L s) (z:Str):bTs (ss ++ [s]) z = stB true s (bTs ss) z:=by
 have inst:DecidableEq Br:=fun a b=>Classical.propDecidable (a = b)
 unfold bTs
 rw [zU7 s h ss]
 have e1:∀ (l m:List Br) (f:Br->Rat),sumL (l ++ m) f = sumL l f + sumL m f:=fun l m f=>by
  induction l with
  | nil=>rw [List.nil_append,õ,ň]
  | cons a l ih=>rw [List.cons_append,Í,Í,ih,Rat.add_assoc]
 have e2:∀ (l:List Br) (f:Br->Rat),sumL (l.map (adv s)) f = sumL l fun b=>f (adv s b):=fun l f=>by
  unfold sumL; rw [Ň]; rfl
 rw [e1,e2]
 cases s with
 | br z0 yr x q =>
  show (sumL (brL ss) fun b=>b.q * b.g z) + sumL [(⟨z0,yr,q,dlt x⟩:Br)] (fun b=>b.q * b.g z) = if z = x then bTs ss x + q else bTs ss z
  rw [Í,õ]
  show _ + (q * dlt x z + 0) = _
  unfold dlt
  by_cases e:z = x
  ·subst e; rw [if_pos rfl,if_pos rfl]; unfold bTs; grind
  ·rw [if_neg e,if_neg e]; unfold bTs; grind
 | ps x y t =>
  show (sumL (brL ss) fun b=>b.q * fw x y t b.g z) + sumL ([]:List Br) _ = fw x y t (bTs ss) z
  rw [õ,Ŋ]
  exact (xC9 (brL ss) (fun b=>b.q) (fun b=>b.g) x y t z).symm
theorem zL5 {L:List Str} {ss:List Stp} (hn:L.Nodup) (hO:∀ s ∈ ss,OkS L s) (b:Bool) (f:Str->Rat):∀ j,j <= ss.length->∀ z ∈ L,ledB b (ss.take j) f z = (sumL L fun n=>f n * back (ss.take j) n z) + if b then bTs (ss.take j) z else 0
 | 0,_,z,hz=>by
  show f z = _
  have e1:(sumL L fun n=>f n * back (ss.take 0) n z) = f z:=by
   rw [œ]
   show (sumL L fun n=>f n * dlt n z) = _
   rw [ô hz]
   have:sumL (L.erase z) (fun n=>f n * dlt n z) = 0:=ö _ _ fun n hm=>by
    have:=((hn.mem_erase_iff).mp hm).1
    unfold dlt
    rw [if_neg fun e=>this e.symm,Rat.mul_zero]
   rw [this]
   unfold dlt
   rw [if_pos rfl]; grind
  have e2:(if b then bTs (ss.take 0) z else 0) = 0:=by
   rw [œ]
   cases b <;> rfl
  rw [e1,e2,Ŋ]
 | j + 1,hj,z,hz=>by
  obtain ⟨s,hs⟩:∃ s,ss[j]? = some s:=⟨_,Č (by omega)⟩
  have ok:=hO s (ċ hs)
  have ih:=zL5 hn hO b f j (by omega)
  have es:=zO6 (ss.take j) ok
  rw [<- Û hs] at es
  rw [zT5 hs,es]
  have eb:∀ z,bTs (ss.take (j + 1)) z = stB true s (bTs (ss.take j)) z:=fun z=>by rw [Û hs]; exact xA2 ok z
  rw [eb]
  cases s with
  | br z0 yr x q =>
   cases b with
   | false=>exact ih z hz
   | true =>
    show (if z = x then ledB true (ss.take j) f x + q else ledB true (ss.take j) f z) = (sumL L fun n=>f n * back (ss.take j) n z) + if z = x then bTs (ss.take j) x + q else bTs (ss.take j) z
    by_cases e:z = x
    ·subst e
     rw [if_pos rfl,if_pos rfl,ih z hz]
     simp only [if_true]
     grind
    ·rw [if_neg e,if_neg e,ih z hz]
     simp only [if_true]
  | ps x y t =>
   obtain ⟨hx,hy,_⟩:=ok
   have ez:fw x y t (ledB b (ss.take j) f) z = fw x y t (fun z=>(sumL L fun n=>f n * back (ss.take j) n z) + if b then bTs (ss.take j) z else 0) z:=by
    unfold fw
    rw [ih x hx,ih y hy,ih z hz]
   show fw x y t (ledB b (ss.take j) f) z = (sumL L fun n=>f n * fw x y t (back (ss.take j) n) z) + if b then fw x y t (bTs (ss.take j)) z else 0
   rw [ez,xM4,xC9]
   cases b with
   | true=>rfl
   | false =>
    have:fw x y t (fun _=>(0:Rat)) z = 0:=by unfold fw; split; grind; split <;> grind
    show _ + fw x y t (fun _=>(0:Rat)) z = _ + 0
    rw [this]
noncomputable def yM5 (K:Ā):Sp:=fun vs H Q _=>∃ (a as:Addr) (kv:List (Key × V)) (ys:List V) (ss:List Stp) (L:List Str) (b:Bool) (f:Str->Rat),vs = [.ref a,.ref as,.bl b] /\ H a = some (.dK kv) /\ L.Nodup /\ L.length <= 8 /\ RowAt H kv (all L f) /\ SqL K H as ys /\ Paired (StV H) ys ss /\ (∀ s ∈ ss,OkT L s) /\ ss.length <= 15 /\
 (∀ j,j <= ss.length->∀ z ∈ L,Bd 3900 (ledB b (ss.take j) f z)) /\
 ∀ p H' kv',H p = none->Same H H'->H' p = some (.dK kv')->RowAt H' kv' (all L (ledB b ss f))->Q (.ref p) H'
noncomputable def zH4 (K:Ā):Sp:=fun vs H Q _=>∃ (ah b:Addr) (xs:List V) (ps:List Plc) (kt:List (Key × V)) (g:Str->Option Rat),vs = [.ref ah,.ref b] /\ SqL K H ah xs /\ Paired (PlV H) xs ps /\ ps.length <= 8 /\ H b = some (.dK kt) /\ RowAt H kt g /\
 ∀ p H' kv',H p = none->Same H H'->H' p = some (.dK kv')->RowAt H' kv' (all (allN ps) fun z=>(g z).getD 0)->Q (.ref p) H'
noncomputable def zH5 (K:Ā):Sp:=fun vs H Q _=>∃ (ah b:Addr) (xs:List V) (ps:List Plc) (km:List (Key × V)) (f:Str->Rat),vs = [.ref ah,.ref b] /\ SqL K H ah xs /\ Paired (PlV H) xs ps /\ ps.length <= 8 /\ H b = some (.dK km) /\ RowAt H km (all (allN ps) f) /\
 ∀ p H' kv',H p = none->Same H H'->H' p = some (.dK kv')->RowAt H' kv' (all (ckN ps) f)->Q (.ref p) H'
noncomputable def xA9 (K:Ā):Sp:=fun vs H Q _=>∃ (ah as:Addr) (xs:List V) (ps:List Plc) (ys:List V) (ss:List Stp),vs = [.ref ah,.ref as] /\ H ah = some (.lst xs) /\ Paired (PlV H) xs ps /\ HouseOk ps /\ H as = some (.lst ys) /\ Paired (StV H) ys ss /\ (∀ s ∈ ss,OkT (allN ps) s) /\ ss.length <= 15 /\
 ∀ p H' rows ad,H p = none->Same H H'->H' p = some (.dK rows)->TabAt H H' p rows (ckN ps) (back ss) ad->Q (.ref p) H'
theorem all_some {L:List Str} {f:Str->Rat} {z:Str}:(all L f z).isSome = true ↔ z ∈ L:=by
 unfold all
 split
 ·rename_i h; simp [h]
 ·rename_i h; simp [h]
theorem RowAt.len' {H:Hp} {kvs:List (Key × V)} {g:Str->Option Rat} {L:List Str} (h:RowAt H kvs g) (hf:∀ z,(g z).isSome = true->z ∈ L):kvs.length <= L.length:=by
 rw [<- Ø]
 exact Ú (ä h.nodup h.keys) fun z hz=>hf z ((h.iff z).mp hz)
theorem xO1 {L:List Str} {f:Str->Rat} {x y:Str} {t:Rat} (hx:x ∈ L) (hy:y ∈ L):(fun z=>if z = y then some (f y + f x * t) else if z = x then some (f x + -(f x * t)) else all L f z) = all L (fw x y t f):=by
 funext z
 unfold all fw
 by_cases e1:z = y
 ·subst e1; simp [hy]
 ·by_cases e2:z = x
  ·subst e2; simp [hx,e1,xA8]
  ·simp [e1,e2]
noncomputable def dPl:Plc->PyData
 | .ck z r=>.tuple [.str "cask",.str z,pq r.num r.den]
 | .sk z=>.tuple [.str "sink",.str z]
theorem PlV.rep {K:Ā} {H:Hp}:∀ {v:V} {p:Plc},PlV H v p->Lay (nmP p)->RepD K H (dPl p) v
 | _,.ck z r,⟨a,f,e,h1,h2⟩,l=>by
  subst e
  exact repT (SqT.of h1) (Μ (repS (by decide +kernel)) (Μ (repS l) (Μ h2.rep τ)))
 | _,.sk z,⟨a,e,h1⟩,l=>by
  subst e
  exact repT (SqT.of h1) (Μ (repS (by decide +kernel)) (Μ (repS l) τ))
theorem zW9 {K:Ā} {H:Hp}:∀ {xs:List V} {ps:List Plc},Paired (PlV H) xs ps->(∀ p ∈ ps,Lay (nmP p))->RepDs K H (ps.map dPl) xs
 | _,_,.nil,_=>τ
 | _,_,.cons r t,h=>Μ (r.rep (h _ ă)) (zW9 t fun s hs=>h s (Ă _ hs))
theorem yU7 (s:Plc):(dPl s).depth <= 10:=by
 cases s <;> simp [dPl,pq,PyData.depth,PyData.depthAll]
theorem yY7 (ps:List Plc) (ss:List Stp):(PyData.list [.list (ps.map dPl),.list (ss.map dSt)]).depth <= 64:=by
 have h1:=zI5 yU7 ps
 have h2:=zI5 yU6 ss
 simp only [PyData.depth,PyData.depthAll]
 omega
theorem xB4 {K:Ā} {H:Hp} {a b c:Addr} {ps:List Plc} {xs ys:List V} {ss:List Stp} (ok:HouseOk ps) (ha:H a = some (.lst [.ref b,.ref c])) (hb:H b = some (.lst xs)) (hP:Paired (PlV H) xs ps) (hc:H c = some (.lst ys)) (hY:Paired (StV H) ys ss) (hO:∀ s ∈ ss,OkS (allN ps) s) :
  RepD K H (.list [.list (ps.map dPl),.list (ss.map dSt)]) (.ref a) :=
 repL (SqL.of ha) (Μ (repL (SqL.of hb) (zW9 hP fun p hp=>ok.lay _ (ĕ.mpr ⟨p,hp,rfl⟩))) (Μ (repL (SqL.of hc) (zW7 ok.lay hY hO)) τ))
noncomputable def LsF (H:Hp) (a:Addr) (rs:List Rat):Prop:=∃ vs,H a = some (.lst vs) /\ Paired (FrV H) vs rs
theorem LsF.same {H H':Hp} {a:Addr} {rs:List Rat} (h:LsF H a rs) (s:Same H H'):LsF H' a rs:=let ⟨vs,h1,h2⟩:=h; ⟨vs,s _ _ h1,Paired.mapP h2 fun _ _ f=>f.same s⟩
theorem LsF.keep {H H':Hp} {a:Addr} {rs:List Rat} (h:LsF H a rs) (tu:∀ c l,H c = some (.tup l)->H' c = some (.tup l)) (e:∀ vs,H a = some (.lst vs)->H' a = some (.lst vs)):LsF H' a rs:=let ⟨vs,h1,h2⟩:=h; ⟨vs,e _ h1,Paired.mapP h2 fun _ _ f=>f.tup tu⟩
theorem zL7 {α:Type} {xs:List α} {x y:α} {j:Nat} (h:(xs ++ [x])[j]? = some y):xs[j]? = some y \/ (j = xs.length /\ y = x):=by
 by_cases hj:j < xs.length
 ·left; rw [List.getElem?_append_left hj] at h; exact h
 ·right
  rw [ş (by omega)] at h
  have:j - xs.length = 0:=by
   have:=(Ą.mp h).1
   simp at this; omega
  rw [this] at h
  exact ⟨by omega,by simpa using h.symm⟩
noncomputable def nR (m:Nat) (f:Nat->Rat):List Rat:=(Ķ m).map f
theorem Ω (m:Nat) (f:Nat->Rat):(nR m f).length = m:=by unfold nR; rw [ā,ŝ]
theorem yQ4 {m:Nat} {f:Nat->Rat} {j:Nat} {r:Rat} (h:(nR m f)[j]? = some r):j < m /\ r = f j:=by
 unfold nR at h
 rw [đ] at h
 by_cases hj:j < m
 ·rw [List.getElem?_range hj] at h
  exact ⟨hj,(Option.some.inj h).symm⟩
 ·rw [Ņ (by rw [ŝ]; omega)] at h; cases h
theorem zN9 (m:Nat) (f:Nat->Rat):nR (m + 1) f = nR m f ++ [f m]:=by
 unfold nR
 rw [List.range_succ,ė]; rfl
theorem zT4 {m:Nat} {f g:Nat->Rat} (h:∀ j,j < m->f j = g j):nR m f = nR m g:=by
 unfold nR
 exact List.map_congr_left fun j hj=>h j (List.mem_range.mp hj)
noncomputable def MatAt (H:Hp) (a:Addr) (r m:Nat) (M:Nat->Nat->Rat):Prop:=∃ bs:List Addr,H a = some (.lst (bs.map V.ref)) /\ bs.length = r /\ ∀ i b,bs[i]? = some b->LsF H b (nR m (M i))
theorem zM8 {bs:List Addr} {i:Nat} {b:Addr} (h:bs[i]? = some b):atI (bs.map V.ref) ((i:Nat):Int) = some (.ref b):=zK7 (by rw [đ,h]; rfl)
theorem yN8 {bs:List Addr} {i:Nat} {x:V} (h:(bs.map V.ref)[i]? = some x):∃ b,x = .ref b /\ bs[i]? = some b:=by
 rw [đ] at h
 cases q:bs[i]? with
 | none=>rw [q] at h; cases h
 | some b=>rw [q] at h; exact ⟨b,(Option.some.inj h).symm,rfl⟩
theorem LsF.at {H:Hp} {a:Addr} {m:Nat} {f:Nat->Rat} (h:LsF H a (nR m f)) {j:Nat} (hj:j < m):∃ vs v,H a = some (.lst vs) /\ vs.length = m /\ atI vs ((j:Nat):Int) = some v /\ FrV H v (f j):=by
 obtain ⟨vs,h1,h2⟩:=h
 have hl:vs.length = m:=h2.length.trans (Ω m f)
 obtain ⟨v,hv⟩:∃ v,vs[j]? = some v:=⟨_,Č (by omega)⟩
 obtain ⟨r,hr,fr⟩:=à h2 hv
 obtain ⟨_,rfl⟩:=yQ4 hr
 exact ⟨vs,v,h1,hl,zK7 hv,fr⟩
theorem eq01 (t:Rat):PyData.eqv (pq t.num t.den) (pq 0 1) = decide (t = 0):=by
 rw [yG9]
 exact yG7 t 0
theorem eq11 (t:Rat):PyData.eqv (pq t.num t.den) (pq 1 1) = decide (t = 1):=by
 rw [yG9]
 exact yG7 t 1
theorem yS2 {n k:Nat} (h:k < n):ixN n ((k:Nat):Int) = some k:=by
 unfold ixN
 rw [if_pos (by omega),if_pos (by omega)]
 simp
theorem yG0 (bs:List Addr) (i:Nat) (b:Addr):(bs.map V.ref).set i (.ref b) = (bs.set i b).map V.ref:=by rw [List.map_set]
theorem MatAt.swap {H:Hp} {a:Addr} {bs:List Addr} {r m:Nat} {M:Nat->Nat->Rat} {x y:Nat} {bx bc:Addr} (h:H a = some (.lst (((bs.set x bc).set y bx).map V.ref))) (lb:bs.length = r) (hB:∀ i b,bs[i]? = some b->LsF H b (nR m (M i))) (hx:bs[x]? = some bx) (hy:bs[y]? = some bc):MatAt H a r m (ε M x y):=by
 refine ⟨_,h,by rw [List.length_set,List.length_set]; exact lb,fun i b e=>?_⟩
 have lx:=(Ą.mp hx).1
 have ly:=(Ą.mp hy).1
 unfold ε
 rw [List.getElem?_set] at e
 by_cases e1:y = i
 ·rw [if_pos e1,List.length_set,if_pos ly] at e
  cases e
  rw [if_pos e1.symm]; exact hB x bx hx
 ·rw [if_neg e1,List.getElem?_set] at e
  rw [if_neg fun q=>e1 q.symm]
  by_cases e2:x = i
  ·rw [if_pos e2,if_pos lx] at e
   cases e
   rw [if_pos e2.symm]; exact hB y bc hy
  ·rw [if_neg e2] at e
   rw [if_neg fun q=>e2 q.symm]; exact hB i b e
theorem zN7 {kv:List (Key × V)} (n:Str) (v:V) (hk:∀ q ∈ kv,∃ z,q.1 = .inr z):nms (putK kv (.inr n) v) = putS (nms kv) n:=by
 have key:∀ {l:List (Key × V)},(∀ q ∈ l,∃ z,q.1 = .inr z)->((l.any fun q=>decide (q.1 = .inr n)) = true ↔ n ∈ nms l):=by
  intro l h
  rw [š]
  unfold nms
  rw [ĕ]
  constructor
  ·rintro ⟨q,hq,e⟩
   refine ⟨q,hq,?_⟩
   rw [of_decide_eq_true e]; rfl
  ·rintro ⟨q,hq,e⟩
   obtain ⟨z,ez⟩:=h q hq
   refine ⟨q,hq,decide_eq_true ?_⟩
   rw [ez] at e ⊢
   rw [show z = n from e]
 unfold putK putS
 by_cases q:n ∈ nms kv
 ·rw [if_pos ((key hk).mpr q),if_pos q]
  unfold nms
  rw [Ň]
  refine List.map_congr_left fun p _=>?_
  show nmz (if p.1 = .inr n then (p.1,v) else p).1 = nmz p.1
  split <;> rfl
 ·rw [if_neg (fun u=>q ((key hk).mp u)),if_neg q]
  unfold nms
  rw [ė]; rfl
theorem yW8 {S:List Str} {x:Str} (h:x ∈ S):putS S x = S:=by unfold putS; rw [if_pos h]
theorem zL3 {S:List Str} {x:Str} (h:x ∉ S):putS S x = S ++ [x]:=by unfold putS; rw [if_neg h]
theorem zN8 {C:List Str} (hn:C.Nodup) {i:Nat} {x:Str} (h:C[i]? = some x):x ∉ C.take i:=by
 intro hm
 obtain ⟨j,hj,e⟩:=Ĺ hm
 rw [ē] at hj
 rw [List.getElem_take] at e
 obtain ⟨hi,e2⟩:=Ą.mp h
 exact Ţ.mp hn j i (by omega) hi (by omega) (e.trans e2.symm)
theorem ů {L:List Str} {f g:Str->Rat} (h:∀ z ∈ L,f z = g z):all L f = all L g:=by
 funext z
 unfold all
 by_cases hz:z ∈ L
 ·rw [if_pos hz,if_pos hz,h z hz]
 ·rw [if_neg hz,if_neg hz]
theorem yV2 {L:List Str} {f:Str->Rat} {n:Str} (hn:n ∈ L) (r:Rat):(fun y=>if y = n then some r else all L f y) = all L (fun y=>if y = n then r else f y):=by
 funext y
 unfold all
 by_cases e:y = n
 ·subst e; simp [hn]
 ·simp [e]
theorem yI9 {f:Str->Rat} {z:Str} {r:Rat} (h:op f z = some r):f z = r /\ r ≠ 0:=by
 unfold op at h
 split at h
 ·cases h
 ·rename_i q
  cases h
  exact ⟨rfl,q⟩
theorem zX5 {α β:Type} {F:α->β->Prop}:∀ {xs:List α} {ys:List β},xs.length = ys.length->(∀ (i:Nat) (x:α) (y:β),xs[i]? = some x->ys[i]? = some y->F x y)->Paired F xs ys
 | [],[],_,_=>.nil
 | [],_ :: _,h,_=>by simp at h
 | _ :: _,[],h,_=>by simp at h
 | x :: xs,y :: ys,h,g=>.cons (g 0 x y rfl rfl) (zX5 (by simpa using h) fun i a b ha hb=>g (i + 1) a b (by simpa using ha) (by simpa using hb))
theorem RowAt.vals {H:Hp} {kvs:List (Key × V)} {f:Str->Rat} (h:RowAt H kvs (op f)):Paired (FrV H) (kvs.map (·.2)) ((nms kvs).map f):=by
 refine zX5 (by rw [ā,ā,Ø]) fun i x y hx hy=>?_
 rw [đ] at hx hy
 cases q:kvs[i]? with
 | none=>rw [q] at hx; cases hx
 | some p =>
  rw [q] at hx
  cases hx
  obtain ⟨z,r,hz,hg,fr,_,_⟩:=h.at q
  have:(nms kvs)[i]? = some z:=by
   unfold nms
   rw [đ,q]
   show some (nmz p.1) = _
   rw [hz]; rfl
  rw [this] at hy
  cases hy
  rw [(yI9 hg).1]; exact fr
theorem yN7 {H:Hp} {kvs:List (Key × V)} {C:List Str} {f g:Str->Rat} (nC:C.Nodup) (h:RowAt H kvs (op (fun z=>if z ∈ C then f z else 0))) (hg:∀ z ∈ C,f z = 0->g z = 0):sumL (nms kvs) g = sumL C g:=by
 refine Ζ g nC (ä h.nodup h.keys) (fun z hz=>?_) fun z hz hn=>?_
 ·have:=op_some.mp ((h.iff z).mp hz)
  by_cases e:z ∈ C
  ·exact e
  ·rw [if_neg e] at this; exact absurd rfl this
 ·refine (h.iff z).mpr (op_some.mpr ?_)
  rw [if_pos hz]
  exact fun e=>hn (hg z hz e)
theorem xL1 (C:List Str):Nmd C (fun i=>C.getD i ""):=fun i hi=>by
 show C[i]? = some (C.getD i "")
 rw [List.getD_eq_getElem?_getD,Č hi]; rfl
theorem zU0:∀ {rows:List (Key × V)},(∀ kv ∈ rows,∃ z,kv.1 = .inr z)->(rows.map fun kv=>kV kv.1) = (nms rows).map V.str
 | [],_=>rfl
 | kv :: rows,h=>by
  obtain ⟨z,e⟩:=h kv ă
  have ih:=zU0 (rows:=rows) fun kv hk=>h kv (Ă _ hk)
  rw [ĸ,ih]
  show kV kv.1 :: _ = V.str (nmz kv.1) :: _
  rw [e]; rfl
theorem zI2:∀ {rows:List (Key × V)},(∀ kv ∈ rows,∃ z,kv.1 = .inr z)->rows.map (·.1) = (nms rows).map Sum.inr
 | [],_=>rfl
 | kv :: rows,h=>by
  obtain ⟨z,e⟩:=h kv ă
  have ih:=zI2 (rows:=rows) fun kv hk=>h kv (Ă _ hk)
  rw [ĸ,ih]
  show kv.1 :: _ = Sum.inr (nmz kv.1) :: _
  rw [e]; rfl
theorem zL0:∀ {C:List Str} {vs:List V},vs.length = C.length->nms (zipV C vs) = C
 | [],vs,_=>rfl
 | c :: C,[],h=>by simp at h
 | c :: C,v :: vs,h=>by
  have:=zL0 (C:=C) (vs:=vs) (by simpa using h)
  show c :: nms (zipV C vs) = c :: C
  rw [this]
theorem zV3 (C:List Str) (vs:List V):∀ kv ∈ zipV C vs,∃ z,kv.1 = .inr z:=fun kv h=>by
 unfold zipV at h
 obtain ⟨p,_,e⟩:=ĕ.mp h
 exact ⟨p.1,by rw [<- e]⟩
theorem yS5 {C:List Str} (h:C.Nodup):(C.map (Sum.inr:Str->Key)).Nodup:=by
 rw [List.nodup_iff_pairwise_ne,List.pairwise_map]
 exact (List.nodup_iff_pairwise_ne.mp h).imp fun h e=>h (Sum.inr.inj e)
theorem RowAt.zip {H:Hp} {C:List Str} {vs:List V} {x:Nat->Rat} (nC:C.Nodup) (h:Paired (FrV H) vs (nR C.length x)):RowAt H (zipV C vs) (all C fun z=>x (C.idxOf z)):=by
 have hl:vs.length = C.length:=h.length.trans (Ω _ _)
 have nk:((zipV C vs).map (·.1)).Nodup:=by
  rw [zI2 (zV3 C vs),zL0 hl]
  exact yS5 nC
 refine ⟨nk,zV3 C vs,fun z r e=>?_,fun z e=>?_⟩
 ·unfold all at e
  split at e
  ·rename_i hz
   cases e
   have li:C.idxOf z < C.length:=List.idxOf_lt_length_of_mem hz
   obtain ⟨v,hv⟩:∃ v,vs[C.idxOf z]? = some v:=⟨_,Č (by omega)⟩
   obtain ⟨r,hr,fr⟩:=à h hv
   obtain ⟨_,rfl⟩:=yQ4 hr
   refine ⟨v,?_,fr⟩
   have hg:(zipV C vs)[C.idxOf z]? = some (.inr z,v):=by
    unfold zipV
    rw [đ]
    have:(C.zip vs)[C.idxOf z]? = some (z,v):=by
     rw [List.getElem?_zip_eq_some]
     exact ⟨by rw [Č li,List.getElem_idxOf li],hv⟩
    rw [this]; rfl
   exact Ŵ nk hg
  ·cases e
 ·unfold all at e
  split at e
  ·cases e
  ·rename_i hz
   cases q:valV (zipV C vs) (.inr z) with
   | none=>rfl
   | some v =>
    have:=zG9 q
    rw [zL0 hl] at this
    exact absurd this hz
noncomputable def xB2:Sp:=fun vs H Q _=>∃ (a b:Addr) (fv:V) (m:Nat) (f g:Nat->Rat) (t:Rat),vs = [.ref a,.ref b,fv] /\ LsF H a (nR m f) /\ LsF H b (nR m g) /\ FrV H fv t /\ m <= 30 /\ Bd 8000 t /\ (∀ j,j < m->Bd 8000 (f j) /\ Bd 8000 (g j) /\ Bd 8000 (g j * t)) /\
 ∀ p H',H p = none->Same H H'->LsF H' p (nR m fun j=>f j - g j * t)->Q (.ref p) H'
noncomputable def xI8:Sp:=fun vs H Q _=>∃ (a:Addr) (r m c k:Nat) (M:Nat->Nat->Rat),vs = [.ref a,.int (c:Nat),.int (k:Nat)] /\ MatAt H a r m M /\ c < r /\ k < m /\ r <= 30 /\ m <= 30 /\ M c k ≠ 0 /\ (∀ i,i < r->∀ j,j < m->Bd 8000 (M i j) /\ Bd 8000 (M c j / M c k) /\ Bd 8000 (M c j / M c k * M i k)) /\
 ∀ p H',H p = none->Same H H'->MatAt H' p r m (pivM M c k)->Q (.ref p) H'
noncomputable def yE2:Sp:=fun vs H Q _=>∃ (a:Addr) (n d e:Nat) (A:Nat->Nat->Rat),vs = [.ref a] /\ MatAt H a n (n + 1) A /\ n <= 5 /\ BdB n A d e /\ 32 * (d + 1) <= 7900 /\ e + 31 * (d + 1) <= 7900 /\ (∀ y,y n = 0->KerM n A y->∀ j,j < n->y j = 0) /\
 ∀ p H' x,H p = none->Same H H'->LsF H' p (nR n x)->(∀ i,i < n->sN n (fun j=>A i j * x j) = A i n)->(∃ E W,0 < E /\ E <= W /\ W <= 2 ^ (e + 31 * (d + 1)) /\ ∀ i,i < n->Cd E W (x i))->Q (.ref p) H'
noncomputable def yM3:Sp:=fun vs H Q _=>∃ (pr pa:Addr) (H0:Hp) (rows kb:List (Key × V)) (ad:Str->Addr) (C L:List Str) (R:Str->Str->Rat) (b:Str->Rat) (D E W d e:Nat),vs = [.ref pr,.ref pa] /\ H pr = some (.dK rows) /\ TabAt H0 H pr rows C (resC C R) ad /\ nms rows = C /\ C.Nodup /\ C.length <= 5 /\ L.Nodup /\ (∀ x ∈ C,x ∈ L) /\
 Good L D R /\ 0 < D /\ D <= 2 ^ d /\ H pa = some (.dK kb) /\ RowAt H kb (all C b) /\ 0 < E /\ E <= W /\ W <= 2 ^ e /\ (∀ z ∈ C,Cd E W (b z)) /\ 32 * (d + 1) <= 7900 /\ e + 31 * (d + 1) <= 7900 /\ (∀ x ∈ C,Leak C R x) /\
 ∀ p H' kv X,H p = none->Same H H'->H' p = some (.dK kv)->RowAt H' kv (all C X)->nms kv = C->(∀ z ∈ C,X z = (sumL C fun y=>X y * R y z) + b z)->(∃ E W,0 < E /\ E <= W /\ W <= 2 ^ (e + 31 * (d + 1)) /\ ∀ z ∈ C,Cd E W (X z))->Q (.ref p) H'
noncomputable def bT (ss:List Stp) (z:Str):Rat:=sumQ ((brL ss).map fun b=>b.q * b.g z)
theorem zN1:∀ a b:List Stp,Î (a ++ b) = Î b * Î a
 | [],b=>by show Î b = Î b * 1; rw [Nat.mul_one]
 | s :: a,b=>by
  show Î (a ++ b) * dnS s = Î b * (Î a * dnS s)
  rw [zN1 a b,ŋ]
theorem yI4 (ss:List Stp) (n:Nat):Î ss = Î (ss.drop n) * Î (ss.take n):=by
 rw [<- zN1,List.take_append_drop]
theorem yO5 {L:List Str}:∀ {ss:List Stp},(∀ s ∈ ss,OkT L s)->Î ss <= 99 ^ ss.length
 | [],_=>ą _
 | s :: ss,h=>by
  have g:=yO5 (ss:=ss) fun s hs=>h s (Ă _ hs)
  have e:dnS s <= 99:=by
   have:=(h s ă).2
   cases s with
   | br _ _ _ _=>exact (by decide:1 <= 99)
   | ps _ _ t=>exact this
  rw [ģ,į]
  exact ğ g e
theorem zE0 {L:List Str} {ss:List Stp} (h:∀ s ∈ ss,OkT L s) (hl:ss.length <= 15):Î ss <= 2 ^ 100 :=
 č (yO5 h) (č (ĥ (by decide) hl) (by decide))
theorem xA1 {L:List Str}:∀ {ss:List Stp},(∀ s ∈ ss,OkT L s)->∀ b ∈ brL ss,IsM 12 1000 b.q
 | .br z yr x q :: ss,h,b,hb=>by
  rcases Ē.mp hb with e | e
  ·rw [e]; exact (h _ ă).2
  ·exact xA1 (ss:=ss) (fun s hs=>h s (Ă _ hs)) b e
 | .ps _ _ _ :: ss,h,b,hb=>xA1 (ss:=ss) (fun s hs=>h s (Ă _ hs)) b hb
theorem xN9 {L:List Str} (hn:L.Nodup) {ss:List Stp} (hO:∀ s ∈ ss,OkT L s) (z:Str):∀ b ∈ brL ss,IsM (Î ss) 1 (b.g z):=by
 intro b hb
 obtain ⟨n,x,hx,eg⟩:=yD1 (fun s hs=>(hO s hs).1) b hb
 have G:=ï hn (ss:=ss.drop n) fun s hs=>(hO s (Ş hs)).1
 rw [yI4 ss n,eg]; exact (G.part x hx z).up _
theorem xD4 {L:List Str} (hn:L.Nodup) {ss:List Stp} (hO:∀ s ∈ ss,OkT L s) (z:Str):∀ b ∈ brL ss,IsM (12 * Î ss) 1000 (b.q * b.g z):=by
 intro b hb
 have:=(xA1 hO b hb).mul (xN9 hn hO z b hb)
 rw [Nat.mul_one] at this; exact this
theorem zU9 {L:List Str} (hn:L.Nodup) {ss:List Stp} (hO:∀ s ∈ ss,OkT L s) (z:Str):∀ k,k <= (brL ss).length->IsM (12 * Î ss) (1000 * k) (sumQ (((brL ss).take k).map fun b=>b.q * b.g z))
 | 0,_=>IsM.zero _ _
 | k + 1,h=>by
  obtain ⟨b,hb⟩:∃ b,(brL ss)[k]? = some b:=⟨_,Č (by omega)⟩
  have e:(brL ss).take (k + 1) = (brL ss).take k ++ [b]:=by rw [ĺ,hb]; rfl
  rw [e,ė]
  have g:=zU9 hn hO z k (by omega)
  have q:=xD4 hn hO z b (ċ hb)
  have s:sumQ (((brL ss).take k).map (fun b=>b.q * b.g z) ++ [b].map fun b=>b.q * b.g z) = sumQ (((brL ss).take k).map fun b=>b.q * b.g z) + b.q * b.g z:=by
   unfold sumQ; rw [List.foldl_append]; rfl
  rw [s]
  have:=g.add q
  exact this
theorem twelve {D:Nat} (h:D <= 2 ^ 100) {k:Nat} (hk:k <= 15000):k * (12 * D) <= 2 ^ 118:=by
 have e18:(2:Nat) ^ 18 = 262144:=by decide
 have h1:k * 12 <= 2 ^ 18:=by omega
 rw [<- ŋ]
 have:=ğ h1 h
 rw [<- ī] at this
 exact this
theorem yK1 {L:List Str} (hn:L.Nodup) {ss:List Stp} (hO:∀ s ∈ ss,OkT L s) (hl:ss.length <= 15) (z:Str):Cd (12 * Î ss) (15000 * (12 * Î ss)) (bT ss z):=by
 have:=zU9 hn hO z _ (ą _)
 rw [Đ] at this
 refine (Cd.of this).mono (Ė _ ?_)
 have:=zO4 ss
 omega
noncomputable def yE6 (K:Ā):Sp:=fun vs H Q _=>∃ (ah as:Addr) (xs:List V) (ps:List Plc) (ys:List V) (ss:List Stp),vs = [.ref ah,.ref as] /\ SqL K H ah xs /\ Paired (PlV H) xs ps /\ HouseOk ps /\ SqL K H as ys /\ Paired (StV H) ys ss /\ (∀ s ∈ ss,OkT (allN ps) s) /\ ss.length <= 15 /\
 ∀ p H' kv,H p = none->Same H H'->H' p = some (.dK kv)->RowAt H' kv (all (ckN ps) (bT ss))->nms kv = ckN ps->Q (.ref p) H'
noncomputable def zL2:Sp:=fun vs H Q _=>∃ (pr:Addr) (H0:Hp) (rows:List (Key × V)) (ad:Str->Addr) (C L:List Str) (R:Str->Str->Rat) (D:Nat),vs = [.ref pr] /\ H pr = some (.dK rows) /\ TabAt H0 H pr rows C (resC C R) ad /\ nms rows = C /\ C.Nodup /\ C.length <= 5 /\ L.Nodup /\ (∀ x ∈ C,x ∈ L) /\ Good L D R /\ 0 < D /\ 8 * D < 2 ^ 2600 /\
 ∀ p H' ss,H p = none->Same H H'->H' p = some (.lst (ss.map V.str))->ss.Nodup->(∀ x,x ∈ ss ↔ x ∈ C /\ ¬ Leak C R x)->PyProof.Rows.sortedS ss = true->Q (.ref p) H'
noncomputable def xB0:Sp:=fun vs H Q _=>∃ (pr:Addr) (H0:Hp) (rows:List (Key × V)) (ad:Str->Addr) (C L:List Str) (R:Str->Str->Rat) (D:Nat),vs = [.ref pr] /\ H pr = some (.dK rows) /\ TabAt H0 H pr rows C (resC C R) ad /\ nms rows = C /\ C.Nodup /\ C ≠ [] /\ C.length <= 5 /\ L.Nodup /\ (∀ x ∈ C,x ∈ L) /\ Good L D R /\ 0 < D /\ D <= 2 ^ 500 /\ (∀ x ∈ C,Leak C R x) /\
 ∀ p H' f r (k:Nat),H p = none->Same H H'->H' p = some (.tup [.int (k:Nat),f])->FrV H' f r->1 <= k->k <= C.length->(∀ x ∈ C,stay C R k x <= r)->(∃ x ∈ C,stay C R k x = r)->r < 1->(∀ j,j < k->∃ x ∈ C,stay C R j x = 1)->Q (.ref p) H'
noncomputable def trK (S:List Str):List (Key × V):=S.map fun z=>(.inr z,.bl true)
theorem yL1 (S:List Str):(trK S).length = S.length:=by unfold trK; rw [ā]
theorem zQ6 (x:Str):∀ S:List Str,valV (trK S) (.inr x) = if x ∈ S then some (.bl true) else none
 | []=>rfl
 | z :: S=>by
  show valV ((Sum.inr z,V.bl true) :: trK S) (.inr x) = _
  by_cases e:z = x
  ·subst e
   rw [Ű rfl,if_pos ă]
  ·rw [ű (fun q=>e (Sum.inr.inj q)),zQ6 x S]
   have:(x ∈ z :: S) ↔ x ∈ S:=by
    rw [Ē]
    exact ⟨fun q=>q.elim (fun q=>absurd q.symm e) id,.inr⟩
   by_cases q:x ∈ S
   ·rw [if_pos q,if_pos (this.mpr q)]
   ·rw [if_neg q,if_neg (fun u=>q (this.mp u))]
theorem yL0 (S:List Str) (x:Str):putK (trK S) (.inr x) (.bl true) = trK (putS S x):=by
 have h:=zF5 (.inr x) (trK S)
 rw [zQ6] at h
 unfold putK putS
 rw [h]
 by_cases q:x ∈ S
 ·rw [if_pos q,if_pos q,if_pos (show (some (V.bl true)).isSome = true from rfl)]
  unfold trK
  rw [Ň]
  refine List.map_congr_left fun z _=>?_
  show (if (Sum.inr z:Key) = .inr x then ((Sum.inr z:Key),V.bl true) else (.inr z,.bl true)) = (.inr z,.bl true)
  split <;> rfl
 ·rw [if_neg q,if_neg q,if_neg (by simp)]
  unfold trK
  rw [ė]; rfl
noncomputable def xB1 (K:Ā):Sp:=fun vs H Q _=>∃ (ah as:Addr) (xs:List V) (ps:List Plc) (ys:List V) (ss:List Stp),vs = [.ref ah,.ref as] /\ SqL K H ah xs /\ Paired (PlV H) xs ps /\ HouseOk ps /\ ckN ps ≠ [] /\ (ckN ps).length <= 5 /\ SqL K H as ys /\ Paired (StV H) ys ss /\ (∀ s ∈ ss,OkT (allN ps) s) /\ ss.length <= 15 /\
 (∀ p H' l zs,H p = none->Same H H'->H l = none->l ≠ p->H' p = some (.tup [.str "closed",.ref l])->H' l = some (.lst (zs.map V.str))->zs.Nodup->(∀ x,x ∈ zs ↔ x ∈ ckN ps /\ ¬ Leak (ckN ps) (back ss) x)->PyProof.Rows.sortedS zs = true->zs ≠ []->Q (.ref p) H') /\
 ((∀ x ∈ ckN ps,Leak (ckN ps) (back ss) x)->∀ p H' q d f r (k:Nat) kv X,H p = none->Same H H'->H' p = some (.tup [.str "lasting",.ref d,.ref q])->H d = none->H' d = some (.dK kv)->RowAt H' kv (all (ckN ps) X)->(∀ z ∈ ckN ps,X z = (sumL (ckN ps) fun y=>X y * back ss y z) + bT ss z) ->
  (∃ E W,0 < E /\ E <= W /\ W <= 2 ^ 3400 /\ ∀ z ∈ ckN ps,Cd E W (X z))->H' q = some (.tup [.int (k:Nat),f])->FrV H' f r->1 <= k->k <= (ckN ps).length->(∀ x ∈ ckN ps,stay (ckN ps) (back ss) k x <= r)->(∃ x ∈ ckN ps,stay (ckN ps) (back ss) k x = r)->r < 1->(∀ j,j < k->∃ x ∈ ckN ps,stay (ckN ps) (back ss) j x = 1)->Q (.ref p) H')
theorem yF8 {kv:List (Key × V)} (x:Str) (h:∀ q ∈ kv,∃ z,q.1 = .inr z):nms (ψ kv (.inr x)) = χ (nms kv) x:=by
 unfold ψ χ nms
 rw [List.filter_map]
 congr 1
 refine List.filter_congr fun q hq=>?_
 obtain ⟨z,e⟩:=h q hq
 show decide (q.1 ≠ .inr x) = decide (nmz q.1 ≠ x)
 rw [e,decide_eq_decide]
 show (Sum.inr z:Key) ≠ .inr x ↔ z ≠ x
 exact ⟨fun h e=>h (by rw [e]),fun h e=>h (Sum.inr.inj e)⟩
theorem yT6 {kv:List (Key × V)} {x:Str} (h:∀ q ∈ kv,∃ z,q.1 = .inr z):∀ q ∈ ψ kv (.inr x),∃ z,q.1 = .inr z:=fun q hq=>h q (ġ.mp hq).1
theorem yD7 {kv:List (Key × V)} (h:∀ q ∈ kv,∃ z,q.1 = .inr z) (x:Str):(valV kv (.inr x)).isSome = decide (x ∈ nms kv):=by
 rw [<- zF5,Bool.eq_iff_iff,š,decide_eq_true_eq]
 unfold nms
 rw [ĕ]
 constructor
 ·rintro ⟨q,hq,e⟩
  exact ⟨q,hq,by rw [of_decide_eq_true e]; rfl⟩
 ·rintro ⟨q,hq,e⟩
  obtain ⟨z,ez⟩:=h q hq
  refine ⟨q,hq,decide_eq_true ?_⟩
  rw [ez] at e ⊢
  rw [show z = x from e]
noncomputable def xI9:Sp:=fun vs H Q _=>∃ (ah pr:Addr) (H0:Hp) (rows:List (Key × V)) (ad:Str->Addr) (C L:List Str) (R:Str->Str->Rat) (D:Nat),vs = [.ref ah,.ref pr] /\ H pr = some (.dK rows) /\ TabAt H0 H pr rows C R ad /\ nms rows = C /\ C.Nodup /\ C.length <= 5 /\ L.Nodup /\ L.length <= 8 /\ (∀ x ∈ C,x ∈ L) /\ Good L D R /\ (∀ z ∈ L,Lay z) /\
 ∀ p H' ss,H p = none->Same H H'->H' p = some (.lst (ss.map V.str))->ss.Nodup->(∀ x,x ∈ ss ↔ x ∈ C /\ ¬ Leak C R x)->PyProof.Rows.sortedS ss = true->Q (.ref p) H'
theorem yU9 {D D' N N':Nat} {r:Rat} (h:Cd D N r) (e:D = D') (hn:N <= N'):Cd D' N' r:=by subst e; exact h.mono hn
theorem zU4 {D N:Nat} {f:Str->Rat}:∀ {l:List Str},(∀ z ∈ l,Cd D N (f z))->Cd D (l.length * N) (sumL l f)
 | [],_=>Cd.zero _ _
 | z :: l,h=>by
  rw [Í,ģ]
  have a:=h z ă
  have b:=zU4 (l:=l) fun y hy=>h y (Ă _ hy)
  refine (a.add b).mono ?_
  rw [Nat.succ_mul]; omega
theorem xC5 {L:List Str} {ss:List Stp} (hn:L.Nodup) (l8:L.length <= 8) (hO:∀ s ∈ ss,OkT L s) (h15:ss.length <= 15) {E W:Nat} (EW:E <= W) {f:Str->Rat} (hf:∀ n ∈ L,Cd E W (f n)) (b:Bool):∀ j,j <= ss.length->∀ z ∈ L,Cd (E * Î ss * 12) (2 ^ 18 * (W * Î ss)) (ledB b (ss.take j) f z):=by
 intro j hj z hz
 have hOs:∀ s ∈ ss,OkS L s:=fun s hs=>(hO s hs).1
 have hOj:∀ s ∈ ss.take j,OkT L s:=fun s hs=>hO s (ĵ hs)
 have hOsj:∀ s ∈ ss.take j,OkS L s:=fun s hs=>(hOj s hs).1
 have G:=ï hn hOsj
 have eP:Î ss = Î (ss.take j) * Î (ss.drop j):=by
  have:=zN1 (ss.take j) (ss.drop j)
  rw [List.take_append_drop] at this
  rw [this,ļ]
 rw [zL5 hn hOs b f j hj z hz]
 have c1:Cd (E * Î ss) (L.length * (W * Î ss)) (sumL L fun n=>f n * back (ss.take j) n z):=zU4 fun n hn'=>by
  have a:=Cd.of ((G.part n hn' z).up (Î (ss.drop j)))
  rw [<- eP,Ř] at a
  exact (hf n hn').mul a
 have c1':=yU9 (c1.up 12) (D':=E * Î ss * 12) (N':=96 * (W * Î ss)) rfl (by
  have:=Ė (W * Î ss) l8
  omega)
 have c2:Cd (E * Î ss * 12) (180000 * (W * Î ss)) (bTs (ss.take j) z):=by
  have a:Cd (12 * Î (ss.take j)) (15000 * (12 * Î (ss.take j))) (bTs (ss.take j) z):=yK1 hn hOj (by rw [ē]; omega) z
  have a2:=(a.up (Î (ss.drop j))).up E
  refine yU9 a2 ?_ ?_
  ·rw [eP,ŋ 12,ļ (12 * _),ļ 12,<- ŋ]
  ·have h1:15000 * (12 * Î (ss.take j)) * Î (ss.drop j) * E = 180000 * (E * Î ss):=by
    rw [eP]
    grind
   rw [h1]
   exact Nat.mul_le_mul_left _ (Ė _ EW)
 have e18:(2:Nat) ^ 18 = 262144:=by decide
 cases b with
 | true =>
  show Cd _ _ (_ + bTs (ss.take j) z)
  refine (c1'.add c2).mono ?_
  rw [e18]; omega
 | false =>
  show Cd _ _ (_ + (0:Rat))
  rw [Ŋ]
  refine c1'.mono ?_
  rw [e18]; omega
theorem yG2 {L:List Str} {ss:List Stp} (hn:L.Nodup) (l8:L.length <= 8) (hO:∀ s ∈ ss,OkT L s) (h15:ss.length <= 15) {E W w:Nat} (E0:0 < E) (EW:E <= W) (hw:W <= 2 ^ w) (w37:w <= 3700) {f:Str->Rat} (hf:∀ n ∈ L,Cd E W (f n)) (b:Bool):∀ j,j <= ss.length->∀ z ∈ L,Bd 3900 (ledB b (ss.take j) f z):=by
 intro j hj z hz
 have P0:=ú ss
 have P100:=zE0 hO h15
 have c:=xC5 hn l8 hO h15 EW hf b j hj z hz
 have e18:(2:Nat) ^ 18 = 262144:=by decide
 refine (c.bd (s:=18 + (w + 100)) (Ľ (Ľ E0 P0) (by decide)) ?_ ?_).mono (by omega)
 ·have:=Ė (Î ss) EW
  rw [e18]; omega
 ·rw [ī,ī]
  exact Nat.mul_le_mul_left _ (ğ hw P100)
theorem xR4 {L:List Str} (hn:L.Nodup) {ss:List Stp} (hO:∀ s ∈ ss,OkT L s) (z:Str):0 <= bT ss z:=by
 have:=zU9 hn hO z _ (ą _)
 rw [Đ] at this
 exact this.1
theorem xC6 {C L:List Str} {ss:List Stp} (hL:L.Nodup) (hC:C.Nodup) (hCL:∀ x ∈ C,x ∈ L) (hO:∀ s ∈ ss,OkS L s) {f:Str->Rat} (hf0:∀ z,z ∉ C->f z = 0):∀ z ∈ C,ledB true ss f z = (sumL C fun n=>f n * back ss n z) + bT ss z:=by
 intro z hz
 have h:=zL5 hL hO true f ss.length (ą _) z (hCL z hz)
 rw [Đ] at h
 rw [h]
 have e:(sumL C fun n=>f n * back ss n z) = sumL L fun n=>f n * back ss n z:=Ζ _ hL hC hCL fun n _ hne=>by
  by_cases q:n ∈ C
  ·exact q
  ·rw [hf0 n q,ō] at hne; exact absurd rfl hne
 rw [e]; rfl
theorem xG6 {C L:List Str} {ss:List Stp} {X:Str->Rat} (hL:L.Nodup) (hC:C.Nodup) (hCL:∀ x ∈ C,x ∈ L) (hO:∀ s ∈ ss,OkS L s) (eX:∀ z ∈ C,X z = (sumL C fun y=>X y * back ss y z) + bT ss z) {f:Str->Rat} (hf:∀ z ∈ C,f z = X z) (hf0:∀ z,z ∉ C->f z = 0):∀ z ∈ C,ledB true ss f z = X z:=by
 intro z hz
 rw [xC6 hL hC hCL hO hf0 z hz,eX z hz]
 congr 1
 exact Ý fun n hn=>by rw [hf n hn]
theorem zL9 (C:List Str) (f:Str->Rat) (z:Str):(all C f z).getD 0 = if z ∈ C then f z else 0:=by
 unfold all; split <;> rfl
theorem yG1 {C L:List Str} {ss:List Stp} (hL:L.Nodup) (hC:C.Nodup) (hCL:∀ x ∈ C,x ∈ L) (hO:∀ s ∈ ss,OkS L s) (m:Str->Rat) (i:Nat):∀ z ∈ C,ledB false ss (fun y=>if y ∈ C then mass C (back ss) m i y else 0) z = mass C (back ss) m (i + 1) z:=by
 intro z hz
 have h:=zL5 hL hO false (fun y=>if y ∈ C then mass C (back ss) m i y else 0) ss.length (ą _) z (hCL z hz)
 rw [Đ] at h
 rw [h]
 show _ + (0:Rat) = sumL C fun y=>mass C (back ss) m i y * back ss y z
 rw [Ŋ]
 have e:(sumL C fun n=>(if n ∈ C then mass C (back ss) m i n else 0) * back ss n z) = sumL L fun n=>(if n ∈ C then mass C (back ss) m i n else 0) * back ss n z:=Ζ _ hL hC hCL fun n _ hne=>by
  by_cases q:n ∈ C
  ·exact q
  ·rw [if_neg q,ō] at hne; exact absurd rfl hne
 rw [<- e]
 exact Ý fun n hn=>by rw [if_pos hn]
noncomputable def yE1 (K:Ā):Sp:=fun vs H Q _=>∃ (ac ah:Addr) (ms:List Int) (xs:List V) (ps:List Plc) (f d:Int),vs = [.ref ac,.ref ah,.int f,.int d] /\ SqL K H ac (ms.map V.int) /\ ms.length <= 10 /\ H ah = some (.lst xs) /\ Paired (PlV H) xs ps /\ HouseOk ps /\ ckN ps ≠ [] /\ (ckN ps).length <= 5 /\ (f = 0 \/ f = 1) /\
 ∀ p H' ys ss,H p = none->Same H H'->H' p = some (.lst ys)->Paired (StV H') ys ss->(∀ s ∈ ss,OkT (allN ps) s)->ss.length <= 15->Q (.ref p) H'
noncomputable def HsV (K:Ā) (H:Hp) (ah as:Addr) (xs:List V) (ps:List Plc) (ys:List V) (ss:List Stp):Prop:=H ah = some (.lst xs) /\ Paired (PlV H) xs ps /\ HouseOk ps /\ (ckN ps).length <= 5 /\ H as = some (.lst ys) /\ Paired (StV H) ys ss /\ (∀ s ∈ ss,OkT (allN ps) s) /\ ss.length <= 15
noncomputable def ldR (C:List Str) (R:Str->Str->Rat) (f:Str->Rat):Str->Rat:=fun z=>sumL C fun y=>f y * R y z
noncomputable def yM4:Sp:=fun vs H Q _=>∃ (pr pt:Addr) (H0:Hp) (rows kt:List (Key × V)) (ad:Str->Addr) (C L:List Str) (R:Str->Str->Rat) (f:Str->Rat) (D E W:Nat),vs = [.ref pr,.ref pt] /\ H pr = some (.dK rows) /\ TabAt H0 H pr rows C (resC C R) ad /\ nms rows = C /\ C.Nodup /\ C.length <= 5 /\ (∀ x ∈ C,x ∈ L) /\ Good L D R /\ 0 < D /\ D <= 2 ^ 100 /\
 H pt = some (.dK kt) /\ RowAt H kt (all C f) /\ pt ≠ pr /\ (∀ x ∈ C,ad x ≠ pt) /\ 0 < E /\ E <= W /\ W <= 2 ^ 3000 /\ (∀ z ∈ C,Cd E W (f z)) /\
 ∀ p H' kv,H p = none->Same H H'->H' p = some (.dK kv)->RowAt H' kv (all C (ldR C R f))->Q (.ref p) H'
noncomputable def spBy (K:Ā):Sp:=fun vs H Q _=>∃ (ah as:Addr) (xs:List V) (ps:List Plc) (ys:List V) (ss:List Stp) (n:Nat),vs = [.ref ah,.ref as,.int (n:Nat)] /\ HsV K H ah as xs ps ys ss /\ n <= 8 /\
 ((∃ x ∈ ckN ps,¬ Leak (ckN ps) (back ss) x)->∀ H',Same H H'->Q .non H') /\
 ((∀ x ∈ ckN ps,Leak (ckN ps) (back ss) x)->∀ p H' (ds:List Addr),H p = none->Same H H'->H' p = some (.lst (ds.map V.ref))->ds.length = n->ds.Nodup->(∀ i d,ds[i]? = some d->H d = none /\ d ≠ p /\ ∃ kv,H' d = some (.dK kv) /\ RowAt H' kv (all (ckN ps) (mass (ckN ps) (back ss) (bT ss) i)))->Q (.ref p) H')
theorem zJ0 {C C':List Str} (h:∀ z,z ∈ C ↔ z ∈ C') (f:Str->Rat):all C f = all C' f:=by
 funext z
 unfold all
 by_cases q:z ∈ C
 ·rw [if_pos q,if_pos ((h z).mp q)]
 ·rw [if_neg q,if_neg fun u=>q ((h z).mpr u)]
theorem zL6 {C C':List Str} (nC:C.Nodup) (nC':C'.Nodup) (h:∀ z,z ∈ C ↔ z ∈ C') (R:Str->Str->Rat) (f:Str->Rat):ldR C R f = ldR C' R f:=by
 funext z
 exact zH2 nC nC' h _
theorem yR4 {C L:List Str} {R:Str->Str->Rat} {D:Nat} (G:Good L D R) (hCL:∀ x ∈ C,x ∈ L) (c5:C.length <= 5) {E W:Nat} {f:Str->Rat} (h:∀ z ∈ C,Cd E W (f z)) (z:Str):Cd (E * D) (5 * (W * D)) (ldR C R f z):=by
 have:=zU4 (l:=C) (f:=fun y=>f y * R y z) fun y hy=>(h y hy).mul (Cd.of (G.part y (hCL y hy) z))
 rw [Ř] at this
 exact this.mono (Ė _ c5)
theorem yK3 {W D e:Nat} (hW:W <= 2 ^ e) (hD:D <= 2 ^ 100):5 * (W * D) <= 2 ^ (e + 103):=by
 have:=ğ (show 5 <= 2 ^ 3 by decide) (ğ hW hD)
 rw [<- ī,<- ī] at this
 exact č this (ĥ (by decide) (by omega))
noncomputable def RwsV (H0 H:Hp) (pr:Addr) (rows:List (Key × V)) (ad:Str->Addr) (ps:List Plc) (ss:List Stp) (C:List Str):Prop:=H pr = some (.dK rows) /\ TabAt H0 H pr rows C (resC C (back ss)) ad /\ nms rows = C /\ C.Nodup /\ C.length <= 5 /\ ∀ z,z ∈ C ↔ z ∈ ckN ps
theorem RwsV.same {H0 H H':Hp} {pr:Addr} {rows:List (Key × V)} {ad:Str->Addr} {ps:List Plc} {ss:List Stp} {C:List Str} (h:RwsV H0 H pr rows ad ps ss C) (s:Same H H'):RwsV H0 H' pr rows ad ps ss C:=⟨s _ _ h.1,h.2.1.same s,h.2.2⟩
theorem RwsV.of {H0 H:Hp} {pr:Addr} {rows:List (Key × V)} {ad:Str->Addr} {ps:List Plc} {ss:List Stp} (ok:HouseOk ps) (c5:(ckN ps).length <= 5) (h1:H pr = some (.dK rows)) (TB0:TabAt H0 H pr rows (ckN ps) (resC (ckN ps) (back ss)) ad):RwsV H0 H pr rows ad ps ss (nms rows):=by
 have CR:∀ z,z ∈ nms rows ↔ z ∈ ckN ps:=fun z=>by
  constructor
  ·intro h
   obtain ⟨kv,h1,h2⟩:=ĕ.mp h
   obtain ⟨y,h3,h4⟩:=TB0.keys kv h1
   rw [h3] at h2
   have h2:y = z:=h2
   rw [<- h2]; exact h4
  ·intro h; exact zG9 (TB0.row z h).1
 have nC:(nms rows).Nodup:=ä TB0.nodup fun kv h=>(let ⟨z,e,_⟩:=TB0.keys kv h; ⟨z,e⟩)
 have lC:(nms rows).length = (ckN ps).length:=by rw [Ø]; exact TB0.len ok.ck
 have eR:resC (ckN ps) (back ss) = resC (nms rows) (back ss):=by
  funext n z
  unfold resC
  by_cases h:z ∈ nms rows
  ·rw [if_pos h,if_pos ((CR z).mp h)]
  ·rw [if_neg h,if_neg fun u=>h ((CR z).mpr u)]
 rw [eR] at TB0
 exact ⟨h1,TB0.mem CR,rfl,nC,by omega,CR⟩
theorem RwsV.ne {H0 H:Hp} {pr:Addr} {rows:List (Key × V)} {ad:Str->Addr} {ps:List Plc} {ss:List Stp} {C:List Str} (h:RwsV H0 H pr rows ad ps ss C) {q:Addr} (hq:H q = none):q ≠ pr /\ ∀ x ∈ C,ad x ≠ q:=by
 refine ⟨fun e=>?_,fun x hx e=>?_⟩
 ·have:=h.1
  rw [<- e,hq] at this; cases this
 ·obtain ⟨_,_,kv,c,_⟩:=h.2.1.row x hx
  rw [e,hq] at c; cases c
structure MnAt (H:Hp) (kv:List (Key × V)) (C:List Str) (X A:Str->Rat):Prop where
 keys:∀ k ∈ kv,∃ z,k.1 = .inr z
 names:nms kv = C
 val:∀ z ∈ C,∃ w,valV kv (.inr z) = some w /\ ((X z = 0 /\ w = .non) \/ (X z ≠ 0 /\ FrV H w (A z / X z)))
noncomputable def yM2 (K:Ā):Sp:=fun vs H Q _=>∃ (ah as:Addr) (xs:List V) (ps:List Plc) (ys:List V) (ss:List Stp),vs = [.ref ah,.ref as] /\ HsV K H ah as xs ps ys ss /\
 ((∃ x ∈ ckN ps,¬ Leak (ckN ps) (back ss) x)->∀ H',Same H H'->Q .non H') /\
 ((∀ x ∈ ckN ps,Leak (ckN ps) (back ss) x)->∀ p H' kv C X A,H p = none->Same H H'->H' p = some (.dK kv)->MnAt H' kv C X A->C.Nodup->(∀ z,z ∈ C ↔ z ∈ ckN ps)->(∀ z ∈ ckN ps,X z = ldR (ckN ps) (back ss) X z + bT ss z)->(∀ z ∈ ckN ps,A z = ldR (ckN ps) (back ss) A z + ldR (ckN ps) (back ss) X z)->Q (.ref p) H')
noncomputable def xB3:Sp:=fun vs H Q _=>∃ (v:V) (r:Rat),vs = [v] /\ FrV H v r /\ 0 <= r /\ Bd 8000 r /\ ∀ H',Same H H'->Q (.bl true) H'
noncomputable def yN0 (K:Ā):Sp:=fun vs H Q _=>∃ (ah as:Addr) (xs:List V) (ps:List Plc) (ys:List V) (ss:List Stp) (n:Nat),vs = [.ref ah,.ref as,.int (n:Nat)] /\ HsV K H ah as xs ps ys ss /\ n <= 8 /\
 ∀ p H' (ds:List Addr),H p = none->Same H H'->H' p = some (.lst (ds.map V.ref))->ds.length = n->(∀ i d,ds[i]? = some d->∃ kv,H' d = some (.dK kv) /\ RowAt H' kv (all (ckN ps) (mass (ckN ps) (back ss) (bT ss) i)))->Q (.ref p) H'
noncomputable def xJ0 (K:Ā):Sp:=fun vs H Q _=>∃ (ah as:Addr) (xs:List V) (ps:List Plc) (ys:List V) (ss:List Stp) (n:Nat),vs = [.ref ah,.ref as,.int (n:Nat)] /\ HsV K H ah as xs ps ys ss /\ n <= 8 /\ (∀ x ∈ ckN ps,Leak (ckN ps) (back ss) x) /\ ∀ H',Same H H'->Q (.bl true) H'
noncomputable def yE5 (K:Ā):Sp:=fun vs H Q _=>∃ (ah as at':Addr) (xs:List V) (ps:List Plc) (ys:List V) (ss:List Stp) (kt:List (Key × V)) (X:Str->Rat),vs = [.ref ah,.ref as,.ref at'] /\ HsV K H ah as xs ps ys ss /\ (∀ x ∈ ckN ps,Leak (ckN ps) (back ss) x) /\ H at' = some (.dK kt) /\ RowAt H kt (all (ckN ps) X) /\ (∀ z ∈ ckN ps,X z = ldR (ckN ps) (back ss) X z + bT ss z) /\ ∀ H',Same H H'->Q (.bl true) H'
theorem yY0 {l:List Addr} (h:l.Nodup) {i:Nat} {x:Addr} (hi:l[i]? = some x):x ∉ l.take i:=fun q=>by
 obtain ⟨hl,e⟩:=Ą.mp hi
 have h2:=h
 rw [<- List.take_append_drop i l] at h2
 have:=(Ő.mp h2).2.2 x q x (by rw [<- e]; exact List.mem_drop_iff_getElem.mpr ⟨0,by omega,by simp⟩)
 exact this rfl
theorem yK0 {a b:Rat} (h:b ≠ 0):a / b * b = a:=Rat.div_mul_cancel h
theorem MnAt.put {H:Hp} {km:List (Key × V)} {C:List Str} {X A:Str->Rat} {z:Str} {w:V} (h:MnAt H km C X A) (hz:z ∉ C) (hw:(X z = 0 /\ w = .non) \/ (X z ≠ 0 /\ FrV H w (A z / X z))):MnAt H (putK km (.inr z) w) (C ++ [z]) X A:=by
 have hk:=zI1 km (.inr z) w
 refine ⟨fun q hq=>?_,?_,fun y hy=>?_⟩
 ·have:q.1 ∈ (putK km (.inr z) w).map (·.1):=ĕ.mpr ⟨q,hq,rfl⟩
  rw [hk] at this
  split at this
  ·obtain ⟨q2,h2,e2⟩:=ĕ.mp this
   obtain ⟨y,ey⟩:=h.keys q2 h2
   exact ⟨y,by rw [<- e2]; exact ey⟩
  ·rcases Ĥ.mp this with this | this
   ·obtain ⟨q2,h2,e2⟩:=ĕ.mp this
    obtain ⟨y,ey⟩:=h.keys q2 h2
    exact ⟨y,by rw [<- e2]; exact ey⟩
   ·exact ⟨z,ě.mp this⟩
 ·rw [zN7 z w h.keys,h.names,zL3 hz]
 ·rw [zH0]
  by_cases e:y = z
  ·subst e
   exact ⟨w,if_pos rfl,hw⟩
  ·rw [if_neg fun u=>e (Sum.inr.inj u)]
   rcases Ĥ.mp hy with hy | hy
   ·exact h.val y hy
   ·exact absurd (ě.mp hy) e
theorem MnAt.mono {H H':Hp} {km:List (Key × V)} {C:List Str} {X A:Str->Rat} (h:MnAt H km C X A) (g:∀ v r,FrV H v r->FrV H' v r):MnAt H' km C X A :=
 ⟨h.keys,h.names,fun z hz=>(let ⟨w,e,o⟩:=h.val z hz; ⟨w,e,o.imp id fun q=>⟨q.1,g _ _ q.2⟩⟩)⟩
theorem yD6 {W D e n:Nat} (hW:W <= 2 ^ e) (hD:D <= 2 ^ 100) (hn:n <= 5):W * (n * D) ^ n <= 2 ^ (e + 515):=by
 have h1:n * D <= 2 ^ 103:=by
  have:=ğ (show n <= 2 ^ 3 by omega) hD
  rw [<- ī] at this; exact this
 have h2:(n * D) ^ n <= 2 ^ 515:=by
  refine č (Nat.pow_le_pow_left h1 n) ?_
  rw [<- Nat.pow_mul]
  exact ĥ (by decide) (by omega)
 rw [ī]
 exact ğ hW h2
theorem yY3 {C:List Str} {P:Str->Str->Rat} (S:SubC C P) (hl:∀ x ∈ C,Leak C P x) {X Y b:Str->Rat} (hX:∀ z ∈ C,X z = ldR C P X z + b z) (hY:∀ z ∈ C,Y z = ldR C P Y z + b z):∀ z ∈ C,X z = Y z:=fun z hz=>by
 have:=zY3 S (v:=fun y=>X y - Y y) (fun j hj=>by
  have e:(sumL C fun i=>(X i - Y i) * P i j) = sumL C fun i=>X i * P i j - Y i * P i j:=Ý fun i _=>by grind
  have a:=hX j hj
  have c:=hY j hj
  show X j - Y j = _
  rw [e,Ŭ]
  unfold ldR at a c
  grind) (hl z hz)
 have:X z - Y z = 0:=this
 grind
theorem yV3 {C:List Str} {P:Str->Str->Rat} (S:SubC C P) (hl:∀ x ∈ C,Leak C P x) {X A b:Str->Rat} (b0:∀ z ∈ C,0 <= b z) (X0:∀ z ∈ C,0 <= X z) (A0:∀ z ∈ C,0 <= A z) (hX:∀ z ∈ C,X z = ldR C P X z + b z) (hA:∀ z ∈ C,A z = ldR C P A z + ldR C P X z):∀ z ∈ C,X z = 0->A z = 0:=fun z hz h0=>by
 let v:Str->Rat:=fun y=>if X y = 0 then A y else 0
 have v0:∀ j ∈ C,0 <= v j:=fun j hj=>by
  show 0 <= if X j = 0 then A j else 0
  split
  ·exact A0 j hj
  ·exact ŏ
 have key:v z = 0:=yR2 S v0 (fun j hj=>by
  have nnv:=Ų (L:=C) (f:=fun i=>v i * P i j) fun i hi=>Ğ (v0 i hi) (S.nn i hi j)
  show (if X j = 0 then A j else 0) <= _
  by_cases q:X j = 0
  ·rw [if_pos q]
   have nx:∀ i ∈ C,0 <= X i * P i j:=fun i hi=>Ğ (X0 i hi) (S.nn i hi j)
   have s0:=Ų (L:=C) nx
   have a:=hX j hj
   have bj:=b0 j hj
   have s1:(sumL C fun i=>X i * P i j) = 0:=by unfold ldR at a; grind
   have each:=ŵ nx s1
   have c:=hA j hj
   have e:ldR C P A j = sumL C fun i=>v i * P i j:=Ý fun i hi=>by
    show A i * P i j = (if X i = 0 then A i else 0) * P i j
    by_cases u:X i = 0
    ·rw [if_pos u]
    ·rw [if_neg u]
     rcases ń.mp (each i hi) with w | w
     ·exact absurd w u
     ·rw [w]; grind
   have e2:ldR C P X j = 0:=s1
   rw [c,e,e2,Ŋ]
   exact ŏ
  ·rw [if_neg q]; exact nnv) (hl z hz)
 have:(if X z = 0 then A z else 0) = 0:=key
 rw [if_pos h0] at this; exact this
theorem xO0 {a b:Rat} {m n:Nat} (ha:Bd m a) (hb:Bd n b) (h:b ≠ 0):Bd (m + n) (a / b):=by
 rw [Rat.div_def]
 exact ha.mul (hb.inv h)
end T50
namespace T50
open PySem L2 Tc
section
variable {P:Program} {w:World} {K:Ā} {mg:Str->Option Value} {base:Heap}
noncomputable abbrev zA0:Stmt:=top 4
theorem sc_common_divisor:Ì ["top","bottom","rest"] ["top","bottom"] (Å zA0):=scF
theorem zJ7 {ca:Ca} (D:DefAt K mg "common_divisor" zA0) (T:Txt K mg ca):FnAt P w K mg base CX0 1 "common_divisor" ["top","bottom"] (spCd):=by
 refine D.ok sc_common_divisor (fun vs H Q E h=>?_) (fun _ _ _ _ _ _ us hl=>match us,hl with | [_,_],_=>rfl) (fun f cdv A outer s H vs Q E hr h=>?_)
 ·obtain ⟨t,b,rfl,hb,k⟩:=h; rfl
 ·obtain ⟨t,b,rfl,hb,k⟩:=h
  have nd:=sc_common_divisor.nd
  refine ⟨_,(Ã (zL4 PassesOwn.never (Õ yB4 (pv 1) Ä (Ù _)) (Ã (Ê (i:=2) nd rfl (Or.inl rfl) (Ó ì (pv 0) (pv 1)))
   (Ã (Ê (i:=0) nd rfl (Or.inl rfl) (pv 1))
   (Æ (Ê (i:=1) nd rfl (Or.inl rfl) (pv 2))))))
   (Æ (Ï (pv 0)))),?_⟩
  refine zL1 (fun σ H1=>∃ (x y:Int) (v:Option V),σ = [some (.int x),some (.int y),v] /\ H1 = H /\ Dv t b x y)
   (fun σ _=>match σ with | [_,some (.int y),_]=>y.natAbs | _=>0) ⟨t,b,none,rfl,rfl,Dv.start hb⟩ ?_ ?_
  ·rintro σ H1 ⟨x,y,v,rfl,rfl,d⟩
   refine ⟨_,rfl,rfl,_,rfl,?_⟩
   refine ite2 (fun h1=>?_) (fun h1=>?_)
   ·have hy:y ≠ 0:=by
     intro e; subst e; simp at h1
    refine ⟨_,rfl,_,rfl,_,_,rfl,rfl,hy,?_⟩
    refine ⟨_,rfl,_,rfl,?_⟩
    exact ⟨⟨_,_,_,rfl,rfl,d.turn hy⟩,Dv.less hy⟩
   ·have hy:y = 0:=by
     by_cases e:y = 0
     ·exact e
     ·exact absurd (by simp [e]) h1
    refine ⟨_,rfl,?_⟩
    rw [d.done hy hb]; exact k
  ·intro σ H1 Q1 Q2 hq h1
   obtain ⟨v,e,h2,c,e2,h3⟩:=h1
   exact ⟨v,e,h2,c,e2,hq _ _ h3⟩
noncomputable abbrev zP6:Stmt:=top 5
theorem sc_plus:Ì ["one","other","shared","rest","top","divisor"] ["one","other"] (Å zP6):=scF
theorem xF8 {ca:Ca} (D:DefAt K mg "plus" zP6) (T:Txt K mg ca) (G_common_divisor:FnAt P w K mg base CX0 1 "common_divisor" ["top","bottom"] (spCd)):FnAt P w K mg base CX0 2 "plus" ["one","other"] (zP5):=by
 refine D.ok sc_plus (fun vs H Q E h=>?_) (fun _ _ _ _ _ _ us hl=>match us,hl with | [_,_],_=>rfl) (fun f cdv A outer s H vs Q E hr h=>?_)
 ·obtain ⟨_,_,r,q,rfl,⟨a,rfl,ha⟩,⟨b,rfl,hb⟩,br,bq,k⟩:=h; rfl
 ·obtain ⟨_,_,r,q,rfl,⟨a,rfl,ha⟩,⟨b,rfl,hb⟩,br,bq,k⟩:=h
  have nd:=sc_plus.nd
  refine ⟨_,(Ã (Ê (i:=2) nd rfl (Or.inl rfl) (pfn G_common_divisor hr (À (pixT (pv 0) Ä) (À (pixT (pv 1) Ä) Â))))
   (Ã (Ê (i:=3) nd rfl (Or.inl rfl) (Ó á (pixT (pv 0) Ä) (pv 2)))
   (Ã (Ê (i:=4) nd rfl (Or.inl rfl) (Ó Ε (Ó ź (pixT (pv 0) Ä) (Ó á (pixT (pv 1) Ä) (pv 2))) (Ó ź (pixT (pv 1) Ä) (pv 3))))
   (Ã (Ê (i:=5) nd rfl (Or.inl rfl) (pfn G_common_divisor hr (À (pv 4) (À (pv 2) Â))))
   (Æ (Ï (Ü (À (Ó á (pv 4) (pv 5)) (À (Ó ź (pv 3) (Ó á (pixT (pv 1) Ä) (pv 5))) Â))))))))),?_⟩
  have d1:=ã r
  have d2:=ã q
  have i0:∀ (i:Nat),i <= 8000->(2:Nat) ^ i <= 2 ^ 9000:=fun i hi=>Δ (by omega)
  refine ⟨_,rfl,a,_,_,_,rfl,rfl,SqT.of ha,rfl,_,rfl,b,_,_,_,rfl,rfl,SqT.of hb,rfl,_,_,rfl,(by omega),?_⟩
  have s0:dv r.den q.den ≠ 0:=zY9 (by omega)
  have sle:(dv (r.den:Int) q.den).natAbs <= ((q.den:Int)).natAbs:=yT4 (by omega)
  have sdiv:∀ i,ς i (dv (r.den:Int) q.den):=fun i=>bq.divR (by decide) s0 sle
  generalize hs:dv (r.den:Int) q.den = s1 at *
  refine ⟨_,rfl,a,_,_,_,rfl,rfl,SqT.of ha,rfl,_,rfl,_,_,rfl,rfl,sdiv _,?_⟩
  have le1:∀ {x:Int} {m:Nat},x.natAbs < 2 ^ m->(x.fdiv s1).natAbs < 2 ^ (m + 1):=fun {x m} hx=>by
   have:=natAbs_fdiv_le x s1
   rw [į]; omega
  have hrest:((r.den:Int).fdiv s1).natAbs < 2 ^ 8001:=le1 br.den
  have hq1:((q.den:Int).fdiv s1).natAbs < 2 ^ 8001:=le1 bq.den
  refine ⟨_,rfl,a,_,_,_,rfl,rfl,SqT.of ha,rfl,_,rfl,b,_,_,_,rfl,rfl,SqT.of hb,rfl,_,rfl,_,_,rfl,rfl,sdiv _,_,_,rfl,rfl,ý 8001 (ď br.num (Δ (by decide))) hq1 (by decide),_,rfl,b,_,_,_,rfl,rfl,SqT.of hb,rfl,_,rfl,_,_,rfl,rfl,ý 8001 (ď bq.num (Δ (by decide))) hrest (by decide),_,_,rfl,rfl,?_⟩
  refine ⟨_,rfl,_,rfl,_,_,rfl,s0,?_⟩
  have d0:dv (r.num * (q.den:Int).fdiv s1 + q.num * (r.den:Int).fdiv s1) s1 ≠ 0:=zY9 s0
  have dle:(dv (r.num * (q.den:Int).fdiv s1 + q.num * (r.den:Int).fdiv s1) s1).natAbs <= ((q.den:Int)).natAbs:=č (yT4 s0) sle
  have ddiv:∀ i,ς i (dv (r.num * (q.den:Int).fdiv s1 + q.num * (r.den:Int).fdiv s1) s1):=fun i=>bq.divR (by decide) d0 dle
  obtain ⟨e1,e2⟩:=xE8 r q hs.symm rfl rfl rfl
  have hq2:((q.den:Int).fdiv (dv (r.num * (q.den:Int).fdiv s1 + q.num * (r.den:Int).fdiv s1) s1)).natAbs < 2 ^ 8001:=by
   have:=natAbs_fdiv_le (q.den:Int) (dv (r.num * (q.den:Int).fdiv s1 + q.num * (r.den:Int).fdiv s1) s1)
   have z:((q.den:Int)).natAbs < 2 ^ 8000:=bq.den
   rw [į]; omega
  refine ⟨_,rfl,_,rfl,_,_,rfl,rfl,ddiv _,_,rfl,_,rfl,b,_,_,_,rfl,rfl,SqT.of hb,rfl,_,rfl,_,_,rfl,rfl,ddiv _,_,_,rfl,rfl,ý 8001 hrest hq2 (by decide),sz (by simp),fun p hp=>?_⟩
  exact k _ _ (Same.upd hp) (FrV.newOf e1 e2)
noncomputable abbrev zJ4:Stmt:=top 6
theorem sc_minus:Ì ["one","other"] ["one","other"] (Å zJ4):=scF
theorem yX7 {ca:Ca} (D:DefAt K mg "minus" zJ4) (T:Txt K mg ca) (G_plus:FnAt P w K mg base CX0 2 "plus" ["one","other"] (zP5)):FnAt P w K mg base CX0 3 "minus" ["one","other"] (zR2):=by
 refine D.ok sc_minus (fun vs H Q E h=>?_) (fun _ _ _ _ _ _ us hl=>match us,hl with | [_,_],_=>rfl) (fun f cdv A outer s H vs Q E hr h=>?_)
 ·obtain ⟨_,_,r,q,rfl,hx,⟨b,rfl,hb⟩,br,bq,k⟩:=h; rfl
 ·obtain ⟨_,_,r,q,rfl,hx,⟨b,rfl,hb⟩,br,bq,k⟩:=h
  have nd:=sc_minus.nd
  refine ⟨_,(Æ (Ï (pfn G_plus hr (À (pv 0) (À (Ü (À (Ó yF6 Ä (pixT (pv 1) Ä)) (À (pixT (pv 1) Ä) Â))) Â))))),?_⟩
  refine ⟨_,rfl,_,rfl,b,_,_,_,rfl,rfl,SqT.of hb,rfl,_,_,rfl,rfl,_,rfl,b,_,_,_,rfl,rfl,SqT.of hb,rfl,sz (by simp),fun p hp=>?_⟩
  refine ⟨_,_,r,-q,rfl,hx.upd hp,FrV.newOf (yF9 q).1 (yF9 q).2,br,bq.neg,fun v H' s' h=>?_⟩
  have h:FrV H' v (r + -q):=h
  rw [xA8] at h
  exact k v H' ((Same.upd hp).trans s') h
noncomputable abbrev zJ2:Stmt:=top 7
theorem sc_times:Ì ["one","other","left","right"] ["one","other"] (Å zJ2):=scF
theorem yX5 {ca:Ca} (D:DefAt K mg "times" zJ2) (T:Txt K mg ca) (G_common_divisor:FnAt P w K mg base CX0 1 "common_divisor" ["top","bottom"] (spCd)):FnAt P w K mg base CX0 2 "times" ["one","other"] (spTimes):=by
 refine D.ok sc_times (fun vs H Q E h=>?_) (fun _ _ _ _ _ _ us hl=>match us,hl with | [_,_],_=>rfl) (fun f cdv A outer s H vs Q E hr h=>?_)
 ·obtain ⟨_,_,a,b,t1,b1,t2,b2,rfl,rfl,ha,rfl,hb,p1,n2,c1,c2,⟨z1,z2,z3,z4⟩,k⟩:=h; rfl
 ·obtain ⟨_,_,a,b,t1,b1,t2,b2,rfl,rfl,ha,rfl,hb,p1,n2,c1,c2,⟨z1,z2,z3,z4⟩,k⟩:=h
  have nd:=sc_times.nd
  refine ⟨_,(Ã (Ê (i:=2) nd rfl (Or.inl rfl) (pfn G_common_divisor hr (À (pixT (pv 0) Ä) (À (pixT (pv 1) Ä) Â))))
   (Ã (Ê (i:=3) nd rfl (Or.inl rfl) (pfn G_common_divisor hr (À (pixT (pv 1) Ä) (À (pixT (pv 0) Ä) Â))))
   (Æ (Ï (Ü (À (Ó ź (Ó á (pixT (pv 0) Ä) (pv 2)) (Ó á (pixT (pv 1) Ä) (pv 3))) (À (Ó ź (Ó á (pixT (pv 0) Ä) (pv 3)) (Ó á (pixT (pv 1) Ä) (pv 2))) Â))))))),?_⟩
  refine ⟨_,rfl,a,_,_,_,rfl,rfl,SqT.of ha,rfl,_,rfl,b,_,_,_,rfl,rfl,SqT.of hb,rfl,_,_,rfl,n2,?_⟩
  have l0:dv t1 b2 ≠ 0:=zY9 n2
  have lle:(dv t1 b2).natAbs <= b2.natAbs:=yT4 n2
  have r0:dv t2 b1 ≠ 0:=zY9 (by omega)
  have rle:(dv t2 b1).natAbs <= b1.natAbs:=yT4 (by omega)
  have ldiv:∀ i,ς i (dv t1 b2):=fun i=>zK1 l0 (Ę lle (ď z4 (Δ (by decide))))
  have rdiv:∀ i,ς i (dv t2 b1):=fun i=>zK1 r0 (Ę rle (ď z2 (Δ (by decide))))
  refine ⟨_,rfl,b,_,_,_,rfl,rfl,SqT.of hb,rfl,_,rfl,a,_,_,_,rfl,rfl,SqT.of ha,rfl,_,_,rfl,(by omega),?_⟩
  generalize hl:dv t1 b2 = l at *
  generalize hr:dv t2 b1 = r at *
  obtain ⟨e1,e2⟩:=yV8 p1 n2 c1 c2 hl.symm hr.symm
  have le1:∀ {x d:Int},x.natAbs < 2 ^ 8000->(x.fdiv d).natAbs < 2 ^ 8001:=fun {x d} hx=>by
   have:=natAbs_fdiv_le x d
   rw [į]; omega
  refine ⟨_,rfl,a,_,_,_,rfl,rfl,SqT.of ha,rfl,_,rfl,_,_,rfl,rfl,ldiv _,_,rfl,b,_,_,_,rfl,rfl,SqT.of hb,rfl,_,rfl,_,_,rfl,rfl,rdiv _,_,_,rfl,rfl,ý 8001 (le1 z1) (le1 z3) (by decide),_,rfl,a,_,_,_,rfl,rfl,SqT.of ha,rfl,_,rfl,_,_,rfl,rfl,rdiv _,_,rfl,b,_,_,_,rfl,rfl,SqT.of hb,rfl,_,rfl,_,_,rfl,rfl,ldiv _,_,_,rfl,rfl,ý 8001 (le1 z2) (le1 z4) (by decide),sz (by simp),fun p hp=>?_⟩
  exact k _ _ (Same.upd hp) (FrV.newOf e1 e2)
noncomputable abbrev zP7:Stmt:=top 8
theorem sc_over:Ì ["one","other"] ["one","other"] (Å zP7):=scF
theorem xF9 {ca:Ca} (D:DefAt K mg "over" zP7) (T:Txt K mg ca) (G_times:FnAt P w K mg base CX0 2 "times" ["one","other"] (spTimes)):FnAt P w K mg base (CXE P w) 3 "over" ["one","other"] (yL9 ca.NoNumber):=by
 refine D.okE sc_over (fun vs H Q E h=>?_) (fun _ _ _ _ _ _ us hl=>match us,hl with | [_,_],_=>rfl) (fun f cdv A outer s H vs Q E hr h=>?_)
 ·obtain ⟨_,_,r,q,rfl,⟨a,rfl,ha⟩,⟨b,rfl,hb⟩,br,bq,k,kE⟩:=h; rfl
 ·obtain ⟨_,_,r,q,rfl,⟨a,rfl,ha⟩,⟨b,rfl,hb⟩,br,bq,k,kE⟩:=h
  have nd:=sc_over.nd
  refine ⟨_,(Ã (ø (Õ ξ (pixT (pv 1) Ä) Ä (Ù _)) (Æ (yX0 yO1 rfl (by rfl) T.c_NoNumber T.e_NoNumber PySem.F.excBase_ValueError (À ó Â))) Þ)
   (Æ (Ï (pfn G_times hr (À (pv 0) (À (Ü (À (pixT (pv 1) Ä) (À (pixT (pv 1) Ä) Â))) Â)))))),?_⟩
  refine ⟨_,rfl,b,_,_,_,rfl,rfl,SqT.of hb,rfl,rfl,_,rfl,?_⟩
  refine ite2 (fun h1=>?_) (fun h1=>?_)
  ·have e:V.int q.num = .int 0:=of_decide_eq_true h1
   have e:q = 0:=Rat.num_eq_zero.mp (V.int.inj e)
   exact ⟨sz (by simp),kE e⟩
  have hn:q.num ≠ 0:=fun z=>h1 (decide_eq_true (by rw [z]))
  have hq:q ≠ 0:=fun z=>hn (Rat.num_eq_zero.mpr z)
  refine ⟨_,rfl,_,rfl,b,_,_,_,rfl,rfl,SqT.of hb,rfl,_,rfl,b,_,_,_,rfl,rfl,SqT.of hb,rfl,sz (by simp),fun p hp=>?_⟩
  have ne:a ≠ p:=Ç ha hp
  refine ⟨_,_,a,p,r.num,r.den,q.den,q.num,rfl,rfl,(by rw [upd_ne ne]; exact ha),rfl,Á,ã r,hn,zR4 r,yG5 q,⟨br.num,br.den,bq.den,bq.num⟩,fun v H' s' h=>?_⟩
  rw [xM9 r q hn] at h
  exact k hq v H' ((Same.upd hp).trans s') h
noncomputable abbrev zJ1:Stmt:=top 9
theorem sc_under:Ì ["one","other"] ["one","other"] (Å zJ1):=scF
theorem yX4 {ca:Ca} (D:DefAt K mg "under" zJ1) (T:Txt K mg ca):FnAt P w K mg base CX0 1 "under" ["one","other"] (yL7):=by
 refine D.ok sc_under (fun vs H Q E h=>?_) (fun _ _ _ _ _ _ us hl=>match us,hl with | [_,_],_=>rfl) (fun f cdv A outer s H vs Q E hr h=>?_)
 ·obtain ⟨_,_,r,q,rfl,⟨a,rfl,ha⟩,⟨b,rfl,hb⟩,br,bq,k⟩:=h; rfl
 ·obtain ⟨_,_,r,q,rfl,⟨a,rfl,ha⟩,⟨b,rfl,hb⟩,br,bq,k⟩:=h
  have nd:=sc_under.nd
  refine ⟨_,(Æ (Ï (Ρ xF7 (Ó ź (pixT (pv 0) Ä) (pixT (pv 1) Ä)) (Ó ź (pixT (pv 1) Ä) (pixT (pv 0) Ä)) (Ù _)))),?_⟩
  refine ⟨_,rfl,a,_,_,_,rfl,rfl,SqT.of ha,rfl,_,rfl,b,_,_,_,rfl,rfl,SqT.of hb,rfl,_,_,rfl,rfl,ý 8000 br.num bq.den (by decide),_,rfl,b,_,_,_,rfl,rfl,SqT.of hb,rfl,_,rfl,a,_,_,_,rfl,rfl,SqT.of ha,rfl,_,_,rfl,rfl,ý 8000 bq.num br.den (by decide),_,_,rfl,rfl,?_⟩
  rw [<- _root_.Tc.lt_ok] at k
  exact k
noncomputable abbrev zF8:Stmt:=top 10
theorem sc_sum_of:Ì ["some","whole","share"] ["some"] (Å zF8):=scF
theorem yP6 {ca:Ca} (D:DefAt K mg "sum_of" zF8) (T:Txt K mg ca) (G_plus:FnAt P w K mg base CX0 2 "plus" ["one","other"] (zP5)):FnAt P w K mg base CX0 3 "sum_of" ["some"] (yB0 K):=by
 refine D.ok sc_sum_of (fun vs H Q E h=>?_) (fun _ _ _ _ _ _ us hl=>match us,hl with | [_],_=>rfl) (fun f cdv A outer s H vs Q E hr h=>?_)
 ·obtain ⟨a,xs,rs,rfl,hS,hP,hB,hT,k⟩:=h; rfl
 ·obtain ⟨a,xs,rs,rfl,hS,hP,hB,hT,k⟩:=h
  have nd:=sc_sum_of.nd
  refine ⟨_,(Ã (Ê (i:=1) nd rfl (Or.inl rfl) (Ü (À Ä (À Ä Â))))
   (Ã (ß PassesOwn.never rfl (è (K:=K) rfl (pv 0)) (È (i:=2) nd rfl (Or.inl rfl)) (Æ (Ê (i:=1) nd rfl (Or.inl rfl) (pfn G_plus hr (À (pv 1) (À (pv 2) Â))))))
   (Æ (Ï (pv 1))))),?_⟩
  refine ⟨sz (by simp),fun p0 hp0=>?_⟩
  have hl:xs.length = rs.length:=hP.length
  refine ⟨_,rfl,a,rfl,⟨_,(Same.upd hp0).seq hS⟩,?_⟩
  refine þ (xs:=xs) (fun i σ H1=>∃ v2:Option V,∃ w1:V,σ = [some (.ref a),some w1,v2] /\ Same H H1 /\ FrV H1 w1 (sumQ (rs.take i))) ⟨none,.ref p0,rfl,Same.upd hp0,FrV.newOf rfl rfl⟩ ?_ ?_ ?_
  ·rintro i σ H1 hi ⟨v2,w1,rfl,s1,h1⟩
   exact s1.seq hS
  ·rintro i x σ H1 hx ⟨v2,w1,rfl,s1,h1⟩
   obtain ⟨r,hr,fr⟩:=à hP hx
   have hi:i < rs.length:=(Ą.mp hr).1
   refine ⟨_,rfl,_,rfl,_,_,_,_,rfl,h1,fr.same s1,hT i (by omega),hB r (ċ hr),fun v H2 s2 h2=>?_⟩
   refine ⟨_,_,rfl,s1.trans s2,?_⟩
   rw [yL4 hr]; exact h2
  ·rintro σ H1 ⟨v2,w1,rfl,s1,h1⟩
   rw [hl,Đ] at h1
   exact ⟨_,rfl,k _ _ s1 h1⟩
noncomputable abbrev zB1:Stmt:=top 12
theorem sc_less_times:Ì ["row","other","factor"] ["row","other","factor"] (Å zB1):=scF
theorem zR9 {ca:Ca} (D:DefAt K mg "less_times" zB1) (T:Txt K mg ca) (G_minus:FnAt P w K mg base CX0 3 "minus" ["one","other"] (zR2)) (G_times:FnAt P w K mg base CX0 2 "times" ["one","other"] (spTimes)):FnAt P w K mg base CX0 4 "less_times" ["row","other","factor"] (xB2):=by
 refine D.ok sc_less_times (fun vs H Q E h=>?_) (fun _ _ _ _ _ _ us hl=>match us,hl with | [_,_,_],_=>rfl) (fun f cdv A outer s H vs Q E hr h=>?_)
 ·obtain ⟨a,b,fv,m,f,g,t,rfl,hA,hB,hx,h30,bt,hbd,k⟩:=h; rfl
 ·obtain ⟨a,b,fv,m,f,g,t,rfl,hA,hB,hx,h30,bt,hbd,k⟩:=h
  have nd:=sc_less_times.nd
  refine ⟨_,(Ã (ø (Õ (Τ (K:=K) rfl hr) (pv 2) (Ü (À Ä (À Ä Â))) (Ù _)) (Æ (Ï (ŭ (zD2 (K:=K) rfl) (by rfl) T.z_list γ (À (pv 0) Â)))) Þ)
   (Æ (Ï (Κ ["one","two"] ["factor"] [2] rfl (by rfl) (xB7 (K:=K) rfl (by rfl) T.z_zip (À (pv 0) (À (pv 1) Â))) (fun _ _ _ _=>(yP1 (K:=K) (n:=2) (by rfl) (by rfl) (Ò (È (i:=0) (show List.Nodup (["one","two","factor"]:List Str) from by decide) rfl (Or.inl rfl) (hf:=Or.inr (by rfl))) (Ò (È (i:=1) (show List.Nodup (["one","two","factor"]:List Str) from by decide) rfl (Or.inl rfl) (hf:=Or.inr (by rfl))) ÿ)))) (fun _ _ _ _=>Η) (fun _ _ _ _=>(pfn G_minus hr (À (pv 0) (À (pfn G_times hr (À (pv 1) (À (pv 2) Â))) Â)))))))),?_⟩
  obtain ⟨us,ha,hA⟩:=hA
  obtain ⟨ws,hb,hB⟩:=hB
  have lA:us.length = m:=hA.length.trans (Ω m f)
  have lB:ws.length = m:=hB.length.trans (Ω m g)
  refine ⟨_,rfl,sz (by simp),fun p0 hp0=>?_⟩
  have t0:=Same.upd (o:=.tup [.int 0,.int 1]) hp0
  refine ⟨_,_,(hx.same t0).rep,θ (SqT.of Á),Β _ _,_,rfl,?_⟩
  rw [eq01]
  refine ite2 (fun h=>?_) (fun h=>?_)
  ·have ht:t = 0:=of_decide_eq_true h
   refine ⟨_,rfl,a,us,rfl,.inl (SqL.of (t0 _ _ ha)),fun p hp=>?_⟩
   refine k p _ (t0.free hp) (t0.trans (Same.upd hp)) ⟨us,Á,?_⟩
   have e:nR m (fun j=>f j - g j * t) = nR m f:=zT4 fun j _=>by rw [ht,Rat.mul_zero]; grind
   rw [e]
   exact Paired.mapP hA fun _ _ q=>(q.same t0).upd hp
  ·refine ⟨_,rfl,_,rfl,a,b,us,ws,rfl,SqL.of (t0 _ _ ha),SqL.of (t0 _ _ hb),fun Dd hD=>?_⟩
   have hD0:=t0.free hD
   refine yV1 (xs:=us) (ys:=ws) (fun j σ' H'=>∃ (v0 v1:Option V) (qs:List V),σ' = [v0,v1,some fv] /\ Same H H' /\ H' Dd = some (.lst qs) /\ Paired (FrV H') qs (nR j fun j=>f j - g j * t)) (by omega) ⟨none,none,[],rfl,t0.trans (Same.upd hD),Á,.nil⟩ ?_ ?_ ?_
   ·rintro j σ' H' hj ⟨v0,v1,qs,rfl,s1,hd,hF⟩
    exact ⟨SqL.of (s1 _ _ ha),SqL.of (s1 _ _ hb)⟩
   ·rintro j x y T' σ' H' hx1 hy1 ⟨v0,v1,qs,rfl,s1,hd,hF⟩ hT
    obtain ⟨r1,hr1,fx⟩:=à hA hx1
    obtain ⟨r2,hr2,fy⟩:=à hB hy1
    obtain ⟨hj,rfl⟩:=yQ4 hr1
    obtain ⟨_,rfl⟩:=yQ4 hr2
    obtain ⟨bf,bg,bgt⟩:=hbd j hj
    have tT:=Same.upd (o:=.tup [x,y]) hT
    have lW:qs.length = j:=hF.length.trans (Ω j _)
    have s2:=s1.trans tT
    refine ⟨T',_,rfl,SqT.of Á,rfl,_,_,rfl,_,_,rfl,rfl,?_⟩
    refine ⟨_,rfl,_,rfl,_,rfl,spTimes.of (E:=E0) rfl (fy.same s2) (hx.same s2) bg bt fun u3 H3 s3 f3=>?_⟩
    refine ⟨_,_,f j,g j * t,rfl,(fx.same s2).same s3,f3,bf,bgt,fun u4 H4 s4 f4=>?_⟩
    have s24:=tT.trans (s3.trans s4)
    have hd4:=s24 _ _ hd
    refine ⟨_,hd4,sz (by omega),_,_,qs ++ [u4],rfl,(s1.trans s24).updD hD0,Á,?_⟩
    rw [zN9]
    have tu:=Ñ (o:=.lst (qs ++ [u4])) hd4 (fun _ z=>nomatch z)
    exact Paired.snoc (Paired.mapP hF fun _ _ f=>(f.same s24).tup tu) (f4.tup tu)
   ·rintro σ' H1 ⟨v0,v1,qs,rfl,s1,hd,hF⟩
    rw [lA] at hF
    exact k Dd H1 hD0 s1 ⟨qs,hd,hF⟩
noncomputable abbrev zE6:Stmt:=top 13
theorem sc_pivoted:Ì ["rows","at","column","lead","cleared","number","row"] ["rows","at","column"] (Å zE6):=scF
theorem yJ2 {ca:Ca} (D:DefAt K mg "pivoted" zE6) (T:Txt K mg ca) (G_over:FnAt P w K mg base (CXE P w) 3 "over" ["one","other"] (yL9 ca.NoNumber)) (G_less_times:FnAt P w K mg base CX0 4 "less_times" ["row","other","factor"] (xB2)):FnAt P w K mg base CX0 5 "pivoted" ["rows","at","column"] (xI8):=by
 refine D.ok sc_pivoted (fun vs H Q E h=>?_) (fun _ _ _ _ _ _ us hl=>match us,hl with | [_,_,_],_=>rfl) (fun f cdv A outer s H vs Q E hr h=>?_)
 ·obtain ⟨a,r,m,c,k,M,rfl,hM,hc,hk,hr30,hm,hp,hbd,fin⟩:=h; rfl
 ·obtain ⟨a,r,m,c,k,M,rfl,hM,hc,hk,hr30,hm,hp,hbd,fin⟩:=h
  have nd:=sc_pivoted.nd
  refine ⟨_,(Ã (zJ6 ["number"] ["column","rows","at"] [2,0,1] (i:=3) nd rfl rfl rfl (by rfl) (è (K:=K) rfl (pixL (pv 0) (pv 1))) (fun _ _ _ _=>(È (i:=0) (show List.Nodup (["number","column","rows","at"]:List Str) from by decide) rfl (Or.inl rfl))) (fun _ _ _ _=>Η) (fun _ _ _ _=>(xF3 G_over hr (by rfl) xC1 (À (pv 0) (À (pixL (pixL (pv 2) (pv 3)) (pv 1)) Â)))))
   (Ã (Ê (i:=4) nd rfl (Or.inl rfl) (ų Â))
   (Ã (ß PassesOwn.never rfl (xF1 (K:=K) rfl (by rfl) T.z_enumerate (À (pv 0) Â)) (Θ rfl (Ò (È (i:=5) nd rfl (Or.inl rfl)) (Ò (È (i:=6) nd rfl (Or.inl rfl)) ÿ))) (Æ (ø (Õ ξ (pv 5) (pv 1) (Ù _)) (Æ (ù (ρ PySem.F.plainAttrs_list PySem.F.slot_list_append PySem.F.type_list_append û (pv 4) (À (pv 3) Â)))) (Æ (ù (ρ PySem.F.plainAttrs_list PySem.F.slot_list_append PySem.F.type_list_append û (pv 4) (À (pfn G_less_times hr (À (pv 6) (À (pv 3) (À (pixL (pv 6) (pv 2)) Â)))) Â)))))))
   (Æ (Ï (pv 4)))))),?_⟩
  obtain ⟨bs,ha,lb,hB⟩:=hM
  obtain ⟨bc,hbc⟩:∃ b,bs[c]? = some b:=⟨_,Č (by omega)⟩
  have hLc:=hB c bc hbc
  obtain ⟨vs,hvs,hV⟩:=id hLc
  have lV:vs.length = m:=hV.length.trans (Ω m _)
  obtain ⟨vs',vk,hvs',_,hak,fk⟩:=hLc.at hk
  rw [hvs] at hvs'
  cases hvs'
  refine ⟨_,rfl,_,rfl,a,_,_,_,rfl,rfl,SqL.of ha,zM8 hbc,bc,rfl,⟨_,SqL.of hvs⟩,fun Dd hD=>?_⟩
  refine zD9 (xs:=vs) (fun j σ' H'=>∃ (v:Option V) (qs:List V),σ' = [v,some (.int (k:Nat)),some (.ref a),some (.int (c:Nat))] /\ Same H H' /\ H' Dd = some (.lst qs) /\ Paired (FrV H') qs (nR j fun j=>M c j / M c k)) ⟨none,[],rfl,Same.upd hD,Á,.nil⟩ ?_ ?_ ?_
  ·rintro j σ' H' hj ⟨v,qs,rfl,s1,hd,hF⟩
   exact SqL.of (s1 _ _ hvs)
  ·rintro j x σ' H' hx1 ⟨v,qs,rfl,s1,hd,hF⟩
   obtain ⟨r1,hr1,fx⟩:=à hV hx1
   obtain ⟨hj,rfl⟩:=yQ4 hr1
   have lW:qs.length = j:=hF.length.trans (Ω j _)
   refine ⟨_,rfl,_,rfl,_,rfl,a,_,_,_,rfl,rfl,SqL.of (s1 _ _ ha),zM8 hbc,_,rfl,bc,_,_,_,rfl,rfl,SqL.of (s1 _ _ hvs),hak,?_⟩
   refine ⟨_,_,M c j,M c k,rfl,fx.same s1,fk.same s1,(hbd c hc j hj).1,(hbd c hc k hk).1,(fun _ u2 H2 s2 f2=>?_),fun z=>absurd z hp⟩
   have hd2:=s2 _ _ hd
   refine ⟨_,hd2,sz (by omega),_,qs ++ [u2],rfl,(s1.trans s2).updD hD,Á,?_⟩
   rw [zN9]
   have tu:=Ñ (o:=.lst (qs ++ [u2])) hd2 (fun _ z=>nomatch z)
   exact Paired.snoc (Paired.mapP hF fun _ _ f=>(f.same s2).tup tu) (f2.tup tu)
  rintro σ' H1 ⟨v,qs,rfl,s1,hd,hF⟩
  rw [lV] at hF
  have hld:LsF H1 Dd (nR m fun j=>M c j / M c k):=⟨qs,hd,hF⟩
  refine ⟨sz (by simp),fun p hp'=>?_⟩
  have tp:=Same.upd (o:=.lst []) hp'
  have hp0:=s1.free hp'
  have s1p:=s1.trans tp
  refine ⟨_,rfl,a,_,rfl,SqL.of (s1p _ _ ha),?_⟩
  refine yZ2 (xs:=bs.map V.ref) (fun i σ H2=>∃ (v5 v6:Option V) (cs:List Addr),σ = [some (.ref a),some (.int (c:Nat)),some (.int (k:Nat)),some (.ref Dd),some (.ref p),v5,v6] /\ Same H1 H2 /\ H2 p = some (.lst (cs.map V.ref)) /\ cs.length = i /\ ∀ j q,cs[j]? = some q->q ≠ p /\ LsF H2 q (nR m (pivM M c k j))) ⟨none,none,[],rfl,tp,Á,rfl,fun j q e=>by simp at e⟩ ?_ ?_ ?_
  ·rintro i σ H2 hi ⟨v5,v6,cs,rfl,s2,h2,lc,hC⟩
   exact SqL.of ((s1.trans s2) _ _ ha)
  ·rintro i x T' σ H2 hx1 ⟨v5,v6,cs,rfl,s2,h2,lc,hC⟩ hT
   obtain ⟨bi,rfl,hbi⟩:=yN8 hx1
   have hil:i < r:=by have:=(Ą.mp hbi).1; omega
   have tT:=Same.upd (o:=.tup [.int (i:Nat),.ref bi]) hT
   refine ⟨T',_,rfl,SqT.of Á,rfl,_,_,rfl,_,_,rfl,rfl,?_⟩
   have s2T:=s2.trans tT
   have h2T:=tT _ _ h2
   have hC3:∀ j q,cs[j]? = some q->q ≠ p /\ LsF (upd H2 T' (.tup [.int (i:Nat),.ref bi])) q (nR m (pivM M c k j)):=fun j q e=>⟨(hC j q e).1,(hC j q e).2.same tT⟩
   generalize upd H2 T' (.tup [.int (i:Nat),.ref bi]) = H3 at *
   have fin2:∀ H4 q,Same H3 H4->q ≠ p->LsF H4 q (nR m (pivM M c k i))->∃ (v5 v6:Option V) (ds:List Addr),[some (V.ref a),some (.int (c:Nat)),some (.int (k:Nat)),some (.ref Dd),some (.ref p),some (.int (i:Nat)),some (.ref bi)] = [some (V.ref a),some (.int (c:Nat)),some (.int (k:Nat)),some (.ref Dd),some (.ref p),v5,v6] /\ Same H1 (upd H4 p (.lst (cs.map V.ref ++ [.ref q]))) /\ upd H4 p (.lst (cs.map V.ref ++ [.ref q])) p = some (.lst (ds.map V.ref)) /\ ds.length = i + 1 /\ ∀ j q',ds[j]? = some q'->q' ≠ p /\ LsF (upd H4 p (.lst (cs.map V.ref ++ [.ref q]))) q' (nR m (pivM M c k j)):=by
    intro H4 q s4 nq hq
    have h4:=s4 _ _ h2T
    have tu:=Ñ (o:=.lst (cs.map V.ref ++ [.ref q])) h4 (fun _ z=>nomatch z)
    refine ⟨_,_,cs ++ [q],rfl,(s2T.trans s4).updD hp',by rw [Á,ė]; rfl,by rw [Ĝ,lc]; rfl,fun j q' e=>?_⟩
    rcases zL7 e with e | ⟨e1,rfl⟩
    ·obtain ⟨n1,l1⟩:=hC3 j q' e
     exact ⟨n1,(l1.same s4).keep tu fun vs h=>by rw [upd_ne n1]; exact h⟩
    ·rw [e1,lc]
     exact ⟨nq,hq.keep tu fun vs h=>by rw [upd_ne nq]; exact h⟩
   have npD:Dd ≠ p:=fun e=>by rw [<- e,hd] at hp'; cases hp'
   show tIfS _ _ _ _ _ _
   refine ⟨_,rfl,_,rfl,rfl,_,rfl,?_⟩
   refine ite2 (fun h=>?_) (fun h=>?_)
   ·have h:i = c:=by have:=of_decide_eq_true h; have:=V.int.inj this; omega
    subst h
    refine ⟨_,rfl,.inl ⟨rfl,_,SqL.of h2T⟩,_,rfl,p,_,_,rfl,rfl,h2T,sz (by rw [ā]; omega),?_⟩
    refine fin2 H3 Dd (Same.refl _) npD ?_
    have e:nR m (pivM M i k i) = nR m (fun j=>M i j / M i k):=zT4 fun j _=>by unfold pivM; rw [if_pos rfl]
    rw [e]; exact hld.same s2T
   ·have h:i ≠ c:=fun e=>h (decide_eq_true (by rw [e]))
    obtain ⟨us,u,hus,_,hau,fu⟩:=((hB i bi hbi).same (s1.trans s2T)).at hk
    refine ⟨_,rfl,.inl ⟨rfl,_,SqL.of h2T⟩,_,rfl,_,rfl,_,rfl,_,rfl,bi,_,_,_,rfl,rfl,SqL.of hus,hau,?_⟩
    refine ⟨bi,Dd,u,m,M i,(fun j=>M c j / M c k),M i k,rfl,(hB i bi hbi).same (s1.trans s2T),hld.same s2T,fu,hm,(hbd i hil k hk).1,fun j hj=>⟨(hbd i hil j hj).1,(hbd i hil j hj).2⟩,fun pn H4 hpn s4 h4=>?_⟩
    refine ⟨p,_,_,rfl,rfl,s4 _ _ h2T,sz (by rw [ā]; omega),?_⟩
    refine fin2 H4 pn s4 (fun e=>by rw [e,h2T] at hpn; cases hpn) ?_
    have e:nR m (pivM M c k i) = nR m (fun j=>M i j - M c j / M c k * M i k):=zT4 fun j _=>by unfold pivM; rw [if_neg h]
    rw [e]; exact h4
  ·rintro σ H2 ⟨v5,v6,cs,rfl,s2,h2,lc,hC⟩
   rw [ā,lb] at lc
   exact ⟨_,rfl,fin p H2 hp0 (s1.trans s2) ⟨cs,h2,lc,fun j q e=>(hC j q e).2⟩⟩
noncomputable abbrev zF9:Stmt:=top 14
theorem sc_solved:Ì ["rows","many","column","at","ordered"] ["rows"] (Å zF9):=scF
theorem yP7 {ca:Ca} (D:DefAt K mg "solved" zF9) (T:Txt K mg ca) (G_pivoted:FnAt P w K mg base CX0 5 "pivoted" ["rows","at","column"] (xI8)):FnAt P w K mg base CX0 6 "solved" ["rows"] (yE2):=by
 refine D.ok sc_solved (fun vs H Q E h=>?_) (fun _ _ _ _ _ _ us hl=>match us,hl with | [_],_=>rfl) (fun f cdv A outer s H vs Q E hr h=>?_)
 ·obtain ⟨a,n,d,e,A,rfl,hM,hn,hbd,hd1,he1,hA,k⟩:=h; rfl
 ·obtain ⟨a,n,d,e,A,rfl,hM,hn,hbd,hd1,he1,hA,k⟩:=h
  have nd:=sc_solved.nd
  refine ⟨_,(Ã (Ê (i:=1) nd rfl (Or.inr rfl) (Ô (í (K:=K) rfl) (by rfl) T.z_len PySem.boot_len (À (pv 0) Â)))
   (Ã (ß PassesOwn.never rfl (ŷ (by rfl) T.z_range (À (pv 1) Â)) (È (i:=2) nd rfl (Or.inl rfl)) (Ã (Ê (i:=3) nd rfl (Or.inl rfl) (pv 2))
   (Ã (zL4 PassesOwn.never (Õ (Τ (K:=K) rfl hr) (pixL (pixL (pv 0) (pv 3)) (pv 2)) (Ü (À Ä (À Ä Â))) (Ù _)) (Æ (xB6 (i:=3) nd rfl (Or.inl rfl) Ä xC8)))
   (Ã (Ê (i:=4) nd rfl (Or.inl rfl) (ŭ (zD2 (K:=K) rfl) (by rfl) T.z_list γ (À (pv 0) Â)))
   (Ã (yO4 (pixL (pv 0) (pv 2)) (xB9 (pv 4) (pv 3) yE7))
   (Ã (yO4 (pixL (pv 0) (pv 3)) (xB9 (pv 4) (pv 2) yE7))
   (Æ (Ê (i:=0) nd rfl (Or.inl rfl) (pfn G_pivoted hr (À (pv 4) (À (pv 2) (À (pv 2) Â))))))))))))
   (Æ (Ï (Κ ["row"] ["many"] [1] rfl (by rfl) (è (K:=K) rfl (pv 0)) (fun _ _ _ _=>(È (i:=0) (show List.Nodup (["row","many"]:List Str) from by decide) rfl (Or.inl rfl))) (fun _ _ _ _=>Η) (fun _ _ _ _=>(pixL (pv 0) (pv 1)))))))),?_⟩
  obtain ⟨bs0,ha0,lb0,hB0⟩:=id hM
  have l0:(bs0.map V.ref).length = n:=by rw [ā]; exact lb0
  refine ⟨_,rfl,_,_,rfl,.inl ⟨_,SqL.of ha0,rfl⟩,?_⟩
  rw [l0]
  refine ⟨_,rfl,_,rfl,by omega,by omega,?_⟩
  refine Ż (fun c σ H1=>∃ (v2 v3 v4:Option V) (pc:Addr) (M:Nat->Nat->Rat) (x y:Nat),σ = [some (.ref pc),some (.int (n:Nat)),v2,v3,v4] /\ Same H H1 /\ MatAt H1 pc n (n + 1) M /\ ClrM n M c /\ (∀ y,KerM n M y->KerM n A y) /\ BdB n M x y /\ x + 1 = 2 ^ c * (d + 1) /\ y + (d + 1) = e + 2 ^ c * (d + 1)) ⟨none,none,none,a,A,d,e,rfl,Same.refl H,hM,(fun i _ j hj=>absurd hj (Nat.not_lt_zero _)),fun _ h=>h,hbd,by omega,by omega⟩ ?_ ?_
  ·rintro c σ H1 hc ⟨v2,v3,v4,pc,M,x,y,rfl,s1,hM1,cl,kr,bd,hx,hy⟩
   have hc:c < n:=by simpa using hc
   have p5:2 ^ (c + 1) <= 2 ^ 5:=ĥ (by decide) (by omega)
   have p5':2 * (2 ^ c * (d + 1)) <= 32 * (d + 1):=by
    rw [<- ŋ,ļ 2,<- į]
    exact Ė _ p5
   obtain ⟨a0,h1,h2,h3⟩:=yO9 hc cl kr hA
   obtain ⟨bs,ha,lb,hB⟩:=id hM1
   refine ⟨_,rfl,?_⟩
   refine zL1 (fun σ H2=>∃ q:Nat,σ = [some (.ref pc),some (.int (n:Nat)),some (.int (0 + (c:Int))),some (.int (q:Nat)),v4] /\ Same H1 H2 /\ c <= q /\ q <= a0) (fun σ _=>match σ with | [_,_,_,some (.int q),_]=>n - q.toNat | _=>0) ⟨c,by simp,Same.refl _,ą _,h1⟩ ?_ ?_
   ·rintro σ H2 ⟨q,rfl,s2,hcq,hqa⟩
    obtain ⟨bq,hbq⟩:∃ b,bs[q]? = some b:=⟨_,Č (by omega)⟩
    obtain ⟨vs,v,hvs,_,hat,fv⟩:=(hB q bq hbq).at (j:=c) (by omega)
    have hat':atI vs (0 + (c:Int)) = some v:=by rw [Int.zero_add]; exact hat
    refine ⟨_,rfl,_,rfl,pc,_,_,_,rfl,rfl,SqL.of (s2 _ _ ha),zM8 hbq,_,rfl,bq,_,_,_,rfl,rfl,SqL.of (s2 _ _ hvs),hat',?_⟩
    refine ⟨sz (by simp),fun p0 hp0=>?_⟩
    have t0:=Same.upd (o:=.tup [.int 0,.int 1]) hp0
    refine ⟨_,_,(fv.same (s2.trans t0)).rep,θ (SqT.of Á),Β _ _,_,rfl,?_⟩
    rw [eq01]
    refine ite2 (fun h=>?_) (fun h=>?_)
    ·have h:M q c = 0:=of_decide_eq_true h
     have hne:q ≠ a0:=fun e=>h3 (by rw [<- e]; exact h)
     refine ⟨_,rfl,_,_,rfl,rfl,?_⟩
     refine ⟨⟨q + 1,rfl,s2.trans t0,by omega,by omega⟩,?_⟩
     show n - (((q:Nat):Int) + 1).toNat < n - ((q:Nat):Int).toNat
     omega
    ·have h:M q c ≠ 0:=fun e=>h (decide_eq_true e)
     have hqn:q < n:=by omega
     have s2t:=s2.trans t0
     obtain ⟨bc,hbc⟩:∃ b,bs[c]? = some b:=⟨_,Č (by omega)⟩
     have hac:atI (bs.map V.ref) (0 + (c:Int)) = some (.ref bc):=by rw [Int.zero_add]; exact zM8 hbc
     have ha2:=s2t _ _ ha
     refine ⟨_,rfl,pc,_,rfl,.inl (SqL.of ha2),fun po hpo=>?_⟩
     have t1:=Same.upd (o:=.lst (bs.map V.ref)) hpo
     refine ⟨_,rfl,_,rfl,pc,_,_,_,rfl,rfl,SqL.of (t1 _ _ ha2),hac,_,rfl,_,rfl,?_⟩
     have hpo1:=Á (H:=upd H2 p0 (.tup [.int 0,.int 1])) (a:=po) (o:=.lst (bs.map V.ref))
     have hB2:∀ i b,bs[i]? = some b->LsF (upd (upd H2 p0 (.tup [.int 0,.int 1])) po (.lst (bs.map V.ref))) b (nR (n + 1) (M i)):=fun i b e=>(hB i b e).same (s2t.trans t1)
     have s2o:=s2t.trans t1
     have hbo:∀ i b,bs[i]? = some b->b ≠ po:=fun i b e z=>by
      obtain ⟨vs,h1,_⟩:=hB i b e
      rw [z] at h1
      have:=s2t _ _ h1
      rw [hpo] at this; cases this
     have hpc:pc ≠ po:=fun z=>by rw [z,hpo] at ha2; cases ha2
     have hpo0:H1 po = none:=s2t.free hpo
     generalize upd (upd H2 p0 (.tup [.int 0,.int 1])) po (.lst (bs.map V.ref)) = H3 at *
     have ll:(bs.map V.ref).length = n:=by rw [ā]; exact lb
     refine ⟨po,_,_,q,rfl,rfl,hpo1,by rw [ll]; exact yS2 hqn,?_⟩
     rw [yG0]
     have u4:=Ñ (o:=.lst ((bs.set q bc).map V.ref)) hpo1 (fun _ z=>nomatch z)
     have ha4:upd H3 po (.lst ((bs.set q bc).map V.ref)) pc = some (.lst (bs.map V.ref)):=by rw [upd_ne hpc]; exact s2o _ _ ha
     have s4:=s2o.updD (o:=.lst ((bs.set q bc).map V.ref)) hpo0
     have hpo4:=Á (H:=H3) (a:=po) (o:=.lst ((bs.set q bc).map V.ref))
     have hB4:∀ i b,bs[i]? = some b->LsF (upd H3 po (.lst ((bs.set q bc).map V.ref))) b (nR (n + 1) (M i)):=fun i b e=>(hB2 i b e).keep u4 fun vs h=>by rw [upd_ne (hbo i b e)]; exact h
     generalize upd H3 po (.lst ((bs.set q bc).map V.ref)) = H4 at *
     refine ⟨_,rfl,_,rfl,pc,_,_,_,rfl,rfl,SqL.of ha4,zM8 hbq,_,rfl,_,rfl,?_⟩
     have l4:((bs.set q bc).map V.ref).length = n:=by rw [ā,List.length_set]; exact lb
     refine ⟨po,_,_,c,rfl,rfl,hpo4,by rw [l4,Int.zero_add]; exact yS2 hc,?_⟩
     rw [yG0]
     have u5:=Ñ (o:=.lst (((bs.set q bc).set c bq).map V.ref)) hpo4 (fun _ z=>nomatch z)
     have s5:=s4.updD (o:=.lst (((bs.set q bc).set c bq).map V.ref)) hpo0
     have hpo5:=Á (H:=H4) (a:=po) (o:=.lst (((bs.set q bc).set c bq).map V.ref))
     have hB5:∀ i b,bs[i]? = some b->LsF (upd H4 po (.lst (((bs.set q bc).set c bq).map V.ref))) b (nR (n + 1) (M i)):=fun i b e=>(hB4 i b e).keep u5 fun vs h=>by rw [upd_ne (hbo i b e)]; exact h
     generalize upd H4 po (.lst (((bs.set q bc).set c bq).map V.ref)) = H5 at *
     have hM5:MatAt H5 po n (n + 1) (ε M q c):=MatAt.swap hpo5 lb hB5 hbq hbc
     have hp5:ε M q c c c ≠ 0:=by unfold ε; rw [if_pos rfl]; exact h
     have bd5:=bd.swap hqn hc
     refine ⟨_,rfl,_,rfl,_,rfl,po,n,n + 1,c,c,ε M q c,?_,hM5,hc,by omega,by omega,by omega,hp5,bd5.all hc hc hp5 (by omega) (by omega),fun pn H6 hpn s6 hM6=>?_⟩
     ·show [V.ref po,.int (0 + (c:Int)),.int (0 + (c:Int))] = _
      rw [Int.zero_add]
     refine ⟨_,_,_,pn,_,2 * x + 1,x + y + 1,rfl,s1.trans (s5.trans s6),hM6,(cl.swap hc hcq hqn).piv hc hp5,fun y hy=>kr y ((hy.unpiv hc hp5).unswap hqn hc),bd5.piv hc hc hp5,?_,?_⟩
     ·rw [į,ļ _ 2,ŋ]; omega
     ·rw [į,ļ _ 2,ŋ]; omega
   ·intro σ H2 Q1 Q2 hq hh
    obtain ⟨v1,e1,v2,e2,a1,a2,a3,a4,e3,e4,q1,q2,v5,e5,b1,b2,b3,b4,e6,e7,q3,q4,z1,g⟩:=hh
    exact ⟨v1,e1,v2,e2,a1,a2,a3,a4,e3,e4,q1,q2,v5,e5,b1,b2,b3,b4,e6,e7,q3,q4,z1,fun p hp=>let ⟨d1,d2,r1,r2,dp,kk,ek,hQ⟩:=g p hp; ⟨d1,d2,r1,r2,dp,kk,ek,hq _ _ hQ⟩⟩
  ·rintro σ H1 ⟨v2,v3,v4,pc,M,x,y,rfl,s1,hM1,cl,kr,bd,hx,hy⟩
   have en:((n:Int)).toNat = n:=by simp
   rw [en] at cl hx hy
   obtain ⟨bs,ha,lb,hB⟩:=id hM1
   refine ⟨_,rfl,pc,rfl,⟨_,SqL.of ha⟩,fun Dd hD=>?_⟩
   have hD0:=s1.free hD
   refine zD9 (xs:=bs.map V.ref) (fun i σ' H'=>∃ (v:Option V) (ws:List V),σ' = [v,some (.int (n:Nat))] /\ Same H1 H' /\ H' Dd = some (.lst ws) /\ Paired (FrV H') ws (nR i fun i=>M i n)) ⟨none,[],rfl,Same.upd hD,Á,.nil⟩ ?_ ?_ ?_
   ·rintro i σ' H' hi ⟨v,ws,rfl,s2,hd,hW⟩
    exact SqL.of (s2 _ _ ha)
   ·rintro i z σ' H' hz ⟨v,ws,rfl,s2,hd,hW⟩
    obtain ⟨bi,rfl,hbi⟩:=yN8 hz
    have hil:i < n:=by have:=(Ą.mp hbi).1; omega
    obtain ⟨us,u,hus,_,hau,fu⟩:=((hB i bi hbi).same s2).at (j:=n) (by omega)
    have lW:ws.length = i:=hW.length.trans (Ω i _)
    refine ⟨_,rfl,_,rfl,bi,_,_,_,rfl,rfl,SqL.of hus,hau,_,hd,sz (by omega),_,ws ++ [u],rfl,s2.updD hD,Á,?_⟩
    rw [zN9]
    have tu:=Ñ (o:=.lst (ws ++ [u])) hd (fun _ z=>nomatch z)
    exact Paired.snoc (Paired.mapP hW fun _ _ f=>f.tup tu) (fu.tup tu)
   ·rintro σ' H2 ⟨v,ws,rfl,s2,hd,hW⟩
    rw [ā,lb] at hW
    have p5:2 ^ n <= 2 ^ 5:=ĥ (by decide) hn
    have p6:2 ^ n * (d + 1) <= 32 * (d + 1):=Ė _ p5
    obtain ⟨D1,E1,g⟩:=bd
    refine k Dd H2 (fun i=>M i n) hD0 (s1.trans s2) ⟨ws,hd,hW⟩ (yN1 cl kr) ⟨E1,2 ^ y,g.e0,g.ew,ĥ (by decide) (by omega),g.la⟩
noncomputable abbrev zE5:Stmt:=top 16
theorem sc_unmoved:Ì ["names","rows","name"] ["names"] (Å zE5):=scF
theorem yJ1 {ca:Ca} (D:DefAt K mg "unmoved" zE5) (T:Txt K mg ca):FnAt P w K mg base CX0 1 "unmoved" ["names"] (zM3 K):=by
 refine D.ok sc_unmoved (fun vs H Q E h=>?_) (fun _ _ _ _ _ _ us hl=>match us,hl with | [_],_=>rfl) (fun f cdv A outer s H vs Q E hr h=>?_)
 ·obtain ⟨an,L,rfl,hS,hn,h8,k⟩:=h; rfl
 ·obtain ⟨an,L,rfl,hS,hn,h8,k⟩:=h
  have nd:=sc_unmoved.nd
  refine ⟨_,(Ã (Ê (i:=1) nd rfl (Or.inl rfl) ë)
   (Ã (ß PassesOwn.never rfl (è (K:=K) rfl (pv 0)) (È (i:=2) nd rfl (Or.inl rfl)) (Æ (ç (â hr) (pv 1) (pv 2) (yP2 (yF3 (pv 2) (Ü (À Ä (À Ä Â))) yO6) rfl rfl (List.cons_ne_nil _ _) (Nat.le_of_ble_eq_true rfl)) rfl)))
   (Æ (Ï (pv 1))))),?_⟩
  intro p hp
  have tp:=Same.upd (o:=.dK []) hp
  refine ⟨_,rfl,an,rfl,⟨_,tp.seq hS⟩,?_⟩
  refine þ (xs:=L.map V.str) (fun i σ H1=>∃ (v2:Option V) (rows:List (Key × V)) (ad:Str->Addr),σ = [some (.ref an),some (.ref p),v2] /\ Same H H1 /\ H1 p = some (.dK rows) /\ TabAt H H1 p rows (L.take i) dlt ad) ⟨none,[],fun _=>0,rfl,tp,Á,TabAt.nil _ _ _ _ _⟩ ?_ ?_ ?_
  ·rintro i σ H1 hi ⟨v2,rows,ad,rfl,s1,h1,T⟩
   exact s1.seq hS
  ·rintro i x σ H1 hx ⟨v2,rows,ad,rfl,s1,h1,T⟩
   obtain ⟨n,rfl,hi⟩:=zG6 hx
   intro q hq
   refine ⟨_,rfl,sz (by simp),fun f hf=>?_⟩
   have nqf:q ≠ f:=fun e=>by rw [<- e,Á] at hf; cases hf
   refine ⟨by rw [upd_ne nqf,Á],[(.inr n,.ref f)],rfl,by simp,?_⟩
   have t3:=((Same.upd (o:=.dK []) hq).trans (Same.upd (o:=.tup [.int 1,.int 1]) hf)).updD (o:=.dK (Ι [] [(.inr n,.ref f)])) hq
   have npq:p ≠ q:=Ç h1 hq
   have len:rows.length <= 8:=by
    rw [T.len (hn.sublist (Ŝ _ _)),ē]; omega
   refine ⟨_,rfl,_,rfl,p,upd (upd (upd (upd H1 q (.dK [])) f (.tup [.int 1,.int 1])) q (.dK (Ι [] [(.inr n,.ref f)]))) p (.dK (putK rows (.inr n) (.ref q))),rfl,?_,?_⟩
   ·exact DPut.k (k:=.inr n) (t3 _ _ h1) (sz (by omega))
   have hq0:H q = none:=s1.free hq
   have ff:FrV (upd (upd (upd (upd H1 q (.dK [])) f (.tup [.int 1,.int 1])) q (.dK (Ι [] [(.inr n,.ref f)]))) p (.dK (putK rows (.inr n) (.ref q)))) (.ref f) 1:=by
    refine ⟨f,rfl,?_⟩
    have npf:f ≠ p:=fun e=>by rw [e,upd_ne npq,h1] at hf; cases hf
    rw [upd_ne npf,upd_ne nqf.symm,Á]; rfl
   have tt:∀ v r,FrV H1 v r->FrV (upd (upd (upd (upd H1 q (.dK [])) f (.tup [.int 1,.int 1])) q (.dK (Ι [] [(.inr n,.ref f)]))) p (.dK (putK rows (.inr n) (.ref q)))) v r:=fun v r g=>(g.same t3).tup (Ñ (t3 _ _ h1) (fun _ z=>nomatch z))
   refine ⟨_,putK rows (.inr n) (.ref q),fun z=>if z = n then q else ad z,rfl,(s1.trans t3).updD hp,Á,?_⟩
   exact T.put hq0 hq npq.symm (fun c o e n=>by rw [upd_ne n]; exact t3 _ _ e) tt (by rw [upd_ne npq.symm,Á]) (RowAt.unit n ff) (fun _ _ _=>rfl) (zH9 hi)
  ·rintro σ H1 ⟨v2,rows,ad,rfl,s1,h1,T⟩
   rw [ā,Đ] at T
   exact ⟨_,rfl,k p H1 rows ad hp s1 h1 T⟩
noncomputable abbrev zB3:Stmt:=top 17
theorem sc_add_shares:Ì ["ends","shares","factor","place","share"] ["ends","shares","factor"] (Å zB3):=scF
theorem zS1 {ca:Ca} (D:DefAt K mg "add_shares" zB3) (T:Txt K mg ca) (G_plus:FnAt P w K mg base CX0 2 "plus" ["one","other"] (zP5)) (G_times:FnAt P w K mg base CX0 2 "times" ["one","other"] (spTimes)):FnAt P w K mg base CX0 3 "add_shares" ["ends","shares","factor"] (zM6):=by
 refine D.ok sc_add_shares (fun vs H Q E h=>?_) (fun _ _ _ _ _ _ us hl=>match us,hl with | [_,_,_],_=>rfl) (fun f cdv A outer s H vs Q E hr h=>?_)
 ·obtain ⟨a,b,x,t,kv,ks,e,s,rfl,hab,ha,hb,he,hs,hx,bt,hB,hn,k⟩:=h; rfl
 ·obtain ⟨a,b,x,t,kv,ks,e,s,rfl,hab,ha,hb,he,hs,hx,bt,hB,hn,k⟩:=h
  have nd:=sc_add_shares.nd
  refine ⟨_,(Æ (ø (Õ (zG8 (K:=K) rfl hr) (pv 2) (Ü (À Ä (À Ä Â))) (Ù _)) (Æ (Ŷ (ß PassesOwn.never rfl (Ÿ (Ū (K:=K) rfl PySem.F.plainAttrs_dict PySem.F.slot_dict_items PySem.F.type_dict_items Ź (pv 1))) (Θ rfl (Ò (È (i:=3) nd rfl (Or.inl rfl)) (Ò (È (i:=4) nd rfl (Or.inl rfl)) ÿ))) (Æ (ç (â hr) (pv 0) (pv 3) (pfn G_plus hr (À (zR7 (â hr) (pv 0) (pv 3) (Ü (À Ä (À Ä Â))) ⟨by rfl,by rfl,by rfl,by rfl⟩) (À (pfn G_times hr (À (pv 4) (À (pv 2) Â))) Â))) rfl))))) Þ)),?_⟩
  refine ⟨_,rfl,sz (by simp),fun p0 hp0=>?_⟩
  have t0:=Same.upd (o:=.tup [.int 0,.int 1]) hp0
  refine ⟨_,_,(hx.same t0).rep,θ (SqT.of Á),Β _ _,_,rfl,?_⟩
  have e0:PyData.eqv (pq t.num t.den) (pq 0 1) = decide (t = 0):=by
   rw [yG9]
   exact yG7 t 0
  refine ite2 (fun h=>?_) (fun h=>?_)
  ·have h:(!PyData.eqv (pq t.num t.den) (pq 0 1)) = true:=h
   have ht:t ≠ 0:=by
    rw [e0] at h
    intro z; rw [decide_eq_true z] at h; cases h
   rw [if_neg ht] at k
   have hb1:=t0 _ _ hb
   refine ⟨b,_,hb1,rfl,?_⟩
   refine ⟨_,rfl,.inr (.inr (.inl ⟨rfl,.inl ⟨_,hb1⟩⟩)),b,_,rfl,rfl,hb1,rfl,fun pv hpv=>?_⟩
   have t1:=t0.trans (Same.upd (o:=Λ pv b) hpv)
   refine ⟨pv,b,_,rfl,Á,t1 _ _ hb,rfl,fun o ps hps=>?_⟩
   have hps:ps = ks.map fun kv=>(kV kv.1,kv.2):=hps
   subst hps
   have keepF:∀ {H2:Hp} {v:V} {r:Rat},(∀ c ob,H c = some ob->c ≠ a->c ≠ b->H2 c = some ob)->FrV H v r->FrV H2 v r:=by
    rintro H2 v r hk ⟨c,rfl,hc⟩
    exact ⟨c,rfl,hk c _ hc (ê hc ha (by intro z; cases z)) (ê hc hb (by intro z; cases z))⟩
   refine Ů (fun i σ H2=>∃ (v3 v4:Option V) (kv':List (Key × V)),σ = [some (.ref a),some (.ref b),some x,v3,v4] /\ H2 b = some (.frz o (.dK ks)) /\ (∀ c ob,H c = some ob->c ≠ a->c ≠ b->H2 c = some ob) /\ H2 a = some (.dK kv') /\ kv'.length <= kv.length + i /\ RowAt H2 kv' (addF e s t (nms (ks.take i)))) ?_ ?_ ?_ ?_
   ·have h2:∀ c ob,H c = some ob->c ≠ a->c ≠ b->upd (upd (upd H p0 (.tup [.int 0,.int 1])) pv (Λ pv b)) b (.frz o (.dK ks)) c = some ob:=fun c ob q _ n=>by rw [upd_ne n]; exact t1 _ _ q
    refine ⟨none,none,kv,rfl,Á,h2,by rw [upd_ne hab]; exact t1 _ _ ha,ą _,?_⟩
    have ef:addF e s t (nms (ks.take 0)) = e:=by funext z; simp [addF,nms]
    rw [ef]
    exact he.same fun v r f=>keepF h2 f
   ·rintro i σ H2 ⟨_,_,_,_,h,_⟩
    exact h
   ·rintro i k' v T σ H2 hk ⟨v3,v4,kv',rfl,hfb,hkeep,ha2,hl2,hrow⟩ hT
    obtain ⟨kvi,hki,ek⟩:=Ο hk
    have hi:i < ks.length:=(Ą.mp hki).1
    obtain ⟨z,hz⟩:=hs.keys kvi (ċ hki)
    obtain ⟨rfl,rfl⟩:=Prod.mk.inj ek
    have hval:=Ŵ hs.nodup hki
    rw [hz] at hval
    obtain ⟨r,hr,fr⟩:∃ r,s z = some r /\ FrV H kvi.2 r:=by
     cases q:s z with
     | none=>rw [hs.not z q] at hval; cases hval
     | some r =>
      obtain ⟨v',h1,h2⟩:=hs.has z r q
      rw [hval] at h1; cases h1
      exact ⟨r,rfl,h2⟩
    have hzn:z ∉ nms (ks.take i):=yQ2 hs.nodup hki hz hs.keys
    have t3:=Same.upd (o:=.tup [kV kvi.1,kvi.2]) hT
    refine ⟨T,_,rfl,SqT.of Á,rfl,_,_,rfl,_,_,rfl,rfl,?_⟩
    have ekv:kV kvi.1 = .str z:=by rw [hz]; rfl
    refine ⟨_,rfl,a,rfl,.inl ⟨kv',.inl (t3 _ _ ha2)⟩,_,rfl,sz (by simp),fun q0 hq0=>?_⟩
    have t4:=t3.trans (Same.upd (o:=.tup [.int 0,.int 1]) hq0)
    refine ⟨valV kv' (.inr z),?_,?_⟩
    ·have g:=DGet.k (k:=kvi.1) (t4 _ _ ha2)
     have e9:valV kv' kvi.1 = valV kv' (.inr z):=by rw [hz]
     rw [e9] at g; exact g
    have fg:∀ {H5:Hp},Same (upd (upd H2 T (.tup [kV kvi.1,kvi.2])) q0 (.tup [.int 0,.int 1])) H5->FrV H5 ((valV kv' (.inr z)).getD (.ref q0)) ((e z).getD 0):=by
     intro H5 s5
     have ez:addF e s t (nms (ks.take i)) z = e z:=by unfold addF; rw [if_neg hzn]
     cases q:e z with
     | none =>
      rw [hrow.not z (ez.trans q)]
      exact (FrV.newOf (r:=0) rfl rfl).same s5
     | some r' =>
      obtain ⟨v',h1,h2⟩:=hrow.has z r' (ez.trans q)
      rw [h1]
      exact (h2.same t4).same s5
    obtain ⟨b1,b2⟩:=hB z
    have er:(s z).getD 0 = r:=by rw [hr]; rfl
    rw [er] at b2
    refine ⟨_,rfl,_,rfl,spTimes.of (E:=E0) rfl ((keepF hkeep fr).same t4) ((keepF hkeep hx).same t4) (b2.mono (by decide)) (bt.mono (by decide)) fun v5 H5 s5 f5=>?_⟩
    refine ⟨_,_,(e z).getD 0,r * t,rfl,fg s5,f5,b1.mono (by decide),(b2.mul bt).mono (by decide),fun v6 H6 s6 f6=>?_⟩
    have t6:=t4.trans (s5.trans s6)
    refine ⟨_,rfl,_,rfl,a,upd H6 a (.dK (putK kv' (.inr z) v6)),rfl,?_,?_⟩
    ·have g:=DPut.k (k:=kvi.1) (v:=v6) (t6 _ _ ha2) (sz (by omega))
     have e9:putK kv' kvi.1 v6 = putK kv' (.inr z) v6:=by rw [hz]
     rw [e9] at g; exact g
    refine ⟨_,_,putK kv' (.inr z) v6,rfl,by rw [upd_ne hab.symm]; exact t6 _ _ hfb,fun c ob q n1 n2=>by rw [upd_ne n1]; exact t6 _ _ (hkeep c ob q n1 n2),Á,?_,?_⟩
    ·have:=ð kv' (.inr z) v6
     omega
    ·have row:=((hrow.same fun v r f=>f.same t6).put (z:=z) f6).same (H':=upd H6 a (.dK (putK kv' (.inr z) v6))) fun v r f=>by
      obtain ⟨c,rfl,hc⟩:=f
      exact ⟨c,rfl,by rw [upd_ne (ê hc (t6 _ _ ha2) (by intro z; cases z))]; exact hc⟩
     have ef:addF e s t (nms (ks.take (i + 1))) = fun y=>if y = z then some ((e z).getD 0 + r * t) else addF e s t (nms (ks.take i)) y:=by
      funext y
      have en:nms (ks.take (i + 1)) = nms (ks.take i) ++ [z]:=by
       unfold nms
       rw [ĺ,hki,ė]
       show _ ++ [nmz kvi.1] = _
       rw [hz]; rfl
      unfold addF
      rw [en]
      by_cases ey:y = z
      ·subst ey; simp [er]
      ·simp [ey]
     rw [ef]
     exact row
   ·rintro σ H2 ⟨v3,v4,kv',rfl,hfb,hkeep,ha2,hl2,hrow⟩
    rw [ā] at hl2 hrow
    rw [Đ] at hrow
    have hk2:∀ c ob,H c = some ob->c ≠ a->upd H2 b (.dK ks) c = some ob:=fun c ob q n=>by
     by_cases z:c = b
     ·subst z; rw [Á]; rw [hb] at q; exact q
     ·rw [upd_ne z]; exact hkeep c ob q n z
    refine ⟨o,_,hfb,k _ kv' hk2 (by rw [upd_ne hab]; exact ha2) hl2 ?_⟩
    have ef:addF e s t (nms ks) = fun z=>if (s z).isSome = true then some ((e z).getD 0 + (s z).getD 0 * t) else e z:=by
     funext z
     unfold addF
     by_cases q:z ∈ nms ks
     ·obtain ⟨kvi,hm,ez⟩:=ĕ.mp q
      obtain ⟨y,hy⟩:=hs.keys kvi hm
      obtain ⟨j,hj,ej⟩:=Ĺ hm
      have hval:=Ŵ hs.nodup (i:=j) (p:=kvi) (by rw [Č hj,ej])
      have eyz:y = z:=by rw [hy] at ez; exact ez
      rw [hy,eyz] at hval
      cases q2:s z with
      | none=>rw [hs.not z q2] at hval; cases hval
      | some r=>simp [q]
     ·cases q2:s z with
      | none=>simp [q]
      | some r =>
       obtain ⟨v',h1,_⟩:=hs.has z r q2
       exact absurd (zG9 h1) q
    rw [<- ef]
    refine hrow.same fun v r f=>?_
    obtain ⟨c,rfl,hc⟩:=f
    exact ⟨c,rfl,by rw [upd_ne (ê hc hfb (by intro z; cases z))]; exact hc⟩
  ·have h:¬ (!PyData.eqv (pq t.num t.den) (pq 0 1)) = true:=h
   have ht:t = 0:=by
    rw [e0] at h
    by_cases z:t = 0
    ·exact z
    ·rw [decide_eq_false z] at h; exact absurd rfl h
   rw [if_pos ht] at k
   exact k _ kv (fun c ob q _=>t0 _ _ q) (t0 _ _ ha) (by omega) (he.same fun v r f=>f.same t0)
noncomputable abbrev zG0:Stmt:=top 18
theorem sc_passed:Ì ["rows","step","ends"] ["rows","step"] (Å zG0):=scF
theorem yP8 {ca:Ca} (D:DefAt K mg "passed" zG0) (T:Txt K mg ca) (G_add_shares:FnAt P w K mg base CX0 3 "add_shares" ["ends","shares","factor"] (zM6)) (G_minus:FnAt P w K mg base CX0 3 "minus" ["one","other"] (zR2)):FnAt P w K mg base CX0 4 "passed" ["rows","step"] (zR0):=by
 refine D.ok sc_passed (fun vs H Q E h=>?_) (fun _ _ _ _ _ _ us hl=>match us,hl with | [_,_],_=>rfl) (fun f cdv A outer s H vs Q E hr h=>?_)
 ·obtain ⟨rw0,st,ax,ay,x,y,fr,t,rows,kx,ky,fx,fy,rfl,hrw,hst,hfr,vx,hax,rx,vy,hay,ry,bt,bt1,hB,hn,k⟩:=h; rfl
 ·obtain ⟨rw0,st,ax,ay,x,y,fr,t,rows,kx,ky,fx,fy,rfl,hrw,hst,hfr,vx,hax,rx,vy,hay,ry,bt,bt1,hB,hn,k⟩:=h
  have nd:=sc_passed.nd
  refine ⟨_,(Ã (Ê (i:=2) nd rfl (Or.inl rfl) ë)
   (Ã (ù (pfn G_add_shares hr (À (pv 2) (À (å (â hr) (pv 0) (pixT (pv 1) Ä) (fun _ _=>rfl)) (À (pfn G_minus hr (À (Ü (À Ä (À Ä Â))) (À (pixT (pv 1) Ä) Â))) Â)))))
   (Ã (ù (pfn G_add_shares hr (À (pv 2) (À (å (â hr) (pv 0) (pixT (pv 1) Ä) (fun _ _=>rfl)) (À (pixT (pv 1) Ä) Â)))))
   (Æ (Ï (pv 2)))))),?_⟩
  intro p hp
  have tp:=Same.upd (o:=.dK []) hp
  have npx:p ≠ ax:=(Ç hax hp).symm
  have npy:p ≠ ay:=(Ç hay hp).symm
  refine ⟨_,rfl,_,rfl,_,rfl,st,_,_,_,rfl,rfl,SqT.of (tp _ _ hst),rfl,rw0,.ref ax,rfl,?_,?_⟩
  ·have g:=DGet.k (k:=.inr x) (tp _ _ hrw)
   rw [vx] at g; exact g
  refine ⟨sz (by simp),fun q hq=>?_⟩
  have t1:=tp.trans (Same.upd (o:=.tup [.int 1,.int 1]) hq)
  refine ⟨_,rfl,st,_,_,_,rfl,rfl,SqT.of (t1 _ _ hst),rfl,?_⟩
  refine ⟨_,_,1,t,rfl,FrV.newOf rfl rfl,hfr.same t1,⟨by decide,by decide⟩,bt.mono (by decide),fun v1 H1 s1 f1=>?_⟩
  have u1:=t1.trans s1
  have hp1:H1 p = some (.dK []):=s1 _ _ ((Same.upd (o:=.tup [.int 1,.int 1]) hq) _ _ Á)
  refine ⟨p,ax,v1,1 - t,[],kx,fun _=>none,fx,rfl,npx,hp1,u1 _ _ hax,RowAt.nil _,rx.same fun v r f=>f.same u1,f1,bt1,fun z=>⟨(show Bd 3500 (0:Rat) from ⟨by decide,by decide⟩),(hB z).1⟩,by simp only [ť]; omega,fun H2 kv2 k2 hp2 l2 r2=>?_⟩
  have u2:Same H H2:=fun c ob e=>k2 c ob (u1 c ob e) (Ç e hp)
  refine ⟨_,rfl,_,rfl,_,rfl,st,_,_,_,rfl,rfl,SqT.of (u2 _ _ hst),rfl,rw0,.ref ay,rfl,?_,?_⟩
  ·have g:=DGet.k (k:=.inr y) (u2 _ _ hrw)
   rw [vy] at g; exact g
  refine ⟨_,rfl,st,_,_,_,rfl,rfl,SqT.of (u2 _ _ hst),rfl,?_⟩
  have l2:kv2.length <= kx.length:=by simpa using l2
  refine ⟨p,ay,fr,t,kv2,ky,_,fy,rfl,npy,hp2,u2 _ _ hay,r2,ry.same fun v r f=>f.same u2,hfr.same u2,bt,fun z=>⟨(hB z).2.2,(hB z).2.1⟩,by omega,fun H3 kv3 k3 hp3 l3 r3=>?_⟩
  have u3:Same H H3:=fun c ob e=>k3 c ob (u2 c ob e) (Ç e hp)
  exact ⟨_,rfl,k p H3 kv3 hp u3 hp3 (by omega) r3⟩
noncomputable abbrev zJ3:Stmt:=top 19
theorem sc_table:Ì ["names","steps","rows","step"] ["names","steps"] (Å zJ3):=scF
theorem yX6 {ca:Ca} (D:DefAt K mg "table" zJ3) (T:Txt K mg ca) (G_unmoved:FnAt P w K mg base CX0 1 "unmoved" ["names"] (zM3 K)) (G_passed:FnAt P w K mg base CX0 4 "passed" ["rows","step"] (zR0)):FnAt P w K mg base CX0 5 "table" ["names","steps"] (xI7 K):=by
 refine D.ok sc_table (fun vs H Q E h=>?_) (fun _ _ _ _ _ _ us hl=>match us,hl with | [_,_],_=>rfl) (fun f cdv A outer s H vs Q E hr h=>?_)
 ·obtain ⟨an,as,L,xs,ss,rfl,hS,hn,h8,hX,hP,hO,h40,k⟩:=h; rfl
 ·obtain ⟨an,as,L,xs,ss,rfl,hS,hn,h8,hX,hP,hO,h40,k⟩:=h
  have nd:=sc_table.nd
  refine ⟨_,(Ã (Ê (i:=2) nd rfl (Or.inl rfl) (pfn G_unmoved hr (À (pv 0) Â)))
   (Ã (ß PassesOwn.never rfl (xB8 (K:=K) rfl (by rfl) T.z_reversed (À (pv 1) Â)) (È (i:=3) nd rfl (Or.inl rfl)) (Æ (ø (Õ ξ (pixT (pv 3) Ä) ó (Ù _)) (Æ (ç (â hr) (pv 2) (pixT (pv 3) Ä) (pfn G_passed hr (À (pv 2) (À (pv 3) Â))) rfl)) Þ)))
   (Æ (Ï (pv 2))))),?_⟩
  have hlen:xs.length = ss.length:=hP.length
  refine ⟨_,rfl,an,L,rfl,hS,hn,h8,fun p H1 rows0 ad0 hp s1 h1 T1=>?_⟩
  refine ⟨_,rfl,as,xs,rfl,s1.seq hX,?_⟩
  refine yT1 (xs:=xs) (fun j σ H2=>∃ (v3:Option V) (rows:List (Key × V)) (ad:Str->Addr),σ = [some (.ref an),some (.ref as),some (.ref p),v3] /\ Same H H2 /\ H2 p = some (.dK rows) /\ TabAt H H2 p rows L (back (ss.drop j)) ad) ⟨none,rows0,ad0,rfl,s1,h1,by rw [hlen,List.drop_length]; exact T1⟩ ?_ ?_ ?_
  ·rintro j σ H2 hj ⟨v3,rows,ad,rfl,s2,h2,T⟩
   exact s2.seq hX
  ·rintro j x σ H2 hx ⟨v3,rows,ad,rfl,s2,h2,T⟩
   obtain ⟨st,hst,sv⟩:=à hP hx
   have hj:j < ss.length:=(Ą.mp hst).1
   have ed:ss.drop j = st :: ss.drop (j + 1):=by
    rw [ţ hj,(Ą.mp hst).2]
   have hOd:∀ s ∈ ss.drop j,OkS L s:=fun s hs=>hO s (Ş hs)
   have hOd1:∀ s ∈ ss.drop (j + 1),OkS L s:=fun s hs=>hO s (Ş hs)
   cases st with
   | br z yr x0 q0 =>
    obtain ⟨a,l,f,rfl,ha,hl,hf⟩:=sv
    refine ⟨_,rfl,a,_,_,_,rfl,rfl,SqT.of (s2 _ _ ha),rfl,rfl,_,rfl,?_⟩
    refine zF0 (by decide +kernel) ?_
    refine ⟨_,rows,ad,rfl,s2,h2,?_⟩
    rw [ed]; exact T
   | ps x0 y0 t =>
    obtain ⟨a,f,rfl,ha,hf⟩:=sv
    obtain ⟨hx0,hy0,hxy,t0,t1,td⟩:=hO _ (ċ hst)
    refine ⟨_,rfl,a,_,_,_,rfl,rfl,SqT.of (s2 _ _ ha),rfl,rfl,_,rfl,?_⟩
    refine zG3 rfl ?_
    have G:=ï hn hOd1
    have B:=zN0 hOd (by rw [ņ]; omega) (k:=1) (by decide)
    rw [ed] at B
    have B:1 * (Î (ss.drop (j + 1)) * t.den) < 2 ^ 2600:=B
    have B0:=zN0 hOd1 (by rw [ņ]; omega) (k:=1) (by decide)
    have P0:=ú (ss.drop (j + 1))
    have Pd:0 < Î (ss.drop (j + 1)) * t.den:=Ľ P0 t.den_pos
    obtain ⟨vx,_,kx,hax,rx⟩:=T.row x0 hx0
    obtain ⟨vy,_,ky,hay,ry⟩:=T.row y0 hy0
    have lx:=rx.len (G.sup x0 hx0)
    have ly:=ry.len (G.sup y0 hy0)
    have bs:=Bd.share t0 t1 td
    let R:=back (ss.drop (j + 1))
    have ea:addR (fun _=>none) (op (R x0)) (1 - t) = op fun z=>0 + R x0 z * (1 - t):=by
     rw [<- yP3]
     exact zV1 (fun _=>ŏ) (fun z=>(G.part x0 hx0 z).1) (zE4 t1)
    have eb:addR (addR (fun _=>none) (op (R x0)) (1 - t)) (op (R y0)) t = op (bw x0 y0 t R x0):=by
     rw [ea,zV1 (fun z=>by rw [ň]; exact Ğ (G.part x0 hx0 z).1 (zE4 t1)) (fun z=>(G.part y0 hy0 z).1) t0]
     unfold bw
     rw [if_pos rfl]
     congr 1
     funext z
     rw [ň]
    refine ⟨_,rfl,_,rfl,p,a,ad x0,ad y0,x0,y0,f,t,rows,kx,ky,op (R x0),op (R y0),rfl,h2,s2 _ _ ha,hf.same s2,vx,hax,rx,vy,hay,ry,bs.1.mono (by decide),bs.2.mono (by decide),fun z=>⟨?_,?_,?_⟩,by omega,fun q H3 kv3 hq s3 h3 l3 r3=>?_⟩
    ·rw [ζ]; exact ((G.part x0 hx0 z).bd P0 (ą _) B0).mono (by decide)
    ·rw [ζ]; exact ((G.part y0 hy0 z).bd P0 (ą _) B0).mono (by decide)
    ·rw [ea,ζ,ň]; exact (((G.part x0 hx0 z).mulR t0 t1).bd Pd (ą _) B).mono (by decide)
    rw [eb] at r3
    have len:=T.len hn
    have npq:p ≠ q:=Ç h2 hq
    refine ⟨_,rfl,_,rfl,a,_,_,_,rfl,rfl,SqT.of (s3 _ _ (s2 _ _ ha)),rfl,p,upd H3 p (.dK (putK rows (.inr x0) (.ref q))),rfl,?_,?_⟩
    ·exact DPut.k (k:=.inr x0) (s3 _ _ h2) (sz (by omega))
    have tt:∀ v r,FrV H3 v r->FrV (upd H3 p (.dK (putK rows (.inr x0) (.ref q)))) v r:=fun v r g=>g.tup (Ñ (s3 _ _ h2) (fun _ z=>nomatch z))
    refine ⟨_,putK rows (.inr x0) (.ref q),fun z=>if z = x0 then q else ad z,rfl,(s2.trans s3).updD hp,Á,?_⟩
    rw [ed]
    refine T.put (R':=bw x0 y0 t R) (s2.free hq) hq npq.symm (fun c o e n=>by rw [upd_ne n]; exact s3 _ _ e) (fun v r g=>tt v r (g.same s3)) (by rw [upd_ne npq.symm]; exact h3) (r3.same tt) (fun m _ e=>?_) (fun z=>⟨.inl,fun e=>?_⟩)
    ·unfold bw; rw [if_neg e]
    ·rcases e with e | e
     ·exact e
     ·rw [e]; exact hx0
  ·rintro σ H2 ⟨v3,rows,ad,rfl,s2,h2,T⟩
   rw [List.drop_zero] at T
   exact ⟨_,rfl,k p H2 rows ad hp s2 h2 T⟩
noncomputable abbrev zE7:Stmt:=top 20
theorem sc_brought:Ì ["names","steps","rows","told","step"] ["names","steps"] (Å zE7):=scF
theorem yJ3 {ca:Ca} (D:DefAt K mg "brought" zE7) (T:Txt K mg ca) (G_unmoved:FnAt P w K mg base CX0 1 "unmoved" ["names"] (zM3 K)) (G_passed:FnAt P w K mg base CX0 4 "passed" ["rows","step"] (zR0)):FnAt P w K mg base CX0 5 "brought" ["names","steps"] (zW3 K):=by
 refine D.ok sc_brought (fun vs H Q E h=>?_) (fun _ _ _ _ _ _ us hl=>match us,hl with | [_,_],_=>rfl) (fun f cdv A outer s H vs Q E hr h=>?_)
 ·obtain ⟨an,as,L,xs,ss,rfl,hS,hn,h8,hX,hP,hO,h64,k⟩:=h; rfl
 ·obtain ⟨an,as,L,xs,ss,rfl,hS,hn,h8,hX,hP,hO,h64,k⟩:=h
  have nd:=sc_brought.nd
  refine ⟨_,(Ã (Ê (i:=2) nd rfl (Or.inl rfl) (pfn G_unmoved hr (À (pv 0) Â)))
   (Ã (Ê (i:=3) nd rfl (Or.inl rfl) (ų Â))
   (Ã (ß PassesOwn.never rfl (xB8 (K:=K) rfl (by rfl) T.z_reversed (À (pv 1) Â)) (È (i:=4) nd rfl (Or.inl rfl)) (Æ (ø (Õ ξ (pixT (pv 4) Ä) ó (Ù _)) (Æ (ç (â hr) (pv 2) (pixT (pv 4) Ä) (pfn G_passed hr (À (pv 2) (À (pv 4) Â))) rfl)) (Æ (ù (ρ PySem.F.plainAttrs_list PySem.F.slot_list_append PySem.F.type_list_append û (pv 3) (À (Ü (À (pixT (pv 4) Ä) (À (pixT (pv 4) Ä) (À (ŭ zK4 (by rfl) T.z_dict zK5 (À (å (â hr) (pv 2) (pixT (pv 4) Ä) (fun _ _=>rfl)) Â)) Â)))) Â)))))))
   (Ã (ù (Ū (K:=K) rfl PySem.F.plainAttrs_list PySem.F.slot_list_reverse PySem.F.type_list_reverse yJ6 (pv 3)))
   (Æ (Ï (pv 3))))))),?_⟩
  have hlen:xs.length = ss.length:=hP.length
  refine ⟨_,rfl,an,L,rfl,hS,hn,h8,fun p H1 rows0 ad0 hp s1 h1 T1=>?_⟩
  refine ⟨sz (by simp),fun pt hpt=>?_⟩
  have tt0:=Same.upd (o:=.lst []) hpt
  have hpt0:H pt = none:=s1.free hpt
  have s1t:=s1.trans tt0
  refine ⟨_,rfl,as,xs,rfl,s1t.seq hX,?_⟩
  refine yT1 (xs:=xs) (fun j σ H2=>∃ (v4:Option V) (rows:List (Key × V)) (ad:Str->Addr) (ys:List V) (tds:List (Br × Addr)),σ = [some (.ref an),some (.ref as),some (.ref p),some (.ref pt),v4] /\ Same H H2 /\ H2 p = some (.dK rows) /\ TabAt H H2 p rows L (back (ss.drop j)) ad /\ H2 pt = some (.lst ys) /\ Paired (BrV H2) ys tds /\ tds.map (·.1) = (brL (ss.drop j)).reverse /\ (tds.map (·.2)).Nodup /\ (∀ d ∈ tds.map (·.2),H d = none /\ d ≠ p)) ⟨none,rows0,ad0,[],[],rfl,s1t,tt0 _ _ h1,by rw [hlen,List.drop_length]; exact T1.same tt0,Á,.nil,by rw [hlen,List.drop_length]; rfl,List.nodup_nil,(fun _ z=>nomatch z)⟩ ?_ ?_ ?_
  ·rintro j σ H2 hj ⟨v4,rows,ad,ys,tds,rfl,s2,h2,T,ht,hB,hm,hnd,hfr⟩
   exact s2.seq hX
  ·rintro j x σ H2 hx ⟨v4,rows,ad,ys,tds,rfl,s2,h2,T,ht,hB,hm,hnd,hfr⟩
   obtain ⟨st,hst,sv⟩:=à hP hx
   have hj:j < ss.length:=(Ą.mp hst).1
   have ed:ss.drop j = st :: ss.drop (j + 1):=by
    rw [ţ hj,(Ą.mp hst).2]
   have hOd:∀ s ∈ ss.drop j,OkS L s:=fun s hs=>hO s (Ş hs)
   have hOd1:∀ s ∈ ss.drop (j + 1),OkS L s:=fun s hs=>hO s (Ş hs)
   have hyl:ys.length <= 64:=by
    have e1:=hB.length
    have e2:=congrArg List.length hm
    rw [ā,List.length_reverse] at e2
    have e3:=zO4 (ss.drop (j + 1))
    rw [ņ] at e3
    omega
   cases st with
   | br z yr x0 q0 =>
    obtain ⟨a,l,f,rfl,ha,hl,hf⟩:=sv
    have hx0:x0 ∈ L:=(hO _ (ċ hst)).1
    have ha2:=s2 _ _ ha
    obtain ⟨vx,fx0,kx,hax,rx⟩:=T.row x0 hx0
    refine ⟨_,rfl,a,_,_,_,rfl,rfl,SqT.of ha2,rfl,rfl,_,rfl,?_⟩
    refine zF0 (by decide +kernel) ?_
    refine ⟨_,rfl,.inl ⟨rfl,_,SqL.of ht⟩,_,rfl,a,_,_,_,rfl,rfl,SqT.of ha2,rfl,_,rfl,a,_,_,_,rfl,rfl,SqT.of ha2,rfl,_,rfl,_,rfl,a,_,_,_,rfl,rfl,SqT.of ha2,rfl,p,.ref (ad x0),rfl,?_,ad x0,kx,rfl,hax,fun d hd=>⟨sz (by simp),fun t ht'=>?_⟩⟩
    ·have g:=DGet.k (k:=.inr x0) h2
     rw [vx] at g; exact g
    have u1:=Same.upd (o:=.dK kx) hd
    have u2:=Same.upd (o:=.tup [.ref l,f,.ref d]) ht'
    have u12:=u1.trans u2
    have ht3:=u12 _ _ ht
    refine ⟨pt,_,_,rfl,rfl,ht3,sz (by omega),?_⟩
    have tu:=Ñ (o:=.lst (ys ++ [.ref t])) ht3 (fun _ z=>nomatch z)
    have npt:p ≠ pt:=ê h2 ht (by intro z; cases z)
    have dk:∀ c kvs,H2 c = some (.dK kvs)->upd (upd (upd H2 d (.dK kx)) t (.tup [.ref l,f,.ref d])) pt (.lst (ys ++ [.ref t])) c = some (.dK kvs):=fun c kvs e=>by
     rw [upd_ne (ê (u12 _ _ e) ht3 (by intro z; cases z))]; exact u12 _ _ e
    have tk:∀ c m,H2 c = some (.tup m)->upd (upd (upd H2 d (.dK kx)) t (.tup [.ref l,f,.ref d])) pt (.lst (ys ++ [.ref t])) c = some (.tup m):=fun c m e=>tu _ _ (u12 _ _ e)
    have ndp:d ≠ pt:=fun e=>by rw [e,ht] at hd; cases hd
    refine ⟨_,rows,ad,ys ++ [.ref t],tds ++ [(⟨z,yr,q0,back (ss.drop (j + 1)) x0⟩,d)],rfl,(s2.trans u12).updD hpt0,dk _ _ h2,?_,Á,?_,?_,?_,?_⟩
    ·rw [ed]
     refine ⟨T.nodup,T.keys,fun n hn=>?_,T.inj,T.apart⟩
     obtain ⟨a1,a2,kv,a3,a4⟩:=T.row n hn
     exact ⟨a1,a2,kv,dk _ _ a3,a4.same fun v r g=>g.tup tk⟩
    ·refine Paired.snoc (Paired.mapP hB fun _ bd b=>b.keep tk (dk bd.2)) ?_
     exact ⟨t,l,f,kx,rfl,tu _ _ Á,tk _ _ (s2 _ _ hl),(hf.same s2).tup tk,by rw [upd_ne ndp]; exact u2 _ _ Á,rx.same fun v r g=>g.tup tk⟩
    ·rw [ė,hm,ed]
     show _ = ((⟨z,yr,q0,back (ss.drop (j + 1)) x0⟩:Br) :: brL (ss.drop (j + 1))).reverse
     rw [List.reverse_cons]; rfl
    ·rw [ė]
     refine Ő.mpr ⟨hnd,by simp,fun d1 h1 d2 h2' e=>?_⟩
     have h2':d2 = d:=ě.mp h2'
     obtain ⟨bd,hbd,e1⟩:=ĕ.mp h1
     obtain ⟨x',_,a',l',f',kvs',_,_,_,_,e4,_⟩:=yB3 hB hbd
     rw [e1,e,h2',hd] at e4; cases e4
    ·intro d1 h1
     rw [ė] at h1
     rcases Ĥ.mp h1 with e | e
     ·exact hfr d1 e
     ·have e:d1 = d:=ě.mp e
      rw [e]; exact ⟨s2.free hd,(Ç h2 hd).symm⟩
   | ps x0 y0 t =>
    obtain ⟨a,f,rfl,ha,hf⟩:=sv
    obtain ⟨hx0,hy0,hxy,t0,t1,td⟩:=hO _ (ċ hst)
    refine ⟨_,rfl,a,_,_,_,rfl,rfl,SqT.of (s2 _ _ ha),rfl,rfl,_,rfl,?_⟩
    refine zG3 rfl ?_
    have G:=ï hn hOd1
    have B:=zN0 hOd (by rw [ņ]; omega) (k:=1) (by decide)
    rw [ed] at B
    have B:1 * (Î (ss.drop (j + 1)) * t.den) < 2 ^ 2600:=B
    have B0:=zN0 hOd1 (by rw [ņ]; omega) (k:=1) (by decide)
    have P0:=ú (ss.drop (j + 1))
    have Pd:0 < Î (ss.drop (j + 1)) * t.den:=Ľ P0 t.den_pos
    obtain ⟨vx,_,kx,hax,rx⟩:=T.row x0 hx0
    obtain ⟨vy,_,ky,hay,ry⟩:=T.row y0 hy0
    have lx:=rx.len (G.sup x0 hx0)
    have ly:=ry.len (G.sup y0 hy0)
    have bs:=Bd.share t0 t1 td
    let R:=back (ss.drop (j + 1))
    have ea:addR (fun _=>none) (op (R x0)) (1 - t) = op fun z=>0 + R x0 z * (1 - t):=by
     rw [<- yP3]
     exact zV1 (fun _=>ŏ) (fun z=>(G.part x0 hx0 z).1) (zE4 t1)
    have eb:addR (addR (fun _=>none) (op (R x0)) (1 - t)) (op (R y0)) t = op (bw x0 y0 t R x0):=by
     rw [ea,zV1 (fun z=>by rw [ň]; exact Ğ (G.part x0 hx0 z).1 (zE4 t1)) (fun z=>(G.part y0 hy0 z).1) t0]
     unfold bw
     rw [if_pos rfl]
     congr 1
     funext z
     rw [ň]
    refine ⟨_,rfl,_,rfl,p,a,ad x0,ad y0,x0,y0,f,t,rows,kx,ky,op (R x0),op (R y0),rfl,h2,s2 _ _ ha,hf.same s2,vx,hax,rx,vy,hay,ry,bs.1.mono (by decide),bs.2.mono (by decide),fun z=>⟨?_,?_,?_⟩,by omega,fun q H3 kv3 hq s3 h3 l3 r3=>?_⟩
    ·rw [ζ]; exact ((G.part x0 hx0 z).bd P0 (ą _) B0).mono (by decide)
    ·rw [ζ]; exact ((G.part y0 hy0 z).bd P0 (ą _) B0).mono (by decide)
    ·rw [ea,ζ,ň]; exact (((G.part x0 hx0 z).mulR t0 t1).bd Pd (ą _) B).mono (by decide)
    rw [eb] at r3
    have len:=T.len hn
    have npq:p ≠ q:=Ç h2 hq
    refine ⟨_,rfl,_,rfl,a,_,_,_,rfl,rfl,SqT.of (s3 _ _ (s2 _ _ ha)),rfl,p,upd H3 p (.dK (putK rows (.inr x0) (.ref q))),rfl,?_,?_⟩
    ·exact DPut.k (k:=.inr x0) (s3 _ _ h2) (sz (by omega))
    have tu:=Ñ (o:=.dK (putK rows (.inr x0) (.ref q))) (s3 _ _ h2) (fun _ z=>nomatch z)
    have tt:∀ v r,FrV H3 v r->FrV (upd H3 p (.dK (putK rows (.inr x0) (.ref q)))) v r:=fun v r g=>g.tup tu
    refine ⟨_,putK rows (.inr x0) (.ref q),fun z=>if z = x0 then q else ad z,ys,tds,rfl,(s2.trans s3).updD hp,Á,?_,?_,?_,?_,hnd,hfr⟩
    ·rw [ed]
     refine T.put (R':=bw x0 y0 t R) (s2.free hq) hq npq.symm (fun c o e n=>by rw [upd_ne n]; exact s3 _ _ e) (fun v r g=>tt v r (g.same s3)) (by rw [upd_ne npq.symm]; exact h3) (r3.same tt) (fun m _ e=>?_) (fun z=>⟨.inl,fun e=>?_⟩)
     ·unfold bw; rw [if_neg e]
     ·rcases e with e | e
      ·exact e
      ·rw [e]; exact hx0
    ·rw [upd_ne (ê ht h2 (by intro z; cases z))]; exact s3 _ _ ht
    ·refine yI7 hB fun _ bd hbd b=>b.keep (fun c m e=>tu _ _ (s3 _ _ e)) fun kvs e=>?_
     rw [upd_ne (hfr bd.2 (ĕ.mpr ⟨bd,hbd,rfl⟩)).2]; exact s3 _ _ e
    ·rw [ed]; exact hm
  ·rintro σ H2 ⟨v4,rows,ad,ys,tds,rfl,s2,h2,T,ht,hB,hm,hnd,hfr⟩
   rw [List.drop_zero] at hm
   refine ⟨_,rfl,.inl ⟨rfl,_,SqL.of ht⟩,pt,ys,rfl,rfl,ht,?_⟩
   refine ⟨_,rfl,k pt _ ys.reverse tds.reverse hpt0 (s2.updD hpt0) Á ?_ ?_ ?_ fun d hd=>?_⟩
   ·refine Paired.mapP (yI6 hB) fun _ _ b=>b.keep (Ñ ht (fun _ z=>nomatch z)) fun kvs e=>?_
    rw [upd_ne (ê e ht (by intro z; cases z))]; exact e
   ·rw [List.map_reverse,hm,List.reverse_reverse]
   ·rw [List.map_reverse]; exact (List.reverse_perm _).nodup_iff.mpr hnd
   ·rw [List.map_reverse] at hd; exact (hfr d (List.mem_reverse.mp hd)).1
noncomputable abbrev zD5:Stmt:=top 22
theorem sc_names_of:Ì ["house"] ["house"] (Å zD5):=scF
theorem yB6 {ca:Ca} (D:DefAt K mg "names_of" zD5) (T:Txt K mg ca):FnAt P w K mg base CX0 1 "names_of" ["house"] (zM4 K):=by
 refine D.ok sc_names_of (fun vs H Q E h=>?_) (fun _ _ _ _ _ _ us hl=>match us,hl with | [_],_=>rfl) (fun f cdv A outer s H vs Q E hr h=>?_)
 ·obtain ⟨a,xs,ps,rfl,hS,hP,h8,k⟩:=h; rfl
 ·obtain ⟨a,xs,ps,rfl,hS,hP,h8,k⟩:=h
  have nd:=sc_names_of.nd
  refine ⟨_,(Æ (Ï (Κ ["place"] [] [] rfl (by rfl) (è (K:=K) rfl (pv 0)) (fun _ _ _ _=>(È (i:=0) (show List.Nodup (["place"]:List Str) from by decide) rfl (Or.inl rfl))) (fun _ _ _ _=>Η) (fun _ _ _ _=>(pixT (pv 0) Ä))))),?_⟩
  have hlen:xs.length = ps.length:=hP.length
  refine ⟨_,rfl,a,rfl,⟨_,hS⟩,fun D hD=>?_⟩
  refine zD9 (xs:=xs) (fun j σ' H'=>∃ (v:Option V),σ' = [v] /\ Same H H' /\ H' D = some (.lst ((allN (ps.take j)).map V.str))) ⟨none,rfl,Same.upd hD,Á⟩ ?_ ?_ ?_
  ·rintro j σ' H' hj ⟨v,rfl,s2,hd⟩
   exact s2.seq hS
  ·rintro j y σ' H' hy ⟨v,rfl,s2,hd⟩
   obtain ⟨p,hp,pv⟩:=à hP hy
   obtain ⟨b,ys,rfl,hb,_,e1⟩:=pv.at
   refine ⟨_,rfl,b,_,_,_,rfl,rfl,SqT.of (s2 _ _ hb),e1,_,hd,?_,_,rfl,s2.updD hD,?_⟩
   ·have:=hlen
    rw [ā]
    unfold allN
    rw [ā,ē]
    exact sz (by omega)
   ·unfold allN
    rw [Á,Û hp,ė,ė]; rfl
  ·rintro σ' H2 ⟨v,rfl,s2,hd⟩
   rw [hlen,Đ] at hd
   exact k D H2 hD s2 hd
noncomputable abbrev zD7:Stmt:=top 23
theorem sc_casks_of:Ì ["house"] ["house"] (Å zD7):=scF
theorem yB8 {ca:Ca} (D:DefAt K mg "casks_of" zD7) (T:Txt K mg ca):FnAt P w K mg base CX0 1 "casks_of" ["house"] (zM5 K):=by
 refine D.ok sc_casks_of (fun vs H Q E h=>?_) (fun _ _ _ _ _ _ us hl=>match us,hl with | [_],_=>rfl) (fun f cdv A outer s H vs Q E hr h=>?_)
 ·obtain ⟨a,xs,ps,rfl,hS,hP,h8,k⟩:=h; rfl
 ·obtain ⟨a,xs,ps,rfl,hS,hP,h8,k⟩:=h
  have nd:=sc_casks_of.nd
  refine ⟨_,(Æ (Ï (Κ ["place"] [] [] rfl (by rfl) (è (K:=K) rfl (pv 0)) (fun _ _ _ _=>(È (i:=0) (show List.Nodup (["place"]:List Str) from by decide) rfl (Or.inl rfl))) (fun _ _ _ _=>(zN2 (Õ ξ (pixT (pv 0) Ä) ó (Ù _)))) (fun _ _ _ _=>(pixT (pv 0) Ä))))),?_⟩
  have hlen:xs.length = ps.length:=hP.length
  refine ⟨_,rfl,a,rfl,⟨_,hS⟩,fun D hD=>?_⟩
  refine zD9 (xs:=xs) (fun j σ' H'=>∃ (v:Option V),σ' = [v] /\ Same H H' /\ H' D = some (.lst ((ckN (ps.take j)).map V.str))) ⟨none,rfl,Same.upd hD,Á⟩ ?_ ?_ ?_
  ·rintro j σ' H' hj ⟨v,rfl,s2,hd⟩
   exact s2.seq hS
  ·rintro j y σ' H' hy ⟨v,rfl,s2,hd⟩
   obtain ⟨p,hp,pv⟩:=à hP hy
   obtain ⟨b,ys,rfl,hb,e0,e1⟩:=pv.at
   refine ⟨_,rfl,b,_,_,_,rfl,rfl,SqT.of (s2 _ _ hb),e0,rfl,_,rfl,?_⟩
   cases hc:isC p with
   | true =>
    refine zG3 rfl ?_
    refine ⟨_,rfl,b,_,_,_,rfl,rfl,SqT.of (s2 _ _ hb),e1,_,hd,?_,_,rfl,s2.updD hD,?_⟩
    ·have h1:=zZ4 (ps:=ps.take j)
     rw [ē] at h1
     rw [ā]
     exact sz (by omega)
    ·unfold ckN
     rw [Á,Û hp,Ĭ,ė,ė]
     simp [hc]
   | false =>
    refine zF0 (by decide +kernel) ?_
    refine ⟨_,rfl,s2,?_⟩
    rw [hd]
    unfold ckN
    rw [Û hp,Ĭ]
    simp [hc]
  ·rintro σ' H2 ⟨v,rfl,s2,hd⟩
   rw [hlen,Đ] at hd
   exact k D H2 hD s2 hd
noncomputable abbrev zP8:Stmt:=top 24
theorem sc_only:Ì ["shares","casks","kept_shares","name"] ["shares","casks"] (Å zP8):=scF
theorem xG0 {ca:Ca} (D:DefAt K mg "only" zP8) (T:Txt K mg ca):FnAt P w K mg base CX0 1 "only" ["shares","casks"] (yM0 K):=by
 refine D.ok sc_only (fun vs H Q E h=>?_) (fun _ _ _ _ _ _ us hl=>match us,hl with | [_,_],_=>rfl) (fun f cdv A outer s H vs Q E hr h=>?_)
 ·obtain ⟨a,b,kv,C,f,rfl,ha,ra,hS,h8,k⟩:=h; rfl
 ·obtain ⟨a,b,kv,C,f,rfl,ha,ra,hS,h8,k⟩:=h
  have nd:=sc_only.nd
  refine ⟨_,(Ã (Ê (i:=2) nd rfl (Or.inl rfl) ë)
   (Ã (ß PassesOwn.never rfl (è (K:=K) rfl (pv 1)) (È (i:=3) nd rfl (Or.inl rfl)) (Æ (ø (yF1 (xC0 (â hr) (pv 3) (pv 0))) (Æ (ç (â hr) (pv 2) (pv 3) (å (â hr) (pv 0) (pv 3) (fun _ _=>rfl)) rfl)) Þ)))
   (Æ (Ï (pv 2))))),?_⟩
  intro p hp
  have tp:=Same.upd (o:=.dK []) hp
  refine ⟨_,rfl,b,rfl,⟨_,tp.seq hS⟩,?_⟩
  have e0:(op fun z=>if z ∈ C.take 0 then f z else 0) = fun _=>none:=by funext z; simp [op]
  refine þ (xs:=C.map V.str) (fun i σ H1=>∃ (v3:Option V) (kv':List (Key × V)),σ = [some (.ref a),some (.ref b),some (.ref p),v3] /\ Same H H1 /\ H1 p = some (.dK kv') /\ kv'.length <= i /\ RowAt H1 kv' (op fun z=>if z ∈ C.take i then f z else 0)) ⟨none,[],rfl,tp,Á,ą _,by rw [e0]; exact RowAt.nil _⟩ ?_ ?_ ?_
  ·rintro i σ H1 hi ⟨v3,kv',rfl,s1,h1,hl,row⟩
   exact s1.seq hS
  ·rintro i x σ H1 hx ⟨v3,kv',rfl,s1,h1,hl,row⟩
   obtain ⟨n,rfl,hi⟩:=zG6 hx
   have hil:i < C.length:=(Ą.mp hi).1
   have ha1:=s1 _ _ ha
   refine ⟨_,rfl,_,rfl,a,_,rfl,DGet.k (k:=.inr n) ha1,_,rfl,?_⟩
   by_cases hf:f n = 0
   ·have e:valV kv (.inr n) = none:=ra.not n (by unfold op; rw [if_pos hf])
    rw [e]
    refine iteF ?_
    refine ⟨_,kv',rfl,s1,h1,by omega,?_⟩
    rw [Û hi,<- xF5 hf]; exact row
   ·obtain ⟨w,e,fr⟩:=ra.has n (f n) (by unfold op; rw [if_neg hf])
    rw [e]
    refine iteT ?_
    refine ⟨_,rfl,_,rfl,a,w,rfl,?_,_,rfl,_,rfl,p,upd H1 p (.dK (putK kv' (.inr n) w)),rfl,DPut.k (k:=.inr n) h1 (sz (by omega)),?_⟩
    ·have g:=DGet.k (k:=.inr n) ha1
     rw [e] at g; exact g
    have tu:=Ñ (o:=.dK (putK kv' (.inr n) w)) h1 (fun _ z=>nomatch z)
    refine ⟨_,putK kv' (.inr n) w,rfl,s1.updD hp,Á,?_,?_⟩
    ·have:=ð kv' (.inr n) w
     omega
    ·rw [Û hi,<- xK4 hf]
     exact (row.put (z:=n) (fr.same s1)).same fun v r g=>g.tup tu
  ·rintro σ H1 ⟨v3,kv',rfl,s1,h1,hl,row⟩
   rw [ā,Đ] at row
   exact ⟨_,rfl,k p H1 kv' hp s1 h1 row⟩
noncomputable abbrev zA6:Stmt:=top 25
theorem sc_casks_table:Ì ["house","steps","casks","whole","rows","name"] ["house","steps"] (Å zA6):=scF
theorem zO8 {ca:Ca} (D:DefAt K mg "casks_table" zA6) (T:Txt K mg ca) (G_casks_of:FnAt P w K mg base CX0 1 "casks_of" ["house"] (zM5 K)) (G_table:FnAt P w K mg base CX0 5 "table" ["names","steps"] (xI7 K)) (G_names_of:FnAt P w K mg base CX0 1 "names_of" ["house"] (zM4 K)) (G_only:FnAt P w K mg base CX0 1 "only" ["shares","casks"] (yM0 K)):FnAt P w K mg base CX0 6 "casks_table" ["house","steps"] (zF7 K):=by
 refine D.ok sc_casks_table (fun vs H Q E h=>?_) (fun _ _ _ _ _ _ us hl=>match us,hl with | [_,_],_=>rfl) (fun f cdv A outer s H vs Q E hr h=>?_)
 ·obtain ⟨ah,as,xs,ps,ys,ss,rfl,hS,hP,ok,hX,hT,hO,h40,k⟩:=h; rfl
 ·obtain ⟨ah,as,xs,ps,ys,ss,rfl,hS,hP,ok,hX,hT,hO,h40,k⟩:=h
  have nd:=sc_casks_table.nd
  refine ⟨_,(Ã (Ê (i:=2) nd rfl (Or.inl rfl) (pfn G_casks_of hr (À (pv 0) Â)))
   (Ã (Ê (i:=3) nd rfl (Or.inl rfl) (pfn G_table hr (À (pfn G_names_of hr (À (pv 0) Â)) (À (pv 1) Â))))
   (Ã (Ê (i:=4) nd rfl (Or.inl rfl) ë)
   (Ã (ß PassesOwn.never rfl (è (K:=K) rfl (pv 2)) (È (i:=5) nd rfl (Or.inl rfl)) (Æ (ç (â hr) (pv 4) (pv 5) (pfn G_only hr (À (å (â hr) (pv 3) (pv 5) (fun _ _=>rfl)) (À (pv 2) Â))) rfl)))
   (Æ (Ï (pv 4))))))),?_⟩
  refine ⟨_,rfl,ah,xs,ps,rfl,hS,hP,ok.len,fun pc H1 hpc s1 h1=>?_⟩
  refine ⟨_,rfl,ah,xs,ps,rfl,s1.seq hS,Ð hP s1,ok.len,fun pn H2 hpn s2 h2=>?_⟩
  have s02:=s1.trans s2
  have l8:(allN ps).length <= 8:=by unfold allN; rw [ā]; exact ok.len
  refine ⟨_,rfl,pn,as,allN ps,ys,ss,rfl,SqL.of h2,ok.nd,l8,s02.seq hX,Ö hT s02,hO,(by omega),fun pw H3 rowsW adW hpw s3 h3 TW=>?_⟩
  have s03:=s02.trans s3
  have hc3:=s3 _ _ (s2 _ _ h1)
  intro p hp
  have tp:=Same.upd (o:=.dK []) hp
  have hp0:H p = none:=s03.free hp
  have c8:(ckN ps).length <= 8:=č zZ4 ok.len
  refine ⟨_,rfl,pc,rfl,⟨_,SqL.of (tp _ _ hc3)⟩,?_⟩
  refine þ (xs:=(ckN ps).map V.str) (fun i σ H4=>∃ (v5:Option V) (rows:List (Key × V)) (ad:Str->Addr),σ = [some (.ref ah),some (.ref as),some (.ref pc),some (.ref pw),some (.ref p),v5] /\ Same H3 H4 /\ H4 p = some (.dK rows) /\ TabAt H H4 p rows ((ckN ps).take i) (resC (ckN ps) (back ss)) ad) ⟨none,[],fun _=>0,rfl,tp,Á,TabAt.nil _ _ _ _ _⟩ ?_ ?_ ?_
  ·rintro i σ H4 hi ⟨v5,rows,ad,rfl,s4,h4,T⟩
   exact SqL.of (s4 _ _ hc3)
  ·rintro i x σ H4 hx ⟨v5,rows,ad,rfl,s4,h4,T⟩
   obtain ⟨n,rfl,hi⟩:=zG6 hx
   have hnC:n ∈ ckN ps:=ċ hi
   obtain ⟨vn,_,kn,han,rn⟩:=(TW.same s4).row n (ż hnC)
   refine ⟨_,rfl,_,rfl,pw,.ref (adW n),rfl,?_,_,rfl,adW n,pc,kn,ckN ps,back ss n,rfl,han,rn,SqL.of (s4 _ _ hc3),c8,fun q H5 kv5 hq s5 h5 r5=>?_⟩
   ·have g:=DGet.k (k:=.inr n) (s4 _ _ h3)
    rw [vn] at g; exact g
   have npq:p ≠ q:=Ç h4 hq
   have len:rows.length <= 8:=by
    rw [T.len (ok.ck.sublist (Ŝ _ _)),ē]; omega
   refine ⟨_,rfl,_,rfl,p,upd H5 p (.dK (putK rows (.inr n) (.ref q))),rfl,DPut.k (k:=.inr n) (s5 _ _ h4) (sz (by omega)),?_⟩
   have tt:∀ v r,FrV H5 v r->FrV (upd H5 p (.dK (putK rows (.inr n) (.ref q)))) v r:=fun v r g=>g.tup (Ñ (s5 _ _ h4) (fun _ z=>nomatch z))
   refine ⟨_,putK rows (.inr n) (.ref q),fun z=>if z = n then q else ad z,rfl,(s4.trans s5).updD hp,Á,?_⟩
   exact T.put (s03.free (s4.free hq)) hq npq.symm (fun c o e n=>by rw [upd_ne n]; exact s5 _ _ e) (fun v r g=>tt v r (g.same s5)) (by rw [upd_ne npq.symm]; exact h5) (r5.same tt) (fun _ _ _=>rfl) (zH9 hi)
  ·rintro σ H4 ⟨v5,rows,ad,rfl,s4,h4,T⟩
   rw [ā,Đ] at T
   exact ⟨_,rfl,k p H4 rows ad hp0 (s03.trans s4) h4 T⟩
noncomputable abbrev zA1:Stmt:=top 26
theorem sc_brought_totals:Ì ["house","steps","totals","name","lot","amount","ends","share"] ["house","steps"] (Å zA1):=scF
theorem zJ8 {ca:Ca} (D:DefAt K mg "brought_totals" zA1) (T:Txt K mg ca) (G_casks_of:FnAt P w K mg base CX0 1 "casks_of" ["house"] (zM5 K)) (G_brought:FnAt P w K mg base CX0 5 "brought" ["names","steps"] (zW3 K)) (G_names_of:FnAt P w K mg base CX0 1 "names_of" ["house"] (zM4 K)) (G_only:FnAt P w K mg base CX0 1 "only" ["shares","casks"] (yM0 K)) (G_plus:FnAt P w K mg base CX0 2 "plus" ["one","other"] (zP5)) (G_times:FnAt P w K mg base CX0 2 "times" ["one","other"] (spTimes)):FnAt P w K mg base CX0 6 "brought_totals" ["house","steps"] (yE6 K):=by
 refine D.ok sc_brought_totals (fun vs H Q E h=>?_) (fun _ _ _ _ _ _ us hl=>match us,hl with | [_,_],_=>rfl) (fun f cdv A outer s H vs Q E hr h=>?_)
 ·obtain ⟨ah,as,xs,ps,ys,ss,rfl,hS,hP,ok,hX,hT,hO,h15,k⟩:=h; rfl
 ·obtain ⟨ah,as,xs,ps,ys,ss,rfl,hS,hP,ok,hX,hT,hO,h15,k⟩:=h
  have nd:=sc_brought_totals.nd
  refine ⟨_,(Ã (Ê (i:=2) nd rfl (Or.inl rfl) ë)
   (Ã (ß PassesOwn.never rfl (è (K:=K) rfl (pfn G_casks_of hr (À (pv 0) Â))) (È (i:=3) nd rfl (Or.inl rfl)) (Æ (ç (â hr) (pv 2) (pv 3) (Ü (À Ä (À Ä Â))) rfl)))
   (Ã (ß PassesOwn.never rfl (è (K:=K) rfl (pfn G_brought hr (À (pfn G_names_of hr (À (pv 0) Â)) (À (pv 1) Â)))) (Θ rfl (Ò (È (i:=4) nd rfl (Or.inl rfl)) (Ò (È (i:=5) nd rfl (Or.inl rfl)) (Ò (È (i:=6) nd rfl (Or.inl rfl)) ÿ)))) (Æ (ß PassesOwn.never rfl (Ÿ (Ū (K:=K) rfl PySem.F.plainAttrs_dict PySem.F.slot_dict_items PySem.F.type_dict_items Ź (pfn G_only hr (À (pv 6) (À (pfn G_casks_of hr (À (pv 0) Â)) Â))))) (Θ rfl (Ò (È (i:=3) nd rfl (Or.inl rfl)) (Ò (È (i:=7) nd rfl (Or.inl rfl)) ÿ))) (Æ (ç (â hr) (pv 2) (pv 3) (pfn G_plus hr (À (å (â hr) (pv 2) (pv 3) (fun _ _=>rfl)) (À (pfn G_times hr (À (pv 5) (À (pv 7) Â))) Â))) rfl)))))
   (Æ (Ï (pv 2)))))),?_⟩
  have c8:(ckN ps).length <= 8:=č zZ4 ok.len
  have l8:(allN ps).length <= 8:=by unfold allN; rw [ā]; exact ok.len
  have hOs:∀ s ∈ ss,OkS (allN ps) s:=fun s hs=>(hO s hs).1
  intro p hp
  have tp:=Same.upd (o:=.dK []) hp
  refine ⟨_,rfl,ah,xs,ps,rfl,tp.seq hS,Ð hP tp,ok.len,fun pc H1 hpc s1 h1=>⟨pc,rfl,⟨_,SqL.of h1⟩,?_⟩⟩
  have s01:=tp.trans s1
  have hp1:=s1 _ _ (Á (H:=H) (a:=p) (o:=.dK []))
  have hpc0:=tp.free hpc
  have npc:pc ≠ p:=fun e=>by rw [e,Á] at hpc; cases hpc
  refine þ (xs:=(ckN ps).map V.str) (fun i σ H2=>∃ (v3:Option V) (kv:List (Key × V)),σ = [some (.ref ah),some (.ref as),some (.ref p),v3,none,none,none,none] /\ Same H H2 /\ H2 pc = some (.lst ((ckN ps).map V.str)) /\ H2 p = some (.dK kv) /\ RowAt H2 kv (all ((ckN ps).take i) fun _=>0) /\ nms kv = (ckN ps).take i) ⟨none,[],rfl,s01,h1,hp1,by rw [œ,δ]; exact RowAt.nil _,rfl⟩ ?_ ?_ ?_
  ·rintro i σ H2 hi ⟨v3,kv,rfl,s2,hc2,h2,row,hn⟩
   exact SqL.of hc2
  ·rintro i x σ H2 hx ⟨v3,kv,rfl,s2,hc2,h2,row,hn⟩
   obtain ⟨n,rfl,hi⟩:=zG6 hx
   have hil:i < (ckN ps).length:=(Ą.mp hi).1
   have lk:kv.length <= 8:=by rw [<- Ø,hn,ē]; omega
   refine ⟨sz (by simp),fun p1 hp1=>?_⟩
   have t3:=Same.upd (o:=.tup [.int 0,.int 1]) hp1
   have f0:=FrV.newOf (H:=H2) (p:=p1) (t:=0) (b:=1) (r:=0) rfl rfl
   have row3:=row.same fun v r f=>f.same t3
   have s3:=s2.trans t3
   have h3:=t3 _ _ h2
   have hc3:=t3 _ _ hc2
   generalize upd H2 p1 (.tup [.int 0,.int 1]) = H3 at *
   refine ⟨_,rfl,_,rfl,p,_,rfl,DPut.k (k:=.inr n) h3 (sz (by omega)),?_⟩
   have tu:=Ñ (o:=.dK (putK kv (.inr n) (.ref p1))) h3 (fun _ z=>nomatch z)
   have et:=Û hi
   refine ⟨_,putK kv (.inr n) (.ref p1),rfl,s3.updD hp,by rw [upd_ne npc]; exact hc3,Á,?_,?_⟩
   ·rw [et,Γ]
    exact (row3.put (z:=n) f0).same fun v r g=>g.tup tu
   ·rw [zN7 n _ row.keys,hn,et,zL3 (zN8 ok.ck hi)]
  rintro σ H2 ⟨v3,kv,rfl,s2,hc2,h2,row,hn⟩
  rw [ā,Đ] at row hn
  refine ⟨_,rfl,ah,xs,ps,rfl,s2.seq hS,Ð hP s2,ok.len,fun pn H3 hpn s3 h3=>?_⟩
  have s23:=s2.trans s3
  refine ⟨_,rfl,pn,as,allN ps,ys,ss,rfl,SqL.of h3,ok.nd,l8,s23.seq hX,Ö hT s23,hOs,by omega,fun pb H4 zs tds hpb s4 h4 hB hm hnd hfr=>⟨pb,rfl,⟨_,SqL.of h4⟩,?_⟩⟩
  have s24:=s3.trans s4
  have hp4:=s24 _ _ h2
  have P0:=ú ss
  have P100:=zE0 hO h15
  let C:=ckN ps
  let Sm:Nat->Str->Rat:=fun i z=>sumQ (((brL ss).take i).map fun b=>b.q * b.g z)
  have bl:=zO4 ss
  have zl:zs.length = (brL ss).length:=by rw [hB.length,<- hm,ā]
  have bdC:∀ {x:Rat},Cd (12 * Î ss) (15000 * (12 * Î ss)) x->Bd 8000 x:=fun h=>(h.bd (by omega) (Ŏ _ (by decide)) (twelve P100 (ą _))).mono (by decide)
  have cdS:∀ i,i <= (brL ss).length->∀ z,Cd (12 * Î ss) (1000 * i * (12 * Î ss)) (Sm i z):=fun i hi z=>Cd.of (zU9 ok.nd hO z i hi)
  refine þ (xs:=zs) (fun i σ H5=>∃ (v3 v4 v5 v6 v7:Option V) (kv:List (Key × V)),σ = [some (.ref ah),some (.ref as),some (.ref p),v3,v4,v5,v6,v7] /\ Same H H5 /\ (∀ c ob,H4 c = some ob->c ≠ p->H5 c = some ob) /\ H5 p = some (.dK kv) /\ RowAt H5 kv (all C (Sm i)) /\ nms kv = C) ⟨_,_,_,_,_,kv,rfl,s2.trans s24,(fun c ob e _=>e),hp4,row.same fun v r f=>f.same s24,hn⟩ ?_ ?_ ?_
  ·rintro i σ H5 hi ⟨v3,v4,v5,v6,v7,kv,rfl,s5,kp,h5,row,hn⟩
   exact SqL.of (kp _ _ h4 fun e=>by rw [e] at hpb; have:=s3 _ _ h2; rw [hpb] at this; cases this)
  ·rintro i x σ H5 hx ⟨v3,v4,v5,v6,v7,kv,rfl,s5,kp,h5,row,hn⟩
   obtain ⟨bd,hbd,a,l,f,kvs,rfl,q1,q2,q3,q4,q5⟩:=à hB hx
   have hb:(brL ss)[i]? = some bd.1:=by rw [<- hm,đ,hbd]; rfl
   have hib:i < (brL ss).length:=(Ą.mp hb).1
   have hbm:bd.1 ∈ brL ss:=ċ hb
   have kT:∀ c m,H4 c = some (.tup m)->H5 c = some (.tup m):=fun c m e=>kp _ _ e (ê e hp4 (by intro z; cases z))
   have hdp:bd.2 ≠ p:=fun e=>by
    have h0:=hfr bd.2 (ĕ.mpr ⟨bd,ċ hbd,rfl⟩)
    rw [e] at h0
    have:=s3 _ _ h2
    rw [h0] at this; cases this
   have q45:=kp _ _ q4 hdp
   have q55:=q5.same fun v r g=>g.tup kT
   have q35:=q3.tup kT
   refine ⟨a,_,rfl,SqT.of (kT _ _ q1),rfl,_,_,rfl,_,_,rfl,_,_,rfl,rfl,?_⟩
   refine ⟨_,rfl,_,rfl,ah,xs,ps,rfl,s5.seq hS,Ð hP s5,ok.len,fun pc2 H6 hpc2 s6 h6=>?_⟩
   refine ⟨bd.2,pc2,kvs,C,bd.1.g,rfl,s6 _ _ q45,q55.same (fun v r g=>g.same s6),SqL.of h6,c8,fun pq H7 kq hpq s7 h7 rq=>?_⟩
   have s67:=s6.trans s7
   refine ⟨.inr (.inr (.inl ⟨rfl,.inl ⟨_,h7⟩⟩)),pq,_,rfl,rfl,h7,rfl,fun pv hpv=>?_⟩
   have tv:=Same.upd (o:=Λ pv pq) hpv
   refine ⟨pv,pq,_,rfl,Á,tv _ _ h7,rfl,fun o qs hqs=>?_⟩
   have hqs:qs = kq.map fun kv=>(kV kv.1,kv.2):=hqs
   subst hqs
   have npq:p ≠ pq:=Ç (s6 _ _ h5) hpq
   have hpq0:H pq = none:=s5.free (s6.free hpq)
   have s07:=s5.trans s67
   have h57:=s67 _ _ h5
   have row7:=row.same fun v r g=>g.same s67
   have f7:=q35.same s67
   have lq:kq.length <= 8:=by
    rw [<- Ø]
    refine č (Ú (L:=C) (ä rq.nodup rq.keys) fun z hz=>?_) c8
    have:=(rq.iff z).mp hz
    have:=op_some.mp this
    by_cases e:z ∈ C
    ·exact e
    ·rw [if_neg e] at this; exact absurd rfl this
   let Pt:Nat->Str->Rat:=fun j z=>Sm i z + if z ∈ nms (kq.take j) then bd.1.q * bd.1.g z else 0
   have qg:=xD4 ok.nd hO
   refine Ů (fun j σ H8=>∃ (v3 v7:Option V) (kv':List (Key × V)),σ = [some (.ref ah),some (.ref as),some (.ref p),v3,some (.ref l),some f,some (.ref bd.2),v7] /\ H8 pq = some (.frz o (.dK kq)) /\ Same H H8 /\ (∀ c ob,H7 c = some ob->c ≠ p->c ≠ pq->H8 c = some ob) /\ H8 p = some (.dK kv') /\ RowAt H8 kv' (all C (Pt j)) /\ nms kv' = C) ?_ ?_ ?_ ?_
   ·have h8:∀ c ob,H7 c = some ob->c ≠ p->c ≠ pq->upd (upd H7 pv (Λ pv pq)) pq (.frz o (.dK kq)) c = some ob:=fun c ob e _ n=>by rw [upd_ne n]; exact tv _ _ e
    refine ⟨_,_,kv,rfl,Á,(s07.trans tv).updD hpq0,h8,by rw [upd_ne npq]; exact tv _ _ h57,?_,hn⟩
    have e:all C (Pt 0) = all C (Sm i):=ů fun z _=>by
     show Sm i z + _ = _
     rw [if_neg (by simp [nms])]; grind
    rw [e]
    have tu:∀ c m,H7 c = some (.tup m)->upd (upd H7 pv (Λ pv pq)) pq (.frz o (.dK kq)) c = some (.tup m):=fun c m e=>h8 c _ e (ê e h57 (by intro z; cases z)) (ê e h7 (by intro z; cases z))
    exact row7.same fun v r g=>g.tup tu
   ·rintro j σ H8 ⟨_,_,_,_,h,_⟩
    exact h
   ·rintro j k' v T' σ H8 hk ⟨v3,v7,kv',rfl,hfz,s8,kp8,h8,row8,hn8⟩ hT
    obtain ⟨kvi,hki,ek⟩:=Ο hk
    obtain ⟨rfl,rfl⟩:=Prod.mk.inj ek
    obtain ⟨z,r,hz,hg,fr,hnot,hnms⟩:=rq.at hki
    obtain ⟨e1,e2⟩:=yI9 hg
    have hzC:z ∈ C:=by
     by_cases e:z ∈ C
     ·exact e
     ·rw [if_neg e] at e1; exact absurd e1.symm e2
    rw [if_pos hzC] at e1
    have ekv:kV kvi.1 = .str z:=by rw [hz]; rfl
    have kT8:∀ c m,H7 c = some (.tup m)->H8 c = some (.tup m):=fun c m e=>kp8 c _ e (ê e h57 (by intro z; cases z)) (ê e h7 (by intro z; cases z))
    have tT:=Same.upd (o:=.tup [kV kvi.1,kvi.2]) hT
    refine ⟨T',_,rfl,SqT.of Á,rfl,_,_,rfl,_,_,rfl,rfl,?_⟩
    rw [ekv] at tT ⊢
    have h9:=tT _ _ h8
    have fq9:=(f7.tup kT8).same tT
    have fr9:=(fr.tup kT8).same tT
    have row9:=row8.same fun v r g=>g.same tT
    have kp9:∀ c ob,H7 c = some ob->c ≠ p->c ≠ pq->upd H8 T' (.tup [.str z,kvi.2]) c = some ob:=fun c ob e n1 n2=>tT _ _ (kp8 c ob e n1 n2)
    have hfz9:=tT _ _ hfz
    have s9:=s8.trans tT
    generalize upd H8 T' (.tup [.str z,kvi.2]) = H9 at *
    obtain ⟨w9,ew9,fw9⟩:=row9.has z (Pt j z) (by unfold all; rw [if_pos hzC])
    have ePt:Pt j z = Sm i z:=by show Sm i z + _ = _; rw [if_neg hnot]; grind
    have cS:=cdS i (by omega) z
    have cq:=Cd.of (qg z bd.1 hbm)
    have bS:Bd 8000 (Pt j z):=by rw [ePt]; exact bdC (cS.mono (Ė _ (by omega)))
    have bq:Bd 8000 (bd.1.q * r):=by rw [<- e1]; exact bdC (cq.mono (Ė _ (by omega)))
    have b1:Bd 8000 bd.1.q:=((Cd.of (xA1 hO bd.1 hbm)).bd (s:=20) (by decide) (by decide) (by decide)).mono (by decide)
    have b2:Bd 8000 r:=by
     rw [<- e1]
     exact ((xN9 ok.nd hO z bd.1 hbm).bd (n:=101) P0 (ą _) (by rw [Ř]; exact Ę P100 (ł (by decide) (by decide)))).mono (by decide)
    refine ⟨_,rfl,_,rfl,p,w9,rfl,?_,_,rfl,_,rfl,spTimes.of (E:=E0) rfl fq9 fr9 b1 b2 fun u1 H10 s10 f10=>?_⟩
    ·have g:=DGet.k (k:=.inr z) h9
     rw [ew9] at g; exact g
    refine ⟨_,_,Pt j z,bd.1.q * r,rfl,fw9.same s10,f10,bS,bq,fun u2 H11 s11 f11=>?_⟩
    have s911:=s10.trans s11
    have h11:=s911 _ _ h9
    have lk:kv'.length <= 8:=by rw [<- Ø,hn8]; exact c8
    refine ⟨_,rfl,_,rfl,p,_,rfl,DPut.k (k:=.inr z) h11 (sz (by omega)),?_⟩
    have tu:=Ñ (o:=.dK (putK kv' (.inr z) u2)) h11 (fun _ z=>nomatch z)
    refine ⟨_,_,putK kv' (.inr z) u2,rfl,by rw [upd_ne npq.symm]; exact s911 _ _ hfz9,(s9.trans s911).updD hp,fun c ob e n1 n2=>by rw [upd_ne n1]; exact s911 _ _ (kp9 c ob e n1 n2),Á,?_,by rw [zN7 z _ row8.keys,hn8,yW8 hzC]⟩
    have hrow:=((row9.same fun v r g=>g.same s911).put (z:=z) f11).same fun v r g=>g.tup tu
    rw [yV2 hzC] at hrow
    have e:all C (Pt (j + 1)) = all C (fun y=>if y = z then Pt j z + bd.1.q * r else Pt j y):=ů fun y _=>by
     show Sm i y + _ = _
     rw [hnms]
     by_cases e:y = z
     ·subst e
      rw [if_pos rfl,if_pos (by simp),ePt,e1]
     ·rw [if_neg e]
      show _ = Sm i y + _
      have:(y ∈ nms (kq.take j) ++ [z]) ↔ y ∈ nms (kq.take j):=by simp [e]
      by_cases q:y ∈ nms (kq.take j)
      ·rw [if_pos q,if_pos (this.mpr q)]
      ·rw [if_neg q,if_neg fun u=>q (this.mp u)]
    rw [e]; exact hrow
   ·rintro σ H8 ⟨v3,v7,kv',rfl,hfz,s8,kp8,h8,row8,hn8⟩
    rw [ā] at row8
    have hH:∀ c ob,H4 c = some ob->c ≠ p->H8 c = some ob:=fun c ob e n1=>by
     have e5:=kp c ob e n1
     have e6:=s6 _ _ e5
     exact kp8 c ob (s7 _ _ e6) n1 (Ç e6 hpq)
    refine ⟨_,_,_,_,_,kv',rfl,s8,hH,h8,?_,hn8⟩
    have e:all C (Sm (i + 1)) = all C (Pt kq.length):=ů fun z hz=>by
     have et:(brL ss).take (i + 1) = (brL ss).take i ++ [bd.1]:=by rw [ĺ,hb]; rfl
     have e1:Sm (i + 1) z = Sm i z + bd.1.q * bd.1.g z:=by
      show sumQ (((brL ss).take (i + 1)).map fun b=>b.q * b.g z) = _
      rw [et,ė]
      show List.foldl _ _ (_ ++ _) = _
      rw [List.foldl_append]; rfl
     rw [e1]
     show _ = Sm i z + _
     rw [Đ]
     by_cases q:z ∈ nms kq
     ·rw [if_pos q]
     ·rw [if_neg q]
      have:bd.1.g z = 0:=by
       by_cases u:bd.1.g z = 0
       ·exact u
       ·exact absurd ((rq.iff z).mpr (op_some.mpr (by rw [if_pos hz]; exact u))) q
      rw [this,Rat.mul_zero]
    rw [e]; exact row8
  ·rintro σ H5 ⟨v3,v4,v5,v6,v7,kv,rfl,s5,kp,h5,row,hn⟩
   rw [zl] at row
   refine ⟨_,rfl,k p H5 kv hp s5 h5 ?_ hn⟩
   have e:Sm (brL ss).length = bT ss:=by funext z; show sumQ (((brL ss).take (brL ss).length).map fun b=>b.q * b.g z) = _; rw [Đ]; rfl
   rw [e] at row; exact row
noncomputable abbrev yI2:Stmt:=top 27
theorem sc_led:Ì ["rows","totals","after","name","shares","end","share"] ["rows","totals"] (Å yI2):=scF
theorem xK9 {ca:Ca} (D:DefAt K mg "led" yI2) (T:Txt K mg ca) (G_plus:FnAt P w K mg base CX0 2 "plus" ["one","other"] (zP5)) (G_times:FnAt P w K mg base CX0 2 "times" ["one","other"] (spTimes)):FnAt P w K mg base CX0 3 "led" ["rows","totals"] (yM4):=by
 refine D.ok sc_led (fun vs H Q E h=>?_) (fun _ _ _ _ _ _ us hl=>match us,hl with | [_,_],_=>rfl) (fun f cdv A outer s H vs Q E hr h=>?_)
 ·obtain ⟨pr,pt,H0,rows,kt,ad,C,L,R,f,Dn,E1,W1,rfl,hrw,TB,hC,nC,c5,hCL,G,D0,Dd,ht,rt,ntr,nad,E0',EW,We,hcd,k⟩:=h; rfl
 ·obtain ⟨pr,pt,H0,rows,kt,ad,C,L,R,f,Dn,E1,W1,rfl,hrw,TB,hC,nC,c5,hCL,G,D0,Dd,ht,rt,ntr,nad,E0',EW,We,hcd,k⟩:=h
  have nd:=sc_led.nd
  refine ⟨_,(Ã (Ê (i:=2) nd rfl (Or.inl rfl) ë)
   (Ã (Ŷ (ß PassesOwn.never rfl (Χ (pv 1)) (È (i:=3) nd rfl (Or.inl rfl)) (Æ (ç (â hr) (pv 2) (pv 3) (Ü (À Ä (À Ä Â))) rfl))))
   (Ã (Ŷ (ß PassesOwn.never rfl (Ÿ (Ū (K:=K) rfl PySem.F.plainAttrs_dict PySem.F.slot_dict_items PySem.F.type_dict_items Ź (pv 0))) (Θ rfl (Ò (È (i:=3) nd rfl (Or.inl rfl)) (Ò (È (i:=4) nd rfl (Or.inl rfl)) ÿ))) (Æ (Ŷ (ß PassesOwn.never rfl (Ÿ (Ū (K:=K) rfl PySem.F.plainAttrs_dict PySem.F.slot_dict_items PySem.F.type_dict_items Ź (pv 4))) (Θ rfl (Ò (È (i:=5) nd rfl (Or.inl rfl)) (Ò (È (i:=6) nd rfl (Or.inl rfl)) ÿ))) (Æ (ç (â hr) (pv 2) (pv 5) (pfn G_plus hr (À (å (â hr) (pv 2) (pv 5) (fun _ _=>rfl)) (À (pfn G_times hr (À (å (â hr) (pv 1) (pv 3) (fun _ _=>rfl)) (À (pv 6) Â))) Â))) rfl)))))))
   (Æ (Ï (pv 2)))))),?_⟩
  intro p hp
  have tp:=Same.upd (o:=.dK []) hp
  have hr1:=tp _ _ hrw
  have ht1:=tp _ _ ht
  have hp1:=Á (H:=H) (a:=p) (o:=.dK [])
  have rt1:=rt.same fun v r g=>g.same tp
  have TB1:=TB.same tp
  have npr:p ≠ pr:=fun e=>by rw [e,hrw] at hp; cases hp
  have npt:p ≠ pt:=fun e=>by rw [e,ht] at hp; cases hp
  have nadp:∀ x ∈ C,ad x ≠ p:=fun x hx e=>by
   obtain ⟨_,_,kv,c,_⟩:=TB.row x hx
   rw [e,hp] at c; cases c
  generalize upd H p (.dK []) = H1 at *
  have mt:∀ z,z ∈ nms kt ↔ z ∈ C:=fun z=>(rt.iff z).trans all_some
  have nt:(nms kt).Nodup:=ä rt.nodup rt.keys
  have lt5:kt.length <= 5:=by rw [<- Ø]; exact č (Ú nt fun z hz=>(mt z).mp hz) c5
  refine ⟨pt,_,ht1,rfl,?_⟩
  refine ⟨_,rfl,pt,_,rfl,ht1,rfl,fun o qs hqs=>?_⟩
  have hqs:qs = kt.map fun kv=>(kV kv.1,kv.2):=hqs
  subst hqs
  refine zI4 (fun i σ H2=>∃ (v3:Option V) (kv:List (Key × V)),σ = [some (.ref pr),some (.ref pt),some (.ref p),v3,none,none,none] /\ H2 pt = some (.frz o (.dK kt)) /\ (∀ c ob,H1 c = some ob->c ≠ p->c ≠ pt->H2 c = some ob) /\ H2 p = some (.dK kv) /\ RowAt H2 kv (all (nms (kt.take i)) fun _=>0)) ?_ ?_ ?_ ?_
  ·refine ⟨none,[],rfl,Á,fun c ob e _ n=>by rw [upd_ne n]; exact e,by rw [upd_ne npt]; exact hp1,?_⟩
   rw [œ]
   show RowAt _ [] (all [] _)
   rw [δ]; exact RowAt.nil _
  ·rintro i σ H2 ⟨_,_,_,h,_⟩
   exact h
  ·rintro i k' v σ H2 hk ⟨v3,kv,rfl,hfz,kp,h2,row⟩
   obtain ⟨kvi,hki,ek⟩:=Ο hk
   obtain ⟨z,r,hz,hg,fr,hnot,hnms⟩:=rt1.at hki
   obtain ⟨rfl,rfl⟩:=Prod.mk.inj ek
   obtain ⟨k0,w0⟩:=kvi
   have hz:k0 = .inr z:=hz
   subst hz
   have lk:kv.length <= 5:=by
    have:=row.len' (L:=nms (kt.take i)) fun y hy=>all_some.mp hy
    rw [Ø,ē] at this
    omega
   refine ⟨sz (by simp),fun p1 hp1'=>?_⟩
   have t3:=Same.upd (o:=.tup [.int 0,.int 1]) hp1'
   have f0:=FrV.newOf (H:=H2) (p:=p1) (t:=0) (b:=1) (r:=0) rfl rfl
   have row3:=row.same fun v r f=>f.same t3
   have h3:=t3 _ _ h2
   have hfz3:=t3 _ _ hfz
   have kp3:∀ c ob,H1 c = some ob->c ≠ p->c ≠ pt->upd H2 p1 (.tup [.int 0,.int 1]) c = some ob:=fun c ob e n1 n2=>t3 _ _ (kp c ob e n1 n2)
   generalize upd H2 p1 (.tup [.int 0,.int 1]) = H3 at *
   refine ⟨_,rfl,_,rfl,p,_,rfl,DPut.k (k:=.inr z) h3 (sz (by omega)),?_⟩
   have tu:=Ñ (o:=.dK (putK kv (.inr z) (.ref p1))) h3 (fun _ z=>nomatch z)
   refine ⟨_,putK kv (.inr z) (.ref p1),rfl,by rw [upd_ne npt.symm]; exact hfz3,fun c ob e n1 n2=>by rw [upd_ne n1]; exact kp3 c ob e n1 n2,Á,?_⟩
   rw [hnms,Γ]
   exact (row3.put (z:=z) f0).same fun v r g=>g.tup tu
  rintro σ H2 ⟨v3,kv,rfl,hfz,kp,h2,row⟩
  rw [ā,Đ] at row
  refine ⟨o,.dK kt,hfz,?_⟩
  have e0:all (nms kt) (fun _=>(0:Rat)) = all C fun _=>0:=by
   funext z
   unfold all
   by_cases q:z ∈ C
   ·rw [if_pos q,if_pos ((mt z).mpr q)]
   ·rw [if_neg q,if_neg fun u=>q ((mt z).mp u)]
  rw [e0] at row
  have ht3:=Á (H:=H2) (a:=pt) (o:=.dK kt)
  have h3:upd H2 pt (.dK kt) p = some (.dK kv):=by rw [upd_ne npt]; exact h2
  have kp3:∀ c ob,H1 c = some ob->c ≠ p->upd H2 pt (.dK kt) c = some ob:=fun c ob e n=>by
   by_cases q:c = pt
   ·subst q; rw [ht1] at e; cases e; exact Á
   ·rw [upd_ne q]; exact kp c ob e n q
  have row3:=row.same fun v r g=>g.tup (Ñ (o:=.dK kt) hfz (fun _ z=>nomatch z))
  generalize upd H2 pt (.dK kt) = H3 at *
  have kT3:∀ c m,H1 c = some (.tup m)->H3 c = some (.tup m):=fun c m e=>kp3 c _ e (ê e hp1 (by intro z; cases z))
  have s3:Same H H3:=fun c ob e=>kp3 c ob (tp _ _ e) (Ç e hp)
  have hr3:=kp3 _ _ hr1 npr.symm
  have rt3:=rt1.same fun v r g=>g.tup kT3
  show Ends.nx _ [some (.ref pr),some (.ref pt),some (.ref p),v3,none,none,none] _
  let Sm:Nat->Str->Rat:=fun i z=>sumL (C.take i) fun y=>f y * R y z
  have cdP:∀ y ∈ C,∀ z,Cd (E1 * Dn) (W1 * Dn) (f y * R y z):=fun y hy z=>by
   have:=(hcd y hy).mul (Cd.of (G.part y (hCL y hy) z))
   rw [Ř] at this; exact this
  have cdS:∀ i z,Cd (E1 * Dn) (5 * (W1 * Dn)) (Sm i z):=fun i z=>by
   have:=zU4 (l:=C.take i) (f:=fun y=>f y * R y z) fun y hy=>cdP y (ĵ hy) z
   refine this.mono (Ė _ ?_)
   rw [ē]; omega
  have ED0:0 < E1 * Dn:=Ľ E0' D0
  have EWD:E1 * Dn <= W1 * Dn:=Ė _ EW
  have WD:W1 * Dn <= 2 ^ 3100:=by
   have:=ğ We Dd
   rw [<- ī] at this; exact this
  have WD8:5 * (W1 * Dn) <= 2 ^ 3103:=by
   have e:(2:Nat) ^ 3103 = 8 * 2 ^ 3100:=by rw [show 3103 = 3 + 3100 from rfl,ī]
   rw [e]; omega
  have bS:∀ i z,Bd 8000 (Sm i z):=fun i z=>((cdS i z).bd ED0 (by omega) WD8).mono (by decide)
  have bP:∀ y ∈ C,∀ z,Bd 8000 (f y * R y z):=fun y hy z=>((cdP y hy z).bd ED0 EWD WD).mono (by decide)
  have bF:∀ y ∈ C,Bd 8000 (f y):=fun y hy=>((hcd y hy).bd E0' EW We).mono (by decide)
  have bR:∀ y ∈ C,∀ z,Bd 8000 (R y z):=fun y hy z=>((Cd.of (G.part y (hCL y hy) z)).bd D0 (by omega) (by rw [Ř]; exact Dd)).mono (by decide)
  have keyat:∀ {i:Nat} {k' v:V},(rows.map fun kv=>(kV kv.1,kv.2))[i]? = some (k',v)->∃ z,k' = .str z /\ v = .ref (ad z) /\ z ∈ C /\ C[i]? = some z:=fun {i k' v} hk=>by
   rw [đ] at hk
   cases q:rows[i]? with
   | none=>rw [q] at hk; cases hk
   | some kvi =>
    rw [q] at hk
    obtain ⟨rfl,rfl⟩:=Prod.mk.inj (Option.some.inj hk)
    obtain ⟨z,hz,hzC⟩:=TB.keys kvi (ċ q)
    refine ⟨z,by rw [hz]; rfl,?_,hzC,?_⟩
    ·have:=Ŵ TB.nodup q
     rw [hz,(TB.row z hzC).1] at this
     exact (Option.some.inj this).symm
    ·rw [<- hC]
     unfold nms
     rw [đ,q]
     show some (nmz kvi.1) = _
     rw [hz]; rfl
  refine ⟨pr,_,hr3,rfl,?_⟩
  refine ⟨_,rfl,.inr (.inr (.inl ⟨rfl,.inl ⟨_,hr3⟩⟩)),pr,_,rfl,rfl,hr3,rfl,fun pv hpv=>?_⟩
  have tv:=Same.upd (o:=Λ pv pr) hpv
  refine ⟨pv,pr,_,rfl,Á,tv _ _ hr3,rfl,fun o qs hqs=>?_⟩
  have hqs:qs = rows.map fun kv=>(kV kv.1,kv.2):=hqs
  subst hqs
  refine Ů (fun i σ H4=>∃ (v3 v4 v5 v6:Option V) (kv:List (Key × V)),σ = [some (.ref pr),some (.ref pt),some (.ref p),v3,v4,v5,v6] /\ H4 pr = some (.frz o (.dK rows)) /\ (∀ c ob,H3 c = some ob->c ≠ p->c ≠ pr->H4 c = some ob) /\ H4 p = some (.dK kv) /\ RowAt H4 kv (all C (Sm i))) ?_ ?_ ?_ ?_
  ·have h4:∀ c ob,H3 c = some ob->c ≠ p->c ≠ pr->upd (upd H3 pv (Λ pv pr)) pr (.frz o (.dK rows)) c = some ob:=fun c ob e _ n=>by rw [upd_ne n]; exact tv _ _ e
   refine ⟨_,_,_,_,kv,rfl,Á,h4,by rw [upd_ne npr]; exact tv _ _ h3,?_⟩
   exact row3.same fun v r g=>(g.same tv).tup (Ñ (o:=.frz o (.dK rows)) (tv _ _ hr3) (fun _ z=>nomatch z))
  ·rintro i σ H4 ⟨_,_,_,_,_,_,h,_⟩
   exact h
  ·rintro i k' v T' σ H4 hk ⟨v3,v4,v5,v6,kv,rfl,hfz,kp4,h4,row4⟩ hT
   obtain ⟨nm,rfl,rfl,hnC,hin⟩:=keyat hk
   have tT:=Same.upd (o:=.tup [.str nm,.ref (ad nm)]) hT
   refine ⟨T',_,rfl,SqT.of Á,rfl,_,_,rfl,_,_,rfl,rfl,?_⟩
   have h5:=tT _ _ h4
   have row5:=row4.same fun v r g=>g.same tT
   have hfz5:=tT _ _ hfz
   have kp5:∀ c ob,H3 c = some ob->c ≠ p->c ≠ pr->upd H4 T' (.tup [.str nm,.ref (ad nm)]) c = some ob:=fun c ob e n1 n2=>tT _ _ (kp4 c ob e n1 n2)
   generalize upd H4 T' (.tup [.str nm,.ref (ad nm)]) = H5 at *
   obtain ⟨_,_,kvs,hrow0,rr0⟩:=TB1.row nm hnC
   have nap:=nadp nm hnC
   have nar:=TB.apart nm hnC
   have hrow:=kp5 _ _ (kp3 _ _ hrow0 nap) nap nar
   have kT5:∀ c m,H3 c = some (.tup m)->H5 c = some (.tup m):=fun c m e=>kp5 c _ e (ê e h3 (by intro z; cases z)) (ê e hr3 (by intro z; cases z))
   have rr5:=rr0.same fun v r g=>(g.tup kT3).tup kT5
   have ht5:=kp5 _ _ ht3 npt.symm ntr
   have rt5:=rt3.same fun v r g=>g.tup kT5
   obtain ⟨wf,ewf,fwf⟩:=rt5.has nm (f nm) (by unfold all; rw [if_pos hnC])
   refine ⟨ad nm,_,hrow,rfl,?_⟩
   refine ⟨_,rfl,.inr (.inr (.inl ⟨rfl,.inl ⟨_,hrow⟩⟩)),ad nm,_,rfl,rfl,hrow,rfl,fun pv2 hpv2=>?_⟩
   have tv2:=Same.upd (o:=Λ pv2 (ad nm)) hpv2
   refine ⟨pv2,ad nm,_,rfl,Á,tv2 _ _ hrow,rfl,fun o2 qs2 hqs2=>?_⟩
   have hqs2:qs2 = kvs.map fun kv=>(kV kv.1,kv.2):=hqs2
   subst hqs2
   let Pt:Nat->Str->Rat:=fun j z=>Sm i z + if z ∈ nms (kvs.take j) then f nm * R nm z else 0
   refine Ů (fun j σ H8=>∃ (v5 v6:Option V) (kv':List (Key × V)),σ = [some (.ref pr),some (.ref pt),some (.ref p),some (.str nm),some (.ref (ad nm)),v5,v6] /\ H8 (ad nm) = some (.frz o2 (.dK kvs)) /\ (∀ c ob,H5 c = some ob->c ≠ p->c ≠ ad nm->H8 c = some ob) /\ H8 p = some (.dK kv') /\ RowAt H8 kv' (all C (Pt j))) ?_ ?_ ?_ ?_
   ·have h8:∀ c ob,H5 c = some ob->c ≠ p->c ≠ ad nm->upd (upd H5 pv2 (Λ pv2 (ad nm))) (ad nm) (.frz o2 (.dK kvs)) c = some ob:=fun c ob e _ n=>by rw [upd_ne n]; exact tv2 _ _ e
    refine ⟨_,_,kv,rfl,Á,h8,by rw [upd_ne nap.symm]; exact tv2 _ _ h5,?_⟩
    have e:all C (Pt 0) = all C (Sm i):=ů fun z _=>by
     show Sm i z + _ = _
     rw [if_neg (by simp [nms])]; grind
    rw [e]
    exact row5.same fun v r g=>(g.same tv2).tup (Ñ (o:=.frz o2 (.dK kvs)) (tv2 _ _ hrow) (fun _ z=>nomatch z))
   ·rintro j σ H8 ⟨_,_,_,_,h,_⟩
    exact h
   ·rintro j k' v T2 σ H8 hk ⟨v5,v6,kv',rfl,hfz8,kp8,h8,row8⟩ hT2
    obtain ⟨kvi,hki,ek⟩:=Ο hk
    obtain ⟨rfl,rfl⟩:=Prod.mk.inj ek
    obtain ⟨z,r,hz,hg,fr,hnot,hnms⟩:=rr5.at hki
    obtain ⟨e1,e2⟩:=yI9 hg
    have hzC:z ∈ C:=by
     by_cases e:z ∈ C
     ·exact e
     ·unfold resC at e1; rw [if_neg e] at e1; exact absurd e1.symm e2
    unfold resC at e1
    rw [if_pos hzC] at e1
    have ekv:kV kvi.1 = .str z:=by rw [hz]; rfl
    have kT8:∀ c m,H5 c = some (.tup m)->H8 c = some (.tup m):=fun c m e=>kp8 c _ e (ê e h5 (by intro z; cases z)) (ê e hrow (by intro z; cases z))
    have tT2:=Same.upd (o:=.tup [kV kvi.1,kvi.2]) hT2
    refine ⟨T2,_,rfl,SqT.of Á,rfl,_,_,rfl,_,_,rfl,rfl,?_⟩
    rw [ekv] at tT2 ⊢
    have h9:=tT2 _ _ h8
    have fw9:=(fwf.tup kT8).same tT2
    have fr9:=(fr.tup kT8).same tT2
    have row9:=row8.same fun v r g=>g.same tT2
    have ht9:=tT2 _ _ (kp8 _ _ ht5 npt.symm (nad nm hnC).symm)
    have kp9:∀ c ob,H5 c = some ob->c ≠ p->c ≠ ad nm->upd H8 T2 (.tup [.str z,kvi.2]) c = some ob:=fun c ob e n1 n2=>tT2 _ _ (kp8 c ob e n1 n2)
    have hfz9:=tT2 _ _ hfz8
    generalize upd H8 T2 (.tup [.str z,kvi.2]) = H9 at *
    obtain ⟨w9,ew9,fp9⟩:=row9.has z (Pt j z) (by unfold all; rw [if_pos hzC])
    have ePt:Pt j z = Sm i z:=by show Sm i z + _ = _; rw [if_neg hnot]; grind
    have b1:Bd 8000 (Pt j z):=by rw [ePt]; exact bS i z
    have b2:Bd 8000 r:=by rw [<- e1]; exact bR nm hnC z
    have b3:Bd 8000 (f nm * r):=by rw [<- e1]; exact bP nm hnC z
    refine ⟨_,rfl,_,rfl,p,w9,rfl,?_,_,rfl,_,rfl,pt,wf,rfl,?_,_,rfl,spTimes.of (E:=E0) rfl fw9 fr9 (bF nm hnC) b2 fun u1 H10 s10 f10=>?_⟩
    ·have g:=DGet.k (k:=.inr z) h9
     rw [ew9] at g; exact g
    ·have g:=DGet.k (k:=.inr nm) ht9
     rw [ewf] at g; exact g
    refine ⟨_,_,Pt j z,f nm * r,rfl,fp9.same s10,f10,b1,b3,fun u2 H11 s11 f11=>?_⟩
    have s911:=s10.trans s11
    have h11:=s911 _ _ h9
    have lk:kv'.length <= 5:=č (row8.len' fun y hy=>all_some.mp hy) c5
    refine ⟨_,rfl,_,rfl,p,_,rfl,DPut.k (k:=.inr z) h11 (sz (by omega)),?_⟩
    have tu:=Ñ (o:=.dK (putK kv' (.inr z) u2)) h11 (fun _ z=>nomatch z)
    refine ⟨_,_,putK kv' (.inr z) u2,rfl,by rw [upd_ne nap]; exact s911 _ _ hfz9,fun c ob e n1 n2=>by rw [upd_ne n1]; exact s911 _ _ (kp9 c ob e n1 n2),Á,?_⟩
    have hrow:=((row9.same fun v r g=>g.same s911).put (z:=z) f11).same fun v r g=>g.tup tu
    rw [yV2 hzC] at hrow
    have e:all C (Pt (j + 1)) = all C (fun y=>if y = z then Pt j z + f nm * r else Pt j y):=ů fun y _=>by
     show Sm i y + _ = _
     rw [hnms]
     by_cases e:y = z
     ·subst e
      rw [if_pos rfl,if_pos (by simp),ePt,e1]
     ·rw [if_neg e]
      show _ = Sm i y + _
      have:(y ∈ nms (kvs.take j) ++ [z]) ↔ y ∈ nms (kvs.take j):=by simp [e]
      by_cases q:y ∈ nms (kvs.take j)
      ·rw [if_pos q,if_pos (this.mpr q)]
      ·rw [if_neg q,if_neg fun u=>q (this.mp u)]
    rw [e]; exact hrow
   ·rintro σ H8 ⟨v5,v6,kv',rfl,hfz8,kp8,h8,row8⟩
    rw [ā] at row8
    refine ⟨o2,_,hfz8,?_⟩
    refine ⟨_,_,_,_,kv',rfl,?_,fun c ob e n1 n2=>?_,by rw [upd_ne nap.symm]; exact h8,?_⟩
    ·rw [upd_ne nar.symm]; exact kp8 _ _ hfz5 npr.symm nar.symm
    ·by_cases q:c = ad nm
     ·subst q
      have:=kp5 _ _ e n1 n2
      rw [hrow] at this
      rw [Á]; exact this
     ·rw [upd_ne q]; exact kp8 _ _ (kp5 c ob e n1 n2) n1 q
    ·have e:all C (Sm (i + 1)) = all C (Pt kvs.length):=ů fun z hz=>by
      have e1:Sm (i + 1) z = Sm i z + f nm * R nm z:=by
       show sumL (C.take (i + 1)) _ = _
       rw [Û hin,zH1]
      rw [e1]
      show _ = Sm i z + _
      rw [Đ]
      by_cases q:z ∈ nms kvs
      ·rw [if_pos q]
      ·rw [if_neg q]
       have:R nm z = 0:=by
        by_cases u:R nm z = 0
        ·exact u
        ·exact absurd ((rr5.iff z).mpr (op_some.mpr (by unfold resC; rw [if_pos hz]; exact u))) q
       rw [this,Rat.mul_zero]
     rw [e]
     exact row8.same fun v r g=>g.tup (Ñ (o:=.dK kvs) hfz8 (fun _ z=>nomatch z))
  rintro σ H4 ⟨v3',v4,v5,v6,kv',rfl,hfz4,kp4,h4,row4⟩
  have lr:rows.length = C.length:=by rw [<- hC,Ø]
  rw [ā,lr] at row4
  refine ⟨o,_,hfz4,_,rfl,k p _ kv' hp (fun c ob e=>?_) (by rw [upd_ne npr]; exact h4) ?_⟩
  ·have:=s3 _ _ e
   by_cases q:c = pr
   ·subst q; rw [hrw] at e; cases e; exact Á
   ·rw [upd_ne q]; exact kp4 _ _ this (Ç e hp) q
  ·have e:Sm C.length = ldR C R f:=by funext z; show sumL (C.take C.length) _ = _; rw [Đ]; rfl
   rw [e] at row4
   exact row4.same fun v r g=>g.tup (Ñ (o:=.dK rows) hfz4 (fun _ z=>nomatch z))
noncomputable abbrev zB2:Stmt:=top 28
theorem sc_left_alike:Ì ["rows","added","casks","equations","name","equation","cask","stays"] ["rows","added"] (Å zB2):=scF
theorem zS0 {ca:Ca} (D:DefAt K mg "left_alike" zB2) (T:Txt K mg ca) (G_minus:FnAt P w K mg base CX0 3 "minus" ["one","other"] (zR2)) (G_solved:FnAt P w K mg base CX0 6 "solved" ["rows"] (yE2)):FnAt P w K mg base CX0 7 "left_alike" ["rows","added"] (yM3):=by
 refine D.ok sc_left_alike (fun vs H Q E h=>?_) (fun _ _ _ _ _ _ us hl=>match us,hl with | [_,_],_=>rfl) (fun f cdv A outer s H vs Q E hr h=>?_)
 ·obtain ⟨pr,pa,H0,rows,kb,ad,C,L,R,b,Dn,E1,W1,d,e,rfl,hrw,TB,hC,nC,c5,nL,hCL,G,D0,Dd,hb,rb,E0',EW,We,hcd,b1,b2,hlk,k⟩:=h; rfl
 ·obtain ⟨pr,pa,H0,rows,kb,ad,C,L,R,b,Dn,E1,W1,d,e,rfl,hrw,TB,hC,nC,c5,nL,hCL,G,D0,Dd,hb,rb,E0',EW,We,hcd,b1,b2,hlk,k⟩:=h
  have nd:=sc_left_alike.nd
  refine ⟨_,(Ã (Ê (i:=2) nd rfl (Or.inl rfl) (ŭ (zG5 rfl) (by rfl) T.z_list γ (À (pv 0) Â)))
   (Ã (Ê (i:=3) nd rfl (Or.inl rfl) (ų Â))
   (Ã (ß PassesOwn.never rfl (è (K:=K) rfl (pv 2)) (È (i:=4) nd rfl (Or.inl rfl)) (Ã (Ê (i:=5) nd rfl (Or.inl rfl) (ų Â))
   (Ã (ß PassesOwn.never rfl (è (K:=K) rfl (pv 2)) (È (i:=6) nd rfl (Or.inl rfl)) (Ã (Ê (i:=7) nd rfl (Or.inl rfl) (zR6 (Õ ξ (pv 6) (pv 4) (Ù _)) (Ü (À Ä (À Ä Â))) (Ü (À Ä (À Ä Â)))))
   (Æ (ù (ρ PySem.F.plainAttrs_list PySem.F.slot_list_append PySem.F.type_list_append û (pv 5) (À (pfn G_minus hr (À (pv 7) (À (zR7 (â hr) (å (â hr) (pv 0) (pv 6) (fun _ _=>rfl)) (pv 4) (Ü (À Ä (À Ä Â))) ⟨by rfl,by rfl,by rfl,by rfl⟩) Â))) Â))))))
   (Æ (ù (ρ PySem.F.plainAttrs_list PySem.F.slot_list_append PySem.F.type_list_append û (pv 3) (À (Ó xC3 (pv 5) (ų (À (å (â hr) (pv 1) (pv 4) (fun _ _=>rfl)) Â))) Â)))))))
   (Æ (Ï (yI5 (K:=K) rfl rfl (by rfl) T.z_dict (by rfl) T.z_zip (À (pv 2) (À (pfn G_solved hr (À (pv 3) Â)) Â)))))))),?_⟩
  have hkeys:∀ kv ∈ rows,∃ z,kv.1 = .inr z:=fun kv h=>(let ⟨z,e,_⟩:=TB.keys kv h; ⟨z,e⟩)
  refine ⟨_,rfl,pr,_,rfl,hrw,rfl,fun qs hqs pc hpc=>?_⟩
  have hqs:qs = rows.map fun kv=>(kV kv.1,kv.2):=hqs
  have ec:qs.map (·.1) = C.map V.str:=by
   rw [hqs,Ň,<- hC]
   exact zU0 hkeys
  rw [ec]
  have t1:=Same.upd (o:=.lst (C.map V.str)) hpc
  have h1c:=Á (H:=H) (a:=pc) (o:=.lst (C.map V.str))
  generalize upd H pc (.lst (C.map V.str)) = H1 at *
  refine ⟨sz (by simp),fun pe hpe=>?_⟩
  have t2:=t1.trans (Same.upd (o:=.lst []) hpe)
  have h2c:=(Same.upd (o:=.lst []) hpe) _ _ h1c
  have hpe0:=t1.free hpe
  let n:=C.length
  let c:Nat->Str:=fun i=>C.getD i ""
  have hcN:Nmd C c:=xL1 C
  refine ⟨_,rfl,pc,rfl,⟨_,SqL.of h2c⟩,?_⟩
  refine þ (xs:=C.map V.str) (fun i σ H2=>∃ (v4 v5 v6 v7:Option V) (bs:List Addr),σ = [some (.ref pr),some (.ref pa),some (.ref pc),some (.ref pe),v4,v5,v6,v7] /\ Same H H2 /\ H2 pc = some (.lst (C.map V.str)) /\ H2 pe = some (.lst (bs.map V.ref)) /\ bs.length = i /\ ∀ j q,bs[j]? = some q->q ≠ pe /\ LsF H2 q (nR (n + 1) (eqM n c R b j))) ⟨none,none,none,none,[],rfl,t2,h2c,Á,rfl,fun j q e=>by simp at e⟩ ?_ ?_ ?_
  ·rintro i σ H2 hi ⟨v4,v5,v6,v7,bs,rfl,s2,hc2,he2,lb,hB⟩
   exact SqL.of hc2
  ·rintro i x σ H2 hx ⟨v4,v5,v6,v7,bs,rfl,s2,hc2,he2,lb,hB⟩
   obtain ⟨nm,rfl,hi⟩:=zG6 hx
   have hil:i < C.length:=(Ą.mp hi).1
   have eni:nm = c i:=by have:=hcN i hil; rw [hi] at this; exact Option.some.inj this
   have hnm:nm ∈ C:=ċ hi
   refine ⟨sz (by simp),fun pq hpq=>?_⟩
   have t3:=Same.upd (o:=.lst []) hpq
   have hpq0:=s2.free hpq
   refine ⟨_,rfl,pc,rfl,⟨_,SqL.of (t3 _ _ hc2)⟩,?_⟩
   refine þ (xs:=C.map V.str) (fun j σ H3=>∃ (v6 v7:Option V) (ws:List V),σ = [some (.ref pr),some (.ref pa),some (.ref pc),some (.ref pe),some (.str nm),some (.ref pq),v6,v7] /\ Same H2 H3 /\ H3 pq = some (.lst ws) /\ Paired (FrV H3) ws (nR j (eqM n c R b i))) ⟨_,_,[],rfl,t3,Á,.nil⟩ ?_ ?_ ?_
   ·rintro j σ H3 hj ⟨v6,v7,ws,rfl,s3,hq3,hW⟩
    exact SqL.of (s3 _ _ hc2)
   ·rintro j y σ H3 hy ⟨v6,v7,ws,rfl,s3,hq3,hW⟩
    obtain ⟨ck,rfl,hj⟩:=zG6 hy
    have hjl:j < C.length:=(Ą.mp hj).1
    have enj:ck = c j:=by have:=hcN j hjl; rw [hj] at this; exact Option.some.inj this
    have hck:ck ∈ C:=ċ hj
    obtain ⟨vr,_,kvs,hrow,rr⟩:=TB.row ck hck
    have lW:ws.length = j:=hW.length.trans (Ω j _)
    have s03:=s2.trans s3
    have bR:Bd 8000 (R ck nm):=((G.part ck (hCL ck hck) nm).bd (n:=d + 1) D0 (ą _) (by rw [Ř,į]; have:=Nat.two_pow_pos d; omega)).mono (by omega)
    refine ⟨_,rfl,_,rfl,rfl,_,rfl,?_⟩
    refine ite2 (fun h=>?A) (fun h=>?B)
    case' A =>
     have h:ck = nm:=V.str.inj (of_decide_eq_true h)
     refine ⟨sz (by simp),fun p1 hp1=>?_⟩
     have t4:=Same.upd (o:=.tup [.int 1,.int 1]) hp1
     have fd:=FrV.newOf (H:=H3) (p:=p1) (t:=1) (b:=1) (r:=1) rfl rfl
     generalize upd H3 p1 (.tup [.int 1,.int 1]) = H4 at *
     have bdl:Bd 8000 (1:Rat):=⟨Nat.one_lt_two_pow (by decide),Nat.one_lt_two_pow (by decide)⟩
     have edl:eqM n c R b i j = 1 - R ck nm:=by unfold eqM; rw [if_pos hjl,<- enj,<- eni,if_pos h]
    case' B =>
     have h:ck ≠ nm:=fun e=>h (decide_eq_true (by rw [e]))
     refine ⟨sz (by simp),fun p1 hp1=>?_⟩
     have t4:=Same.upd (o:=.tup [.int 0,.int 1]) hp1
     have fd:=FrV.newOf (H:=H3) (p:=p1) (t:=0) (b:=1) (r:=0) rfl rfl
     generalize upd H3 p1 (.tup [.int 0,.int 1]) = H4 at *
     have bdl:Bd 8000 (0:Rat):=⟨Nat.two_pow_pos _,Nat.one_lt_two_pow (by decide)⟩
     have edl:eqM n c R b i j = 0 - R ck nm:=by unfold eqM; rw [if_pos hjl,<- enj,<- eni,if_neg h]
    all_goals
     have s04:=s03.trans t4
     have hq4:=t4 _ _ hq3
     refine ⟨_,rfl,.inl ⟨rfl,_,SqL.of hq4⟩,_,rfl,_,rfl,_,rfl,pr,.ref (ad ck),rfl,?_,ad ck,rfl,.inl ⟨kvs,.inl (s04 _ _ hrow)⟩,_,rfl,sz (by simp),fun q0 hq0=>⟨valV kvs (.inr nm),DGet.k (k:=.inr nm) (Same.upd hq0 _ _ (s04 _ _ hrow)),?_⟩⟩
     ·have g:=DGet.k (k:=.inr ck) (s04 _ _ hrw)
      rw [vr] at g; exact g
     have z0:=Same.upd (o:=.tup [.int 0,.int 1]) hq0
     have fg:FrV (upd H4 q0 (.tup [.int 0,.int 1])) ((valV kvs (.inr nm)).getD (.ref q0)) (R ck nm):=by
      have:=(rr.same (fun v r f=>(f.same s04).same z0)).getD (FrV.newOf (r:=0) (p:=q0) rfl rfl) nm
      rw [ζ] at this
      unfold resC at this
      rw [if_pos hnm] at this
      exact this
     refine ⟨_,_,_,R ck nm,rfl,fd.same z0,fg,bdl,bR,fun u6 H6 s6 f6=>?_⟩
     have s46:=z0.trans s6
     have hq6:=s46 _ _ hq4
     refine ⟨pq,_,_,rfl,rfl,hq6,sz (by omega),?_⟩
     refine ⟨_,_,ws ++ [u6],rfl,(s3.trans (t4.trans s46)).updD hpq,Á,?_⟩
     rw [zN9,edl]
     have tu:=Ñ (o:=.lst (ws ++ [u6])) hq6 (fun _ z=>nomatch z)
     exact Paired.snoc (Paired.mapP hW fun _ _ f=>(f.same (t4.trans s46)).tup tu) (f6.tup tu)
   ·rintro σ H3 ⟨v6,v7,ws,rfl,s3,hq3,hW⟩
    rw [ā] at hW
    have s03:=s2.trans s3
    obtain ⟨vb,ev,fb⟩:=rb.has nm (b nm) (by unfold all; rw [if_pos hnm])
    have lW:ws.length = n:=hW.length.trans (Ω n _)
    have he3:=s3 _ _ he2
    have npq:pe ≠ pq:=Ç he2 hpq
    refine ⟨_,rfl,.inl ⟨rfl,_,SqL.of he3⟩,_,rfl,_,rfl,_,rfl,pa,vb,rfl,?_,sz (by simp),fun pl hpl=>?_⟩
    ·have g:=DGet.k (k:=.inr nm) (s03 _ _ hb)
     rw [ev] at g; exact g
    have t4:=Same.upd (o:=.lst [vb]) hpl
    refine ⟨pq,pl,_,_,rfl,rfl,t4 _ _ hq3,Á,sz (by simp; omega),fun pn hpn=>?_⟩
    have t5:=t4.trans (Same.upd (o:=.lst (ws ++ [vb])) hpn)
    have hpn3:=Á (H:=upd H3 pl (.lst [vb])) (a:=pn) (o:=.lst (ws ++ [vb]))
    have he5:=t5 _ _ he3
    have npe:pn ≠ pe:=fun e=>by have:=t4 _ _ he3; rw [e,this] at hpn; cases hpn
    generalize upd (upd H3 pl (.lst [vb])) pn (.lst (ws ++ [vb])) = H5 at *
    refine ⟨pe,_,_,rfl,rfl,he5,sz (by rw [ā]; omega),?_⟩
    have tu:=Ñ (o:=.lst (bs.map V.ref ++ [.ref pn])) he5 (fun _ z=>nomatch z)
    have s25:=s3.trans t5
    refine ⟨_,_,_,_,bs ++ [pn],rfl,(s2.trans s25).updD hpe0,?_,by rw [Á,ė]; rfl,by rw [Ĝ,lb]; rfl,fun j q e=>?_⟩
    ·have:pc ≠ pe:=Ç h1c hpe
     rw [upd_ne this]; exact s25 _ _ hc2
    rcases zL7 e with e | ⟨e1,rfl⟩
    ·obtain ⟨n1,l1⟩:=hB j q e
     exact ⟨n1,(l1.same s25).keep tu fun vs h=>by rw [upd_ne n1]; exact h⟩
    ·refine ⟨npe,ws ++ [vb],by rw [upd_ne npe]; exact hpn3,?_⟩
     rw [e1,lb,zN9]
     refine Paired.snoc (Paired.mapP hW fun _ _ f=>(f.same t5).tup tu) ?_
     have e2:eqM n c R b i n = b nm:=by unfold eqM; rw [if_neg (by omega),<- eni]
     rw [e2]
     exact (fb.same (s03.trans t5)).tup tu
  ·rintro σ H2 ⟨v4,v5,v6,v7,bs,rfl,s2,hc2,he2,lb,hB⟩
   rw [ā] at lb
   refine ⟨_,rfl,_,rfl,pe,n,d,e,eqM n c R b,rfl,⟨bs,he2,lb,fun j q h=>(hB j q h).2⟩,c5,xM7 hcN hCL G D0 E0' EW hcd Dd We,b1,b2,fun y h1 h2=>yZ3 hcN nC (G.sub nC nL hCL) hlk b h1 h2,fun ps H3 x hps s3 hx hsol hbd=>?_⟩
   obtain ⟨vs,hvs,hV⟩:=hx
   have lV:vs.length = C.length:=hV.length.trans (Ω _ _)
   refine ⟨pc,ps,C,vs,rfl,SqL.of (s3 _ _ hc2),SqL.of hvs,nC,lV,by omega,fun p hp=>?_⟩
   have t4:=Same.upd (o:=.dK (zipV C vs)) hp
   have s04:=s2.trans (s3.trans t4)
   have hsol':∀ i,i < C.length->sN C.length (fun j=>eqM C.length c R b i j * x j) = b (c i):=fun i hi=>by
    have:=hsol i hi
    rw [this]
    unfold eqM
    rw [if_neg (by show ¬ C.length < C.length; omega)]
   refine k p _ _ (fun z=>x (C.idxOf z)) (s2.free (s3.free hp)) s04 Á ((RowAt.zip nC hV).same fun v r f=>f.same t4) (zL0 lV) (xH4 hcN nC R b hsol') ?_
   obtain ⟨E2,W2,g1,g2,g3,g4⟩:=hbd
   exact ⟨E2,W2,g1,g2,g3,fun z hz=>g4 _ (List.idxOf_lt_length_of_mem hz)⟩
noncomputable abbrev zA3:Stmt:=top 29
theorem sc_closed_casks:Ì ["rows","leaking","name","shares","again"] ["rows"] (Å zA3):=scF
theorem zN4 {ca:Ca} (D:DefAt K mg "closed_casks" zA3) (T:Txt K mg ca) (G_sum_of:FnAt P w K mg base CX0 3 "sum_of" ["some"] (yB0 K)):FnAt P w K mg base CX0 4 "closed_casks" ["rows"] (zL2):=by
 refine D.ok sc_closed_casks (fun vs H Q E h=>?_) (fun _ _ _ _ _ _ us hl=>match us,hl with | [_],_=>rfl) (fun f cdv A outer s H vs Q E hr h=>?_)
 ·obtain ⟨pr,H0,rows,ad,C,L,R,Dn,rfl,hrw,TB,hC,nC,c5,nL,hCL,G,D0,DB,k⟩:=h; rfl
 ·obtain ⟨pr,H0,rows,ad,C,L,R,Dn,rfl,hrw,TB,hC,nC,c5,nL,hCL,G,D0,DB,k⟩:=h
  have nd:=sc_closed_casks.nd
  refine ⟨_,(Ã (Ê (i:=1) nd rfl (Or.inr rfl) ë)
   (Ã (Ŷ (ß PassesOwn.never rfl (Ÿ (Ū (K:=K) rfl PySem.F.plainAttrs_dict PySem.F.slot_dict_items PySem.F.type_dict_items Ź (pv 0))) (Θ rfl (Ò (È (i:=2) nd rfl (Or.inl rfl)) (Ò (È (i:=3) nd rfl (Or.inl rfl)) ÿ))) (Æ (ø (Õ (zG8 (K:=K) rfl hr) (pfn G_sum_of hr (À (ŭ (zP4 rfl) (by rfl) T.z_list γ (À (Ū (K:=K) rfl PySem.F.plainAttrs_dict PySem.F.slot_dict_values PySem.F.type_dict_values yQ6 (pv 3)) Â)) Â)) (Ü (À Ä (À Ä Â))) (Ù _)) (Æ (ç (â hr) (pv 1) (pv 2) Ξ rfl)) Þ))))
   (Ã (ß PassesOwn.never rfl (ŷ (by rfl) T.z_range (À (Ô zI7 (by rfl) T.z_len PySem.boot_len (À (pv 0) Â)) Â)) (È (i:=4) nd rfl (Or.inl rfl)) (Æ (Ŷ (ß PassesOwn.never rfl (Ÿ (Ū (K:=K) rfl PySem.F.plainAttrs_dict PySem.F.slot_dict_items PySem.F.type_dict_items Ź (pv 0))) (Θ rfl (Ò (È (i:=2) nd rfl (Or.inl rfl)) (Ò (È (i:=3) nd rfl (Or.inl rfl)) ÿ))) (Æ (ø (Α (Ô (yV0 (K:=K) rfl rfl) (by rfl) T.z_any xN7 (À (zR5 (Κ ["end"] ["leaking"] [1] rfl (by rfl) (Χ (pv 3)) (fun _ _ _ _=>(È (i:=0) (show List.Nodup (["end","leaking"]:List Str) from by decide) rfl (Or.inl rfl))) (fun _ _ _ _=>Η) (fun _ _ _ _=>(xK1 (xC0 (â hr) (pv 0) (pv 1)))))) Â))) (Æ (ç (â hr) (pv 1) (pv 2) Ξ rfl)) Þ))))))
   (Æ (Ï (Ô (zU5 (K:=K) rfl) (by rfl) T.z_sorted zI8 (À (zR5 (Κ ["name"] ["leaking"] [1] rfl (by rfl) (Χ (pv 0)) (fun _ _ _ _=>(È (i:=0) (show List.Nodup (["name","leaking"]:List Str) from by decide) rfl (Or.inl rfl))) (fun _ _ _ _=>(zN2 (yF1 (zN3 (â hr) (pv 0) (pv 1))))) (fun _ _ _ _=>(pv 0)))) Â))))))),?_⟩
  have hkeys:∀ kv ∈ rows,∃ z,kv.1 = .inr z:=fun kv h=>(let ⟨z,e,_⟩:=TB.keys kv h; ⟨z,e⟩)
  have lR:rows.length = C.length:=by rw [<- Ø,hC]
  intro p hp
  have tp:=Same.upd (o:=.dK []) hp
  have npr:p ≠ pr:=fun e=>by rw [e,hrw] at hp; cases hp
  have hr1:=tp _ _ hrw
  have hp1:=Á (H:=H) (a:=p) (o:=.dK [])
  have TB1:=TB.same tp
  generalize upd H p (.dK []) = H1 at *
  refine ⟨pr,_,hr1,rfl,?_⟩
  refine ⟨_,rfl,.inr (.inr (.inl ⟨rfl,.inl ⟨_,hr1⟩⟩)),pr,_,rfl,rfl,hr1,rfl,fun pv hpv=>?_⟩
  have tv:=Same.upd (o:=Λ pv pr) hpv
  refine ⟨pv,pr,_,rfl,Á,tv _ _ hr1,rfl,fun o qs hqs=>?_⟩
  have hqs:qs = rows.map fun kv=>(kV kv.1,kv.2):=hqs
  subst hqs
  have SB:=G.sub nC nL hCL
  have hadp:∀ z ∈ C,ad z ≠ p /\ ad z ≠ pr:=fun z hz=>by
   refine ⟨fun e=>?_,TB.apart z hz⟩
   obtain ⟨_,_,kv,c,_⟩:=TB.row z hz
   rw [e,hp] at c; cases c
  have adi:∀ {H2:Hp},(∀ c ob,H1 c = some ob->c ≠ p->c ≠ pr->H2 c = some ob)->∀ z ∈ C,∃ kvs,H2 (ad z) = some (.dK kvs) /\ RowAt H2 kvs (op (resC C R z)):=fun {H2} kp z hz=>by
   obtain ⟨_,_,kvs,c,rr⟩:=TB1.row z hz
   exact ⟨kvs,kp _ _ c (hadp z hz).1 (hadp z hz).2,rr.same fun v r g=>g.tup fun a xs e=>kp a _ e (ê e hp1 (by intro z; cases z)) (ê e hr1 (by intro z; cases z))⟩
  have keyat:∀ {i:Nat} {k' v:V},(rows.map fun kv=>(kV kv.1,kv.2))[i]? = some (k',v)->∃ z,k' = .str z /\ v = .ref (ad z) /\ z ∈ C /\ C[i]? = some z:=fun {i k' v} hk=>by
   rw [đ] at hk
   cases q:rows[i]? with
   | none=>rw [q] at hk; cases hk
   | some kvi =>
    rw [q] at hk
    obtain ⟨rfl,rfl⟩:=Prod.mk.inj (Option.some.inj hk)
    obtain ⟨z,hz,hzC⟩:=TB.keys kvi (ċ q)
    refine ⟨z,by rw [hz]; rfl,?_,hzC,?_⟩
    ·have:=Ŵ TB.nodup q
     rw [hz,(TB.row z hzC).1] at this
     exact (Option.some.inj this).symm
    ·rw [<- hC]
     unfold nms
     rw [đ,q]
     show some (nmz kvi.1) = _
     rw [hz]; rfl
  refine Ů (fun i σ H2=>∃ (v2 v3:Option V) (S:List Str),σ = [some (.ref pr),some (.ref p),v2,v3,none] /\ H2 pr = some (.frz o (.dK rows)) /\ (∀ c ob,H1 c = some ob->c ≠ p->c ≠ pr->H2 c = some ob) /\ H2 p = some (.dK (trK S)) /\ S.Nodup /\ ∀ x,x ∈ S ↔ x ∈ C.take i /\ sumL C (R x) ≠ 1) ?_ ?_ ?_ ?_
  ·refine ⟨none,none,[],rfl,Á,fun c ob e _ n=>by rw [upd_ne n]; exact tv _ _ e,by rw [upd_ne npr]; exact tv _ _ hp1,List.nodup_nil,fun x=>by simp⟩
  ·rintro i σ H2 ⟨_,_,_,_,h,_⟩
   exact h
  ·rintro i k' v T' σ H2 hk ⟨v2,v3,S,rfl,hfz,kp,h2,nS,mS⟩ hT
   obtain ⟨z,rfl,rfl,hzC,hiz⟩:=keyat hk
   have tT:=Same.upd (o:=.tup [.str z,.ref (ad z)]) hT
   refine ⟨T',_,rfl,SqT.of Á,rfl,_,_,rfl,_,_,rfl,rfl,?_⟩
   have kp3:∀ c ob,H1 c = some ob->c ≠ p->c ≠ pr->upd H2 T' (.tup [.str z,.ref (ad z)]) c = some ob:=fun c ob e n1 n2=>tT _ _ (kp c ob e n1 n2)
   have hfz3:=tT _ _ hfz
   have h3:=tT _ _ h2
   generalize upd H2 T' (.tup [.str z,.ref (ad z)]) = H3 at *
   obtain ⟨kvs,hrow,rr⟩:=adi kp3 z hzC
   have hpz:∀ y,IsM Dn 1 (resC C R z y):=fun y=>by
    unfold resC
    split
    ·exact G.part z (hCL z hzC) y
    ·exact IsM.zero _ _
   have lk:kvs.length <= 5:=by
    rw [<- Ø]
    refine č (Ú (L:=C) (ä rr.nodup rr.keys) fun y hy=>?_) c5
    have:=op_some.mp ((rr.iff y).mp hy)
    by_cases e:y ∈ C
    ·exact e
    ·unfold resC at this; rw [if_neg e] at this; exact absurd rfl this
   refine ⟨_,rfl,.inr (.inr (.inl ⟨rfl,.inl ⟨_,hrow⟩⟩)),ad z,_,rfl,rfl,hrow,rfl,fun pv2 hpv2=>?_⟩
   have tw:=Same.upd (o:=yH9 pv2 (ad z)) hpv2
   refine ⟨pv2,ad z,_,rfl,Á,tw _ _ hrow,rfl,fun qs hqs l hl=>?_⟩
   have hqs:qs = kvs.map fun kv=>(kV kv.1,kv.2):=hqs
   have eqs:qs.map (·.2) = kvs.map (·.2):=by rw [hqs,Ň]; rfl
   rw [eqs]
   have tl:=tw.trans (Same.upd (o:=.lst (kvs.map (·.2))) hl)
   refine ⟨l,kvs.map (·.2),(nms kvs).map (resC C R z),rfl,SqL.of Á,Paired.mapP rr.vals (fun _ _ g=>g.same tl),fun r hr=>?_,fun j hj=>?_,fun u4 H4 s4 f4=>?_⟩
   ·obtain ⟨y,_,rfl⟩:=ĕ.mp hr
    exact ((hpz y).bd (n:=2600) D0 (ą _) (by omega)).mono (by decide)
   ·rw [<- List.map_take]
    have:=(zQ7 hpz ((nms kvs).take j)).mono (j:=8) (by rw [ē,Ø]; omega)
    exact (this.bd D0 (by decide) DB).mono (by decide)
   have es:sumQ ((nms kvs).map (resC C R z)) = sumL C (R z):=by
    show sumL (nms kvs) (resC C R z) = _
    rw [yN7 nC rr (g:=resC C R z) fun y hy e=>by unfold resC; rw [if_pos hy]; exact e]
    exact Ý fun y hy=>by unfold resC; rw [if_pos hy]
   rw [es] at f4
   have s34:=tl.trans s4
   refine ⟨sz (by simp),fun p0 hp0=>?_⟩
   have t0:=Same.upd (o:=.tup [.int 1,.int 1]) hp0
   refine ⟨_,_,(f4.same t0).rep,θ (SqT.of Á),Β _ _,_,rfl,?_⟩
   rw [eq11]
   have s35:=s34.trans t0
   have hiN:=Û hiz
   have hzt:=zN8 nC hiz
   have hzS:z ∉ S:=fun h=>hzt ((mS z).mp h).1
   refine ite2 (fun h=>?_) (fun h=>?_)
   ·have h:sumL C (R z) ≠ 1:=fun e=>by rw [decide_eq_true e] at h; cases h
    have h5:=s35 _ _ h3
    have lS:S.length <= 5:=č (Ú nS fun y hy=>ĵ ((mS y).mp hy).1) c5
    refine ⟨_,rfl,_,rfl,p,_,rfl,DPut.k (k:=.inr z) h5 (sz (by rw [yL1]; omega)),?_⟩
    rw [yL0]
    refine ⟨_,_,putS S z,rfl,by rw [upd_ne npr.symm]; exact s35 _ _ hfz3,fun c ob e n1 n2=>by rw [upd_ne n1]; exact s35 _ _ (kp3 c ob e n1 n2),Á,yO3 nS,fun y=>?_⟩
    rw [mem_putS,mS,hiN,Ĥ,ě]
    constructor
    ·rintro (⟨h1,h2⟩ | rfl)
     ·exact ⟨.inl h1,h2⟩
     ·exact ⟨.inr rfl,h⟩
    ·rintro ⟨h1 | rfl,h2⟩
     ·exact .inl ⟨h1,h2⟩
     ·exact .inr rfl
   ·have h:sumL C (R z) = 1:=by
     by_cases e:sumL C (R z) = 1
     ·exact e
     ·exact absurd (by rw [decide_eq_false e]; rfl) h
    refine ⟨_,_,S,rfl,s35 _ _ hfz3,fun c ob e n1 n2=>s35 _ _ (kp3 c ob e n1 n2),s35 _ _ h3,nS,fun y=>?_⟩
    rw [mS,hiN,Ĥ,ě]
    constructor
    ·rintro ⟨h1,h2⟩
     exact ⟨.inl h1,h2⟩
    ·rintro ⟨h1 | rfl,h2⟩
     ·exact ⟨h1,h2⟩
     ·exact absurd h h2
  ·rintro σ H2 ⟨v2,v3,S,rfl,hfz,kp,h2,nS,mS⟩
   rw [ā,lR,Đ] at mS
   have lk0:LkS C R S:=⟨nS,fun x hx=>.now ((mS x).mp hx).1 ((mS x).mp hx).2,fun x hx hn=>(mS x).mpr ⟨hx,hn⟩⟩
   refine ⟨o,.dK rows,hfz,?_⟩
   have hr3:=Á (H:=H2) (a:=pr) (o:=.dK rows)
   have kp3:∀ c ob,H1 c = some ob->c ≠ p->c ≠ pr->upd H2 pr (.dK rows) c = some ob:=fun c ob e n1 n2=>by rw [upd_ne n2]; exact kp c ob e n1 n2
   have h3:upd H2 pr (.dK rows) p = some (.dK (trK S)):=by rw [upd_ne npr]; exact h2
   generalize upd H2 pr (.dK rows) = H3 at *
   refine ⟨_,rfl,pr,_,rfl,hr3,?_⟩
   refine ⟨_,rfl,by omega,by omega,?_⟩
   refine Ż (fun q σ H4=>∃ (v2 v3 v4:Option V) (S:List Str),σ = [some (.ref pr),some (.ref p),v2,v3,v4] /\ H4 pr = some (.dK rows) /\ (∀ c ob,H1 c = some ob->c ≠ p->c ≠ pr->H4 c = some ob) /\ H4 p = some (.dK (trK S)) /\ LkS C R S /\ (yA6 C R S \/ q <= S.length)) ⟨_,_,_,S,rfl,hr3,kp3,h3,lk0,.inr (Ī _)⟩ ?_ ?_
   ·rintro q σ H4 hq ⟨v2,v3,v4,S,rfl,hr4,kp4,h4,lkS,hfull⟩
    refine ⟨pr,_,hr4,rfl,?_⟩
    refine ⟨_,rfl,.inr (.inr (.inl ⟨rfl,.inl ⟨_,hr4⟩⟩)),pr,_,rfl,rfl,hr4,rfl,fun pv hpv=>?_⟩
    have tv:=Same.upd (o:=Λ pv pr) hpv
    refine ⟨pv,pr,_,rfl,Á,tv _ _ hr4,rfl,fun o qs hqs=>?_⟩
    have hqs:qs = rows.map fun kv=>(kV kv.1,kv.2):=hqs
    subst hqs
    refine Ů (fun i σ H5=>∃ (v2 v3:Option V) (S':List Str),σ = [some (.ref pr),some (.ref p),v2,v3,some (.int (0 + (q:Int)))] /\ H5 pr = some (.frz o (.dK rows)) /\ (∀ c ob,H1 c = some ob->c ≠ p->c ≠ pr->H5 c = some ob) /\ H5 p = some (.dK (trK S')) /\ LkS C R S' /\ Swp C R S i S') ?_ ?_ ?_ ?_
    ·exact ⟨_,_,S,rfl,Á,fun c ob e n1 n2=>by rw [upd_ne n2]; exact tv _ _ (kp4 c ob e n1 n2),by rw [upd_ne npr]; exact tv _ _ h4,lkS,Swp.start C R S⟩
    ·rintro i σ H5 ⟨_,_,_,_,h,_⟩
     exact h
    ·rintro i k' v T' σ H5 hk ⟨v2,v3,S',rfl,hfz,kp5,h5,lkS',sw⟩ hT
     obtain ⟨z,rfl,rfl,hzC,hiz⟩:=keyat hk
     have tT:=Same.upd (o:=.tup [.str z,.ref (ad z)]) hT
     refine ⟨T',_,rfl,SqT.of Á,rfl,_,_,rfl,_,_,rfl,rfl,?_⟩
     have kp6:∀ c ob,H1 c = some ob->c ≠ p->c ≠ pr->upd H5 T' (.tup [.str z,.ref (ad z)]) c = some ob:=fun c ob e n1 n2=>tT _ _ (kp5 c ob e n1 n2)
     have hfz6:=tT _ _ hfz
     have h6:=tT _ _ h5
     generalize upd H5 T' (.tup [.str z,.ref (ad z)]) = H6 at *
     obtain ⟨kvs,hrow,rr⟩:=adi kp6 z hzC
     refine ⟨ad z,_,hrow,rfl,?_⟩
     refine ⟨_,rfl,ad z,_,rfl,hrow,rfl,fun o2 qs2 hqs2=>fun Dq hDq=>?_⟩
     have hqs2:qs2 = kvs.map fun kv=>(kV kv.1,kv.2):=hqs2
     subst hqs2
     have nDa:Dq ≠ ad z:=fun e=>by rw [e,Á] at hDq; cases hDq
     have hD0:H6 Dq = none:=by rw [upd_ne nDa] at hDq; exact hDq
     have nap:=(hadp z hzC).1
     refine zK6 (fun j σ' H'=>∃ (v:Option V),σ' = [v,some (.ref p)] /\ H' (ad z) = some (.frz o2 (.dK kvs)) /\ (∀ c ob,H6 c = some ob->c ≠ ad z->H' c = some ob) /\ H' Dq = some (.lst (((nms (kvs.take j)).map fun y=>decide (y ∈ S')).map V.bl))) ⟨none,rfl,by rw [upd_ne nDa.symm,Á],fun c ob e n=>by rw [upd_ne (Ç e hD0),upd_ne n]; exact e,Á⟩ ?_ ?_ ?_
     ·rintro j σ' H' ⟨_,_,h,_⟩
      exact h
     ·rintro j k' w' σ' H' hk ⟨v,rfl,hfa,keep,hd⟩
      obtain ⟨kvi,hki,ek⟩:=Ο hk
      obtain ⟨y,r,hz,hg,fr,_,hnms⟩:=rr.at hki
      obtain ⟨rfl,rfl⟩:=Prod.mk.inj ek
      obtain ⟨k0,w0⟩:=kvi
      have hz:k0 = .inr y:=hz
      subst hz
      have lj:(nms (kvs.take j)).length <= 8:=by
       rw [Ø,ē]
       have:kvs.length <= 5:=by
        rw [<- Ø]
        refine č (Ú (L:=C) (ä rr.nodup rr.keys) fun y hy=>?_) c5
        have:=op_some.mp ((rr.iff y).mp hy)
        by_cases e:y ∈ C
        ·exact e
        ·unfold resC at this; rw [if_neg e] at this; exact absurd rfl this
       omega
      have hpH:=keep _ _ h6 nap.symm
      have eb:(valV (trK S') (.inr y)).isSome = decide (y ∈ S'):=by
       rw [zQ6]
       by_cases q:y ∈ S'
       ·rw [if_pos q,decide_eq_true q]; rfl
       ·rw [if_neg q,decide_eq_false q]; rfl
      refine ⟨_,rfl,_,rfl,p,_,rfl,DGet.k (k:=.inr y) hpH,?_⟩
      refine ⟨_,hd,sz (by rw [ā,ā]; omega),_,rfl,by rw [upd_ne (ê hfa hd (by intro z; cases z))]; exact hfa,fun c ob e n=>by rw [upd_ne (Ç e hD0)]; exact keep c ob e n,?_⟩
      rw [Á,hnms,ė,ė,eb]; rfl
     ·rintro σ' H' ⟨v,rfl,hfa,keep,hd⟩
      rw [ā,Đ] at hd
      refine ⟨o2,_,hfa,?_⟩
      have kp7:∀ c ob,H6 c = some ob->upd H' (ad z) (.dK kvs) c = some ob:=fun c ob e=>by
       by_cases q:c = ad z
       ·subst q; rw [hrow] at e; rw [Á]; exact e
       ·rw [upd_ne q]; exact keep c ob e q
      have hd2:upd H' (ad z) (.dK kvs) Dq = some (.lst (((nms kvs).map fun y=>decide (y ∈ S')).map V.bl)):=by rw [upd_ne nDa]; exact hd
      generalize upd H' (ad z) (.dK kvs) = H7 at *
      refine ⟨Dq,_,rfl,SqL.of hd2,_,rfl,?_⟩
      have hb:((nms kvs).map fun y=>decide (y ∈ S')).any id = true ↔ ∃ y ∈ S',R z y ≠ 0:=by
       rw [List.any_map,š]
       constructor
       ·rintro ⟨y,hy,h⟩
        have hyS:y ∈ S':=by simpa using h
        refine ⟨y,hyS,?_⟩
        have:=op_some.mp ((rr.iff y).mp hy)
        unfold resC at this
        rw [if_pos (lkS'.lk y hyS).mem] at this
        exact this
       ·rintro ⟨y,hy,h⟩
        refine ⟨y,(rr.iff y).mpr (op_some.mpr ?_),by simpa using hy⟩
        unfold resC
        rw [if_pos (lkS'.lk y hy).mem]; exact h
      have sw2:=sw.step hiz _ hb
      refine ite2 (fun h=>?_) (fun h=>?_)
      ·rw [if_pos h] at sw2
       obtain ⟨y,hy,hry⟩:=hb.mp h
       have lk2:=lkS'.put hzC hy hry
       have h7:=kp7 _ _ h6
       have lS:S'.length <= 5:=č (Ú lkS'.nd fun y hy=>(lkS'.lk y hy).mem) c5
       refine ⟨_,rfl,_,rfl,p,_,rfl,DPut.k (k:=.inr z) h7 (sz (by rw [yL1]; omega)),?_⟩
       rw [yL0]
       exact ⟨_,_,putS S' z,rfl,by rw [upd_ne npr.symm]; exact kp7 _ _ hfz6,fun c ob e n1 n2=>by rw [upd_ne n1]; exact kp7 _ _ (kp6 c ob e n1 n2),Á,lk2,sw2⟩
      ·rw [if_neg h] at sw2
       exact ⟨_,_,S',rfl,kp7 _ _ hfz6,fun c ob e n1 n2=>kp7 _ _ (kp6 c ob e n1 n2),kp7 _ _ h6,lkS',sw2⟩
    ·rintro σ H5 ⟨v2,v3,S',rfl,hfz,kp5,h5,lkS',sw⟩
     rw [ā,lR] at sw
     refine ⟨o,.dK rows,hfz,?_⟩
     exact ⟨_,_,_,S',rfl,Á,fun c ob e n1 n2=>by rw [upd_ne n2]; exact kp5 c ob e n1 n2,by rw [upd_ne npr]; exact h5,lkS',sw.stop lkS' hfull⟩
   ·rintro σ H4 ⟨v2,v3,v4,S,rfl,hr4,kp4,h4,lkS,hfull⟩
    have hfull:yA6 C R S:=by
     rcases hfull with h | h
     ·exact h
     ·have h:((rows.length:Nat):Int).toNat <= S.length:=h
      exact lkS.full (by rw [<- lR]; simpa using h)
    refine ⟨pr,_,hr4,rfl,?_⟩
    refine ⟨_,rfl,pr,_,rfl,hr4,rfl,fun o2 qs2 hqs2=>fun Dq hDq=>?_⟩
    have hqs2:qs2 = rows.map fun kv=>(kV kv.1,kv.2):=hqs2
    subst hqs2
    have nDa:Dq ≠ pr:=fun e=>by rw [e,Á] at hDq; cases hDq
    have hD0:H4 Dq = none:=by rw [upd_ne nDa] at hDq; exact hDq
    refine zK6 (fun j σ' H'=>∃ (v:Option V),σ' = [v,some (.ref p)] /\ H' pr = some (.frz o2 (.dK rows)) /\ (∀ c ob,H4 c = some ob->c ≠ pr->H' c = some ob) /\ H' Dq = some (.lst (((C.take j).filter fun y=>!decide (y ∈ S)).map V.str))) ⟨none,rfl,by rw [upd_ne nDa.symm,Á],fun c ob e n=>by rw [upd_ne (Ç e hD0),upd_ne n]; exact e,Á⟩ ?_ ?_ ?_
    ·rintro j σ' H' ⟨_,_,h,_⟩
     exact h
    ·rintro j k' w' σ' H' hk ⟨v,rfl,hfa,keep,hd⟩
     obtain ⟨z,rfl,rfl,hzC,hiz⟩:=keyat hk
     have hpH:=keep _ _ h4 npr
     have eb:(!(valV (trK S) (.inr z)).isSome) = !decide (z ∈ S):=by
      rw [zQ6]
      by_cases q:z ∈ S
      ·rw [if_pos q,decide_eq_true q]; rfl
      ·rw [if_neg q,decide_eq_false q]; rfl
     have et:=Û hiz
     have lf:((C.take j).filter fun y=>!decide (y ∈ S)).length <= 8:=by
      refine č (Į _ _) ?_
      rw [ē]; omega
     refine ⟨_,rfl,_,rfl,p,_,rfl,DGet.k (k:=.inr z) hpH,_,rfl,?_⟩
     rw [eb]
     refine ite2 (fun h=>?_) (fun h=>?_)
     ·refine ⟨_,rfl,_,hd,sz (by rw [ā]; omega),_,rfl,by rw [upd_ne (ê hfa hd (by intro z; cases z))]; exact hfa,fun c ob e n=>by rw [upd_ne (Ç e hD0)]; exact keep c ob e n,?_⟩
      rw [Á,et,Ĭ,ė]
      simp only [Ŗ,List.filter_nil,if_pos h]
      rfl
     ·refine ⟨_,rfl,hfa,keep,?_⟩
      rw [hd,et,Ĭ]
      simp only [Ŗ,List.filter_nil,if_neg h,List.append_nil]
    ·rintro σ' H' ⟨v,rfl,hfa,keep,hd⟩
     rw [ā,lR,Đ] at hd
     refine ⟨o2,_,hfa,?_⟩
     have hd2:upd H' pr (.dK rows) Dq = some (.lst ((C.filter fun y=>!decide (y ∈ S)).map V.str)):=by rw [upd_ne nDa]; exact hd
     have lf:(C.filter fun y=>!decide (y ∈ S)).length <= 8:=by
      refine č (Į _ _) ?_
      omega
     have hS0:Same H (upd H' pr (.dK rows)):=fun c ob e=>by
      have ncp:c ≠ p:=Ç e hp
      by_cases q:c = pr
      ·subst q; rw [hrw] at e; rw [Á]; exact e
      ·rw [upd_ne q]
       exact keep c ob (kp4 c ob (tp c ob e) ncp q) q
     refine ⟨Dq,_,rfl,SqL.of hd2,by omega,fun ss' hpm hst l hl=>?_⟩
     refine k l _ ss' (hS0.free hl) (hS0.trans (Same.upd hl)) Á (hpm.nodup_iff.mpr (nC.filter _)) (fun x=>?_) hst
     rw [hpm.mem_iff,ġ]
     constructor
     ·rintro ⟨h1,h2⟩
      refine ⟨h1,fun hl=>?_⟩
      rw [decide_eq_true (hfull x hl)] at h2; cases h2
     ·rintro ⟨h1,h2⟩
      refine ⟨h1,?_⟩
      rw [decide_eq_false fun h=>h2 (lkS.lk x h)]; rfl
noncomputable abbrev zD4:Stmt:=top 30
theorem sc_nearness:Ì ["rows","staying","name","k","share","after","shares","part"] ["rows"] (Å zD4):=scF
theorem yB5 {ca:Ca} (D:DefAt K mg "nearness" zD4) (T:Txt K mg ca) (G_sum_of:FnAt P w K mg base CX0 3 "sum_of" ["some"] (yB0 K)) (G_times:FnAt P w K mg base CX0 2 "times" ["one","other"] (spTimes)) (G_under:FnAt P w K mg base CX0 1 "under" ["one","other"] (yL7)):FnAt P w K mg base CX0 4 "nearness" ["rows"] (xB0):=by
 refine D.ok sc_nearness (fun vs H Q E h=>?_) (fun _ _ _ _ _ _ us hl=>match us,hl with | [_],_=>rfl) (fun f cdv A outer s H vs Q E hr h=>?_)
 ·obtain ⟨pr,H0,rows,ad,C,L,R,Dn,rfl,hrw,TB,hC,nC,ne,c5,nL,hCL,G,D0,DB,hlk,k⟩:=h; rfl
 ·obtain ⟨pr,H0,rows,ad,C,L,R,Dn,rfl,hrw,TB,hC,nC,ne,c5,nL,hCL,G,D0,DB,hlk,k⟩:=h
  have nd:=sc_nearness.nd
  refine ⟨_,(Ã (Ê (i:=1) nd rfl (Or.inr rfl) ë)
   (Ã (Ŷ (ß PassesOwn.never rfl (Χ (pv 0)) (È (i:=2) nd rfl (Or.inl rfl)) (Æ (ç (â hr) (pv 1) (pv 2) (Ü (À Ä (À Ä Â))) rfl))))
   (Ã (Ê (i:=3) nd rfl (Or.inl rfl) Ä)
   (Ã (Ê (i:=4) nd rfl (Or.inl rfl) (Ü (À Ä (À Ä Â))))
   (Ã (zL4 PassesOwn.never (Õ (Τ (K:=K) rfl hr) (pv 4) (Ü (À Ä (À Ä Â))) (Ù _)) (Ã (Ê (i:=5) nd rfl (Or.inl rfl) ë)
   (Ã (Ŷ (ß PassesOwn.never rfl (Ÿ (Ū (K:=K) rfl PySem.F.plainAttrs_dict PySem.F.slot_dict_items PySem.F.type_dict_items Ź (pv 0))) (Θ rfl (Ò (È (i:=2) nd rfl (Or.inl rfl)) (Ò (È (i:=6) nd rfl (Or.inl rfl)) ÿ))) (Æ (ç (â hr) (pv 5) (pv 2) (pfn G_sum_of hr (À (zR5 (Κ ["end","part"] ["staying"] [1] rfl (by rfl) (Ÿ (Ū (K:=K) rfl PySem.F.plainAttrs_dict PySem.F.slot_dict_items PySem.F.type_dict_items Ź (pv 6))) (fun _ _ _ _=>(yP1 (K:=K) (n:=2) (by rfl) (by rfl) (Ò (È (i:=0) (show List.Nodup (["end","part","staying"]:List Str) from by decide) rfl (Or.inl rfl) (hf:=Or.inr (by rfl))) (Ò (È (i:=1) (show List.Nodup (["end","part","staying"]:List Str) from by decide) rfl (Or.inl rfl) (hf:=Or.inr (by rfl))) ÿ)))) (fun _ _ _ _=>Η) (fun _ _ _ _=>(pfn G_times hr (À (pv 1) (À (å (â hr) (pv 2) (pv 0) (fun _ _=>rfl)) Â)))))) Â)) rfl))))
   (Ã (Ê (i:=1) nd rfl (Or.inr rfl) (pv 5))
   (Ã (xB6 (i:=3) nd rfl (Or.inl rfl) Ä xC8)
   (Ã (Ê (i:=4) nd rfl (Or.inl rfl) (Ü (À Ä (À Ä Â))))
   (Æ (Ŷ (ß PassesOwn.never rfl (xE9 (Ū (K:=K) rfl PySem.F.plainAttrs_dict PySem.F.slot_dict_values PySem.F.type_dict_values yQ6 (pv 1))) (È (i:=7) nd rfl (Or.inl rfl)) (Æ (Ê (i:=4) nd rfl (Or.inl rfl) (zR6 (Α (pfn G_under hr (À (pv 4) (À (pv 7) Â)))) (pv 7) (pv 4)))))))))))))
   (Æ (Ï (Ü (À (pv 3) (À (pv 4) Â)))))))))),?_⟩
  have hkeys:∀ kv ∈ rows,∃ z,kv.1 = .inr z:=fun kv h=>(let ⟨z,e,_⟩:=TB.keys kv h; ⟨z,e⟩)
  have lR:rows.length = C.length:=by rw [<- Ø,hC]
  have SB:=G.sub nC nL hCL
  have hD5:∀ q,q <= 5->Dn ^ q <= 2 ^ 2500:=fun q hq=>by
   have h1:Dn ^ q <= (2 ^ 500) ^ q:=Nat.pow_le_pow_left DB q
   rw [<- Nat.pow_mul] at h1
   exact č h1 (ĥ (by decide) (by omega))
  have stB:∀ q,q <= 5->∀ x ∈ C,Bd 8000 (stay C R q x):=fun q hq x hx=>by
   refine ((zQ9 G nC nL hCL q x hx).bd (n:=2501) (Nat.pow_pos D0) (ą _) ?_).mono (by decide)
   rw [Ř]
   exact Ę (hD5 q hq) (ł (by decide) (by decide))
  have keyat:∀ {i:Nat} {k' v:V},(rows.map fun kv=>(kV kv.1,kv.2))[i]? = some (k',v)->∃ z,k' = .str z /\ v = .ref (ad z) /\ z ∈ C /\ C[i]? = some z:=fun {i k' v} hk=>by
   rw [đ] at hk
   cases q:rows[i]? with
   | none=>rw [q] at hk; cases hk
   | some kvi =>
    rw [q] at hk
    obtain ⟨rfl,rfl⟩:=Prod.mk.inj (Option.some.inj hk)
    obtain ⟨z,hz,hzC⟩:=TB.keys kvi (ċ q)
    refine ⟨z,by rw [hz]; rfl,?_,hzC,?_⟩
    ·have:=Ŵ TB.nodup q
     rw [hz,(TB.row z hzC).1] at this
     exact (Option.some.inj this).symm
    ·rw [<- hC]
     unfold nms
     rw [đ,q]
     show some (nmz kvi.1) = _
     rw [hz]; rfl
  intro p hp
  have tp:=Same.upd (o:=.dK []) hp
  have npr:p ≠ pr:=fun e=>by rw [e,hrw] at hp; cases hp
  have hr1:=tp _ _ hrw
  have hp1:=Á (H:=H) (a:=p) (o:=.dK [])
  generalize upd H p (.dK []) = H1 at *
  refine ⟨pr,_,hr1,rfl,?_⟩
  refine ⟨_,rfl,pr,_,rfl,hr1,rfl,fun o qs hqs=>?_⟩
  have hqs:qs = rows.map fun kv=>(kV kv.1,kv.2):=hqs
  subst hqs
  have mono1:∀ {H2:Hp},(∀ c ob,H1 c = some ob->c ≠ p->c ≠ pr->H2 c = some ob)->H2 pr = some (.dK rows)->Same H H2:=fun {H2} kp h c ob e=>by
   have ncp:c ≠ p:=Ç e hp
   by_cases q:c = pr
   ·subst q; rw [hrw] at e; cases e; exact h
   ·exact kp c ob (tp c ob e) ncp q
  refine zI4 (fun i σ H2=>∃ (v2:Option V) (kv:List (Key × V)),σ = [some (.ref pr),some (.ref p),v2,none,none,none,none,none] /\ H2 pr = some (.frz o (.dK rows)) /\ (∀ c ob,H1 c = some ob->c ≠ p->c ≠ pr->H2 c = some ob) /\ H2 p = some (.dK kv) /\ RowAt H2 kv (all (C.take i) (stay C R 0)) /\ nms kv = C.take i) ?_ ?_ ?_ ?_
  ·refine ⟨none,[],rfl,Á,fun c ob e _ n=>by rw [upd_ne n]; exact e,by rw [upd_ne npr]; exact hp1,?_,rfl⟩
   rw [œ,δ]; exact RowAt.nil _
  ·rintro i σ H2 ⟨_,_,_,h,_⟩
   exact h
  ·rintro i k' v σ H2 hk ⟨v2,kv,rfl,hfz,kp,h2,row,hn⟩
   obtain ⟨z,rfl,rfl,hzC,hiz⟩:=keyat hk
   have hil:i < C.length:=(Ą.mp hiz).1
   have lk:kv.length <= 8:=by rw [<- Ø,hn,ē]; omega
   refine ⟨sz (by simp),fun p1 hp1'=>?_⟩
   have t3:=Same.upd (o:=.tup [.int 1,.int 1]) hp1'
   have f0:=FrV.newOf (H:=H2) (p:=p1) (t:=1) (b:=1) (r:=1) rfl rfl
   have row3:=row.same fun v r f=>f.same t3
   have h3:=t3 _ _ h2
   have hfz3:=t3 _ _ hfz
   have kp3:∀ c ob,H1 c = some ob->c ≠ p->c ≠ pr->upd H2 p1 (.tup [.int 1,.int 1]) c = some ob:=fun c ob e n1 n2=>t3 _ _ (kp c ob e n1 n2)
   generalize upd H2 p1 (.tup [.int 1,.int 1]) = H3 at *
   refine ⟨_,rfl,_,rfl,p,_,rfl,DPut.k (k:=.inr z) h3 (sz (by omega)),?_⟩
   have tu:=Ñ (o:=.dK (putK kv (.inr z) (.ref p1))) h3 (fun _ z=>nomatch z)
   have et:=Û hiz
   refine ⟨_,putK kv (.inr z) (.ref p1),rfl,by rw [upd_ne npr.symm]; exact hfz3,fun c ob e n1 n2=>by rw [upd_ne n1]; exact kp3 c ob e n1 n2,Á,?_,?_⟩
   ·rw [et,Γ]
    exact (row3.put (z:=z) f0).same fun v r g=>g.tup tu
   ·rw [zN7 z _ row.keys,hn,et,zL3 (zN8 nC hiz)]
  rintro σ H2 ⟨v2,kv,rfl,hfz,kp,h2,row,hn⟩
  rw [ā,lR,Đ] at row hn
  refine ⟨o,.dK rows,hfz,?_⟩
  have hr3:=Á (H:=H2) (a:=pr) (o:=.dK rows)
  have h3:upd H2 pr (.dK rows) p = some (.dK kv):=by rw [upd_ne npr]; exact h2
  have s3:Same H (upd H2 pr (.dK rows)):=mono1 (fun c ob e n1 n2=>by rw [upd_ne n2]; exact kp c ob e n1 n2) hr3
  have row3:=row.same fun v r g=>g.tup (Ñ (o:=.dK rows) hfz (fun _ z=>nomatch z))
  generalize upd H2 pr (.dK rows) = H3 at *
  refine ⟨sz (by simp),fun p0 hp0=>?_⟩
  have t4:=Same.upd (o:=.tup [.int 1,.int 1]) hp0
  have f0:=FrV.newOf (H:=H3) (p:=p0) (t:=1) (b:=1) (r:=1) rfl rfl
  have row4:=row3.same fun v r g=>g.same t4
  have h4:=t4 _ _ h3
  have s4:=s3.trans t4
  generalize upd H3 p0 (.tup [.int 1,.int 1]) = H4 at *
  obtain ⟨x0,hx0⟩:∃ x,x ∈ C:=by
   cases e:C with
   | nil=>exact absurd e ne
   | cons a l=>exact ⟨a,ă⟩
  refine zL1 (fun σ H2=>∃ (q:Nat) (pa:Addr) (kv:List (Key × V)) (f:V) (r:Rat) (v2 v5 v6 v7:Option V),σ = [some (.ref pr),some (.ref pa),v2,some (.int (q:Nat)),some f,v5,v6,v7] /\ Same H H2 /\ H pa = none /\ H2 pa = some (.dK kv) /\ RowAt H2 kv (all C (stay C R q)) /\ nms kv = C /\ FrV H2 f r /\ q <= C.length /\ (∀ x ∈ C,stay C R q x <= r) /\ (∃ x ∈ C,stay C R q x = r) /\ ∀ j,j < q->∃ x ∈ C,stay C R j x = 1)
   (fun σ _=>match σ with | [_,_,_,some (.int q),_,_,_,_]=>C.length - q.toNat | _=>0) ⟨0,p,kv,.ref p0,1,_,_,_,_,rfl,s4,hp,h4,row4,hn,f0,Ī _,(fun x _=>ŏ),⟨x0,hx0,rfl⟩,fun j hj=>absurd hj (Nat.not_lt_zero _)⟩ ?_ ?_
  ·rintro σ H2 ⟨q,pa,kv,f,r,v2,v5,v6,v7,rfl,s2,hpa,h2,row,hn,fr,hq,hle,hex,hall⟩
   refine ⟨_,rfl,sz (by simp),fun p1 hp1'=>?_⟩
   have t1:=Same.upd (o:=.tup [.int 1,.int 1]) hp1'
   refine ⟨_,_,(fr.same t1).rep,θ (SqT.of Á),Β _ _,_,rfl,?_⟩
   rw [eq11]
   have s21:=s2.trans t1
   have h21:=t1 _ _ h2
   have row1:=row.same fun v r g=>g.same t1
   have fr1:=fr.same t1
   generalize upd H2 p1 (.tup [.int 1,.int 1]) = H5 at *
   refine ite2 (fun h=>?_) (fun h=>?_)
   ·have h:r = 1:=of_decide_eq_true h
    subst h
    have hqC:q < C.length:=by
     obtain ⟨x,hx,e⟩:=hex
     by_cases u:q < C.length
     ·exact u
     ·have:=xE2 SB nC hlk (k:=q) (by omega) hx
      rw [e] at this
      exact absurd this (by decide)
    have hq5:q + 1 <= 5:=by omega
    intro pb hpb
    have tb:=Same.upd (o:=.dK []) hpb
    have hb6:=Á (H:=H5) (a:=pb) (o:=.dK [])
    have s6:=s21.trans tb
    have h6:=tb _ _ h21
    have row6:=row1.same fun v r g=>g.same tb
    have hpb0:=s21.free hpb
    have nab:pa ≠ pb:=Ç h21 hpb
    generalize upd H5 pb (.dK []) = H6 at *
    have hr6:=s6 _ _ hrw
    have nbr:pb ≠ pr:=fun e=>by rw [e,hrw] at hpb0; cases hpb0
    have nar:pa ≠ pr:=fun e=>by rw [e,hrw] at hpa; cases hpa
    have TB6:=TB.same s6
    refine ⟨pr,_,hr6,rfl,?_⟩
    refine ⟨_,rfl,.inr (.inr (.inl ⟨rfl,.inl ⟨_,hr6⟩⟩)),pr,_,rfl,rfl,hr6,rfl,fun pv hpv=>?_⟩
    have tv:=Same.upd (o:=Λ pv pr) hpv
    refine ⟨pv,pr,_,rfl,Á,tv _ _ hr6,rfl,fun o qs hqs=>?_⟩
    have hqs:qs = rows.map fun kv=>(kV kv.1,kv.2):=hqs
    subst hqs
    have hadp:∀ z ∈ C,ad z ≠ pb /\ ad z ≠ pr:=fun z hz=>by
     refine ⟨fun e=>?_,TB.apart z hz⟩
     obtain ⟨_,_,kv,c,_⟩:=TB.row z hz
     rw [e,hpb0] at c; cases c
    refine Ů (fun i σ H7=>∃ (v2 v6:Option V) (kva:List (Key × V)),σ = [some (.ref pr),some (.ref pa),v2,some (.int (q:Nat)),some f,some (.ref pb),v6,v7] /\ H7 pr = some (.frz o (.dK rows)) /\ (∀ c ob,H6 c = some ob->c ≠ pb->c ≠ pr->H7 c = some ob) /\ H7 pb = some (.dK kva) /\ RowAt H7 kva (all (C.take i) (stay C R (q + 1))) /\ nms kva = C.take i) ?_ ?_ ?_ ?_
    ·refine ⟨_,_,[],rfl,Á,fun c ob e _ n=>by rw [upd_ne n]; exact tv _ _ e,by rw [upd_ne nbr]; exact tv _ _ hb6,?_,rfl⟩
     rw [œ,δ]; exact RowAt.nil _
    ·rintro i σ H7 ⟨_,_,_,_,h,_⟩
     exact h
    ·rintro i k' v T' σ H7 hk ⟨v2,v6,kva,rfl,hfz,kp,h7,row7,hn7⟩ hT
     obtain ⟨z,rfl,rfl,hzC,hiz⟩:=keyat hk
     have hil:i < C.length:=(Ą.mp hiz).1
     have tT:=Same.upd (o:=.tup [.str z,.ref (ad z)]) hT
     refine ⟨T',_,rfl,SqT.of Á,rfl,_,_,rfl,_,_,rfl,rfl,?_⟩
     have kp8:∀ c ob,H6 c = some ob->c ≠ pb->c ≠ pr->upd H7 T' (.tup [.str z,.ref (ad z)]) c = some ob:=fun c ob e n1 n2=>tT _ _ (kp c ob e n1 n2)
     have hfz8:=tT _ _ hfz
     have h8:=tT _ _ h7
     have row8:=row7.same fun v r g=>g.same tT
     generalize upd H7 T' (.tup [.str z,.ref (ad z)]) = H8 at *
     have kT:∀ c m,H6 c = some (.tup m)->H8 c = some (.tup m):=fun c m e=>kp8 c _ e (ê e hb6 (by intro z; cases z)) (ê e hr6 (by intro z; cases z))
     obtain ⟨_,_,kvs,hrow6,rr6⟩:=TB6.row z hzC
     have hrow:=kp8 _ _ hrow6 (hadp z hzC).1 (hadp z hzC).2
     have rr:=rr6.same fun v r g=>g.tup kT
     have hst8:=kp8 _ _ h6 nab nar
     have rst8:=row6.same fun v r g=>g.tup kT
     let gz:Str->Rat:=fun y=>if y ∈ C then R z y * stay C R q y else 0
     have gI:∀ y,IsM (Dn ^ (q + 1)) 1 (gz y):=fun y=>by
      show IsM _ _ (if y ∈ C then _ else _)
      split
      ·rename_i hy
       have:=(G.part z (hCL z hzC) y).mul (zQ9 G nC nL hCL q y hy)
       rw [ļ,<- į] at this
       exact this
      ·exact IsM.zero _ _
     have nsub:∀ y ∈ nms kvs,y ∈ C:=fun y hy=>by
      have:=op_some.mp ((rr.iff y).mp hy)
      by_cases e:y ∈ C
      ·exact e
      ·unfold resC at this; rw [if_neg e] at this; exact absurd rfl this
     have lkv:kvs.length <= 5:=by
      rw [<- Ø]
      exact č (Ú (L:=C) (ä rr.nodup rr.keys) nsub) c5
     refine ⟨ad z,_,hrow,rfl,?_⟩
     refine ⟨_,rfl,.inr (.inr (.inl ⟨rfl,.inl ⟨_,hrow⟩⟩)),ad z,_,rfl,rfl,hrow,rfl,fun pw hpw=>?_⟩
     have tw:=Same.upd (o:=Λ pw (ad z)) hpw
     refine ⟨pw,ad z,_,rfl,Á,tw _ _ hrow,rfl,fun o2 qs2 hqs2=>fun Dq hDq=>?_⟩
     have hqs2:qs2 = kvs.map fun kv=>(kV kv.1,kv.2):=hqs2
     subst hqs2
     have nDa:Dq ≠ ad z:=fun e=>by rw [e,Á] at hDq; cases hDq
     have hD9:upd H8 pw (Λ pw (ad z)) Dq = none:=by rw [upd_ne nDa] at hDq; exact hDq
     have hD0:H8 Dq = none:=tw.free hD9
     refine yD2 (fun j σ' H'=>∃ (v0 v1:Option V) (ws:List V),σ' = [v0,v1,some (.ref pa)] /\ H' (ad z) = some (.frz o2 (.dK kvs)) /\ (∀ c ob,H8 c = some ob->c ≠ ad z->H' c = some ob) /\ H' Dq = some (.lst ws) /\ Paired (FrV H') ws ((nms (kvs.take j)).map gz)) ⟨none,none,[],rfl,by rw [upd_ne nDa.symm,Á],fun c ob e n=>by rw [upd_ne (Ç e hD0),upd_ne n]; exact tw _ _ e,Á,.nil⟩ ?_ ?_ ?_
     ·rintro j σ' H' ⟨_,_,_,_,h,_⟩
      exact h
     ·rintro j k' w' T2 σ' H' hk ⟨v0,v1,ws,rfl,hfa,keep,hd,hW⟩ hT2
      obtain ⟨kvi,hki,ek⟩:=Ο hk
      obtain ⟨y,r,hz,hg,fy,_,hnms⟩:=rr.at hki
      obtain ⟨rfl,rfl⟩:=Prod.mk.inj ek
      obtain ⟨k0,w0⟩:=kvi
      have hz:k0 = .inr y:=hz
      subst hz
      have hyC:y ∈ C:=by
       by_cases e:y ∈ C
       ·exact e
       ·have:=(yI9 hg).1
        unfold resC at this
        rw [if_neg e] at this
        exact absurd this.symm (yI9 hg).2
      have er:R z y = r:=by
       have:=(yI9 hg).1
       unfold resC at this
       rw [if_pos hyC] at this; exact this
      have kT2:∀ c m,H8 c = some (.tup m)->H' c = some (.tup m):=fun c m e=>keep c _ e (ê e hrow (by intro z; cases z))
      have tT2:=Same.upd (o:=.tup [V.str y,w0]) hT2
      have lj:ws.length <= 8:=by rw [hW.length,ā,Ø,ē]; omega
      have nst:pa ≠ ad z:=fun e=>by
       obtain ⟨_,_,kv,c,_⟩:=TB.row z hzC
       rw [<- e,hpa] at c; cases c
      have hst:=keep _ _ hst8 nst
      obtain ⟨wv,ew,fw⟩:=(rst8.same fun v r g=>g.tup kT2).has y (stay C R q y) (by unfold all; rw [if_pos hyC])
      refine ⟨T2,_,rfl,SqT.of Á,rfl,_,_,rfl,_,_,rfl,rfl,?_⟩
      have bR:Bd 8000 (R z y):=by
       refine ((G.part z (hCL z hzC) y).bd (n:=501) D0 (ą _) ?_).mono (by decide)
       rw [Ř]
       exact Ę DB (ł (by decide) (by decide))
      refine ⟨_,rfl,_,rfl,_,rfl,pa,wv,rfl,?_,spTimes.of (E:=E0) rfl ((fy.tup kT2).same tT2) (fw.same tT2) (by rw [<- er]; exact bR) (stB q (by omega) y hyC) fun u3 H3' s3' f3=>?_⟩
      ·have g:=DGet.k (k:=.inr y) (tT2 _ _ hst)
       rw [ew] at g; exact g
      have s23:=tT2.trans s3'
      have hd3:=s23 _ _ hd
      have hfa3:=s23 _ _ hfa
      refine ⟨_,hd3,sz (by omega),_,_,ws ++ [u3],rfl,by rw [upd_ne (ê hfa3 hd3 (by intro z; cases z))]; exact hfa3,fun c ob e n=>by rw [upd_ne (Ç e hD0)]; exact s23 _ _ (keep c ob e n),Á,?_⟩
      rw [hnms,ė]
      have tu:=Ñ (o:=.lst (ws ++ [u3])) hd3 (fun _ z=>nomatch z)
      refine Paired.snoc (Paired.mapP hW fun _ _ f=>(f.same s23).tup tu) ?_
      have eg:gz y = r * stay C R q y:=by show (if y ∈ C then _ else _) = _; rw [if_pos hyC,er]
      rw [eg]; exact f3.tup tu
     ·rintro σ' H' ⟨v0,v1,ws,rfl,hfa,keep,hd,hW⟩
      rw [ā,Đ] at hW
      refine ⟨o2,_,hfa,?_⟩
      have kp9:∀ c ob,H8 c = some ob->upd H' (ad z) (.dK kvs) c = some ob:=fun c ob e=>by
       by_cases u:c = ad z
       ·subst u; rw [hrow] at e; rw [Á]; exact e
       ·rw [upd_ne u]; exact keep c ob e u
      have hd2:upd H' (ad z) (.dK kvs) Dq = some (.lst ws):=by rw [upd_ne nDa]; exact hd
      have hW2:=Paired.mapP hW fun _ _ (g:FrV H' _ _)=>g.tup (Ñ (o:=.dK kvs) hfa (fun _ z=>nomatch z))
      generalize upd H' (ad z) (.dK kvs) = H9 at *
      have gB:∀ y,Bd 8000 (gz y):=fun y=>by
       refine ((gI y).bd (n:=2501) (Nat.pow_pos D0) (ą _) ?_).mono (by decide)
       rw [Ř]
       exact Ę (hD5 _ hq5) (ł (by decide) (by decide))
      refine ⟨Dq,ws,(nms kvs).map gz,rfl,SqL.of hd2,hW2,fun r hr=>?_,fun j hj=>?_,fun u4 H10 s10 f10=>?_⟩
      ·obtain ⟨y,_,rfl⟩:=ĕ.mp hr
       exact gB y
      ·rw [<- List.map_take]
       have:=(zQ7 gI ((nms kvs).take j)).mono (j:=8) (by rw [ē,Ø]; omega)
       refine (this.bd (n:=2510) (Nat.pow_pos D0) (by decide) ?_).mono (by decide)
       have h1:8 * Dn ^ (q + 1) <= 2 ^ 3 * 2 ^ 2500:=ğ (by decide) (hD5 _ hq5)
       rw [<- ī] at h1
       exact Ę h1 (ł (by decide) (by decide))
      have es:sumQ ((nms kvs).map gz) = stay C R (q + 1) z:=by
       show sumL (nms kvs) gz = sumL C _
       rw [yN7 nC rr (g:=gz) fun y hy e=>by show (if y ∈ C then _ else _) = _; rw [if_pos hy,e,ō]]
       exact Ý fun y hy=>by show (if y ∈ C then _ else _) = _; rw [if_pos hy]
      rw [es] at f10
      have h10:=s10 _ _ (kp9 _ _ h8)
      have lka:kva.length <= 8:=by rw [<- Ø,hn7,ē]; omega
      refine ⟨_,rfl,_,rfl,pb,_,rfl,DPut.k (k:=.inr z) h10 (sz (by omega)),?_⟩
      have tu:=Ñ (o:=.dK (putK kva (.inr z) u4)) h10 (fun _ z=>nomatch z)
      have et:=Û hiz
      refine ⟨_,_,putK kva (.inr z) u4,rfl,by rw [upd_ne nbr.symm]; exact s10 _ _ (kp9 _ _ hfz8),fun c ob e n1 n2=>by rw [upd_ne n1]; exact s10 _ _ (kp9 _ _ (kp8 c ob e n1 n2)),Á,?_,?_⟩
      ·rw [et,Γ]
       exact ((row8.same fun v r g=>(g.same (fun c ob e=>kp9 c ob e)).same s10).put (z:=z) f10).same fun v r g=>g.tup tu
      ·rw [zN7 z _ row7.keys,hn7,et,zL3 (zN8 nC hiz)]
    ·rintro σ H7 ⟨v2,v6,kva,rfl,hfz,kp,h7,row7,hn7⟩
     rw [ā,lR,Đ] at row7 hn7
     refine ⟨o,.dK rows,hfz,?_⟩
     have s8:Same H (upd H7 pr (.dK rows)):=fun c ob e=>by
      have ncp:c ≠ pb:=Ç e hpb0
      by_cases u:c = pr
      ·subst u; rw [hrw] at e; cases e; rw [Á]
      ·rw [upd_ne u]; exact kp c ob (s6 c ob e) ncp u
     have h8:upd H7 pr (.dK rows) pb = some (.dK kva):=by rw [upd_ne nbr]; exact h7
     have row8:=row7.same fun v r g=>g.tup (Ñ (o:=.dK rows) hfz (fun _ z=>nomatch z))
     generalize upd H7 pr (.dK rows) = H8 at *
     refine ⟨_,rfl,?_⟩
     refine ⟨_,rfl,_,_,rfl,rfl,?_⟩
     refine ⟨sz (by simp),fun p9 hp9=>?_⟩
     have t9:=Same.upd (o:=.tup [.int 0,.int 1]) hp9
     have f9:=FrV.newOf (H:=H8) (p:=p9) (t:=0) (b:=1) (r:=0) rfl rfl
     have s9:=s8.trans t9
     have h9:=t9 _ _ h8
     have row9:=row8.same fun v r g=>g.same t9
     generalize upd H8 p9 (.tup [.int 0,.int 1]) = H9 at *
     refine ⟨pb,_,h9,rfl,?_⟩
     refine ⟨_,rfl,.inr (.inr (.inl ⟨rfl,.inl ⟨_,h9⟩⟩)),pb,_,rfl,rfl,h9,rfl,fun pw hpw=>?_⟩
     have tw:=Same.upd (o:=yH9 pw pb) hpw
     refine ⟨pw,pb,_,rfl,Á,tw _ _ h9,rfl,fun o2 qs2 hqs2=>?_⟩
     have hqs2:qs2 = kva.map fun kv=>(kV kv.1,kv.2):=hqs2
     subst hqs2
     have tuw:=Ñ (o:=.frz o2 (.dK kva)) (tw _ _ h9) (fun _ z=>nomatch z)
     refine yZ1 (fun i σ H10=>∃ (f:V) (r:Rat) (v7:Option V),σ = [some (.ref pr),some (.ref pb),v2,some (.int ((q:Int) + 1)),some f,some (.ref pb),v6,v7] /\ H10 pb = some (.frz o2 (.dK kva)) /\ (∀ c ob,H9 c = some ob->c ≠ pb->H10 c = some ob) /\ FrV H10 f r /\ Bd 8000 r /\ 0 <= r /\ (∀ x ∈ C.take i,stay C R (q + 1) x <= r) /\ (r = 0 \/ ∃ x ∈ C,stay C R (q + 1) x = r)) ?_ ?_ ?_ ?_
     ·exact ⟨_,0,_,rfl,Á,fun c ob e n=>by rw [upd_ne n]; exact tw _ _ e,(f9.same tw).tup tuw,⟨Nat.two_pow_pos _,Nat.one_lt_two_pow (by decide)⟩,ŏ,fun x hx=>by simp at hx,.inl rfl⟩
     ·rintro i σ H10 ⟨_,_,_,_,h,_⟩
      exact h
     ·rintro i k' w' σ H10 hk ⟨f,r,v7,rfl,hfz2,kp2,fr2,br,r0,hle2,hex2⟩
      obtain ⟨kvi,hki,ek⟩:=Ο hk
      obtain ⟨y,s0,hz,hg,fy,_,_⟩:=row9.at hki
      obtain ⟨rfl,rfl⟩:=Prod.mk.inj ek
      have hyC:y ∈ C /\ s0 = stay C R (q + 1) y:=by
       unfold all at hg
       split at hg
       ·rename_i hy
        exact ⟨hy,(Option.some.inj hg).symm⟩
       ·cases hg
      obtain ⟨hyC,rfl⟩:=hyC
      have hCi:C[i]? = some y:=by
       rw [<- hn7]
       unfold nms
       rw [đ,hki]
       show some (nmz kvi.1) = _
       rw [hz]; rfl
      have et:=Û hCi
      have fy2:=fy.tup fun c m e=>kp2 c _ e (ê e h9 (by intro z; cases z))
      have bs:=stB (q + 1) hq5 y hyC
      refine ⟨_,rfl,_,rfl,_,_,r,_,rfl,fr2,fy2,br,bs,_,rfl,?_⟩
      refine ite2 (fun h=>?_) (fun h=>?_)
      ·have h:r < stay C R (q + 1) y:=of_decide_eq_true h
       refine ⟨_,rfl,_,_,_,rfl,hfz2,kp2,fy2,bs,by grind,fun x hx=>?_,.inr ⟨y,hyC,rfl⟩⟩
       rw [et] at hx
       rcases Ĥ.mp hx with e | e
       ·have:=hle2 x e; grind
       ·rw [ě.mp e]; exact ŏ
      ·have h:¬ r < stay C R (q + 1) y:=fun e=>h (decide_eq_true e)
       refine ⟨_,rfl,_,r,_,rfl,hfz2,kp2,fr2,br,r0,fun x hx=>?_,hex2⟩
       rw [et] at hx
       rcases Ĥ.mp hx with e | e
       ·exact hle2 x e
       ·rw [ě.mp e]; grind
     ·rintro σ H10 ⟨f,r,v7,rfl,hfz2,kp2,fr2,br,r0,hle2,hex2⟩
      have lka:kva.length = C.length:=by rw [<- Ø,hn7]
      rw [ā,lka,Đ] at hle2
      refine ⟨o2,.dK kva,hfz2,?_⟩
      have tu:=Ñ (o:=.dK kva) hfz2 (fun _ z=>nomatch z)
      have s11:Same H (upd H10 pb (.dK kva)):=fun c ob e=>by
       have n:=Ç e hpb0
       rw [upd_ne n]; exact kp2 c ob (s9 c ob e) n
      have kT:∀ c m,H9 c = some (.tup m)->upd H10 pb (.dK kva) c = some (.tup m):=fun c m e=>by
       have n:=ê e h9 (by intro z; cases z)
       rw [upd_ne n]; exact kp2 c _ e n
      have e1:((q:Int) + 1) = ((q + 1:Nat):Int):=rfl
      refine ⟨⟨q + 1,pb,kva,f,r,_,_,_,_,rfl,s11,hpb0,Á,row9.same fun v r g=>g.tup kT,hn7,fr2.tup tu,by omega,hle2,?_,fun j hj=>?_⟩,?_⟩
      ·rcases hex2 with e | e
       ·refine ⟨x0,hx0,?_⟩
        have h1:=hle2 x0 hx0
        have h2:=yA8 SB (q + 1) x0 hx0
        rw [e] at h1 ⊢
        grind
       ·exact e
      ·by_cases u:j < q
       ·exact hall j u
       ·have:j = q:=by omega
        rw [this]; exact hex
      ·show C.length - ((q:Int) + 1).toNat < C.length - ((q:Nat):Int).toNat
       omega
   ·have h:r ≠ 1:=fun e=>h (decide_eq_true e)
    refine ⟨_,rfl,_,rfl,sz (by simp),fun pt hpt=>?_⟩
    have hr1':r < 1:=by
     obtain ⟨x,hx,e⟩:=hex
     have:=zG7 SB q x hx
     rw [e] at this
     grind
    have q1:1 <= q:=by
     rcases Nat.eq_zero_or_pos q with e | e
     ·subst e
      obtain ⟨x,hx,e⟩:=hex
      exact absurd e.symm h
     ·exact e
    exact k pt _ f r q (s21.free hpt) (s21.trans (Same.upd hpt)) Á (fr1.same (Same.upd hpt)) q1 hq hle hex hr1' hall
  ·intro σ H2 Q1 Q2 hq hh
   obtain ⟨v1,e1,z1,g⟩:=hh
   exact ⟨v1,e1,z1,fun p hp=>let ⟨d1,d2,r1,r2,dp,kk,ek,hQ⟩:=g p hp; ⟨d1,d2,r1,r2,dp,kk,ek,hq _ _ hQ⟩⟩
noncomputable abbrev zD6:Stmt:=top 31
theorem sc_long_run:Ì ["house","steps","rows","closed"] ["house","steps"] (Å zD6):=scF
theorem yB7 {ca:Ca} (D:DefAt K mg "long_run" zD6) (T:Txt K mg ca) (G_casks_table:FnAt P w K mg base CX0 6 "casks_table" ["house","steps"] (zF7 K)) (G_closed_casks:FnAt P w K mg base CX0 4 "closed_casks" ["rows"] (zL2)) (G_nearness:FnAt P w K mg base CX0 4 "nearness" ["rows"] (xB0)) (G_left_alike:FnAt P w K mg base CX0 7 "left_alike" ["rows","added"] (yM3)) (G_brought_totals:FnAt P w K mg base CX0 6 "brought_totals" ["house","steps"] (yE6 K)):FnAt P w K mg base CX0 8 "long_run" ["house","steps"] (xB1 K):=by
 refine D.ok sc_long_run (fun vs H Q E h=>?_) (fun _ _ _ _ _ _ us hl=>match us,hl with | [_,_],_=>rfl) (fun f cdv A outer s H vs Q E hr h=>?_)
 ·obtain ⟨ah,as,xs,ps,ys,ss,rfl,hS,hP,ok,hck,c5,hX,hT,hO,h15,kc,kl⟩:=h; rfl
 ·obtain ⟨ah,as,xs,ps,ys,ss,rfl,hS,hP,ok,hck,c5,hX,hT,hO,h15,kc,kl⟩:=h
  have nd:=sc_long_run.nd
  refine ⟨_,(Ã (Ê (i:=2) nd rfl (Or.inl rfl) (pfn G_casks_table hr (À (pv 0) (À (pv 1) Â))))
   (Ã (Ê (i:=3) nd rfl (Or.inl rfl) (pfn G_closed_casks hr (À (pv 2) Â)))
   (Ã (ø (Õ yP5 (Ô (í (K:=K) rfl) (by rfl) T.z_len PySem.boot_len (À (pv 3) Â)) Ä (Ù _)) (Æ (Ï (Ü (À ó (À (pv 3) Â))))) Þ)
   (Æ (Ï (Ü (À ó (À (pfn G_left_alike hr (À (pv 2) (À (pfn G_brought_totals hr (À (pv 0) (À (pv 1) Â))) Â))) (À (pfn G_nearness hr (À (pv 2) Â)) Â))))))))),?_⟩
  have hOs:∀ s ∈ ss,OkS (allN ps) s:=fun s hs=>(hO s hs).1
  refine ⟨_,rfl,_,rfl,ah,as,xs,ps,ys,ss,rfl,hS,hP,ok,hX,hT,hOs,by omega,fun pr H1 rows ad hpr s1 h1 TB0=>?_⟩
  have G:=ï ok.nd hOs
  have D0:=ú ss
  have D100:=zE0 hO h15
  let C:=nms rows
  have CR:∀ z,z ∈ C ↔ z ∈ ckN ps:=fun z=>by
   constructor
   ·intro h
    obtain ⟨kv,h1,h2⟩:=ĕ.mp h
    obtain ⟨y,h3,h4⟩:=TB0.keys kv h1
    rw [h3] at h2
    have h2:y = z:=h2
    rw [<- h2]; exact h4
   ·intro h; exact zG9 (TB0.row z h).1
  have nC:C.Nodup:=ä TB0.nodup fun kv h=>(let ⟨z,e,_⟩:=TB0.keys kv h; ⟨z,e⟩)
  have lC:C.length = (ckN ps).length:=by show (nms rows).length = _; rw [Ø]; exact TB0.len ok.ck
  have hCL:∀ x ∈ C,x ∈ allN ps:=fun x hx=>ż ((CR x).mp hx)
  have eR:resC (ckN ps) (back ss) = resC C (back ss):=by
   funext n z
   unfold resC
   by_cases h:z ∈ C
   ·rw [if_pos h,if_pos ((CR z).mp h)]
   ·rw [if_neg h,if_neg fun u=>h ((CR z).mpr u)]
  rw [eR] at TB0
  have TB:=TB0.mem CR
  have P2:Î ss <= 2 ^ 500:=č D100 (ĥ (by decide) (by decide))
  have P8:8 * Î ss < 2 ^ 2600:=by
   have:=ğ (show 8 <= 2 ^ 3 by decide) D100
   rw [<- ī] at this
   exact Ę this (ł (by decide) (by decide))
  refine ⟨_,rfl,pr,H,rows,ad,C,allN ps,back ss,Î ss,rfl,h1,TB,rfl,nC,by omega,ok.nd,hCL,G,D0,P8,fun pl H2 zs hpl s2 h2 nz mz sz'=>?_⟩
  have s02:=s1.trans s2
  have lm:(zs.map V.str).length = zs.length:=ā ..
  have mz':∀ x,x ∈ zs ↔ x ∈ ckN ps /\ ¬ Leak (ckN ps) (back ss) x:=fun x=>by
   rw [mz,CR]
   exact ⟨fun h=>⟨h.1,fun l=>h.2 (l.same ok.ck nC fun z=>(CR z).symm)⟩,fun h=>⟨h.1,fun l=>h.2 (l.same nC ok.ck CR)⟩⟩
  refine ⟨_,rfl,_,_,rfl,.inl ⟨_,SqL.of h2,rfl⟩,_,_,rfl,rfl,_,rfl,?_⟩
  rw [lm]
  refine ite2 (fun h=>?_) (fun h=>?_)
  ·have h:(0:Int) < (zs.length:Nat):=of_decide_eq_true h
   refine ⟨_,rfl,sz (by simp),fun pt hpt=>?_⟩
   have tt:=Same.upd (o:=.tup [V.str "closed",.ref pl]) hpt
   exact kc pt _ pl zs (s02.free hpt) (s02.trans tt) (s1.free hpl) (Ç h2 hpt) Á (tt _ _ h2) nz mz' sz' (fun e=>by rw [e] at h; simp at h)
  ·have h:¬ (0:Int) < (zs.length:Nat):=fun e=>h (decide_eq_true e)
   have hz:zs = []:=Ō.mp (by omega)
   have hlk':∀ x ∈ ckN ps,Leak (ckN ps) (back ss) x:=fun x hx=>by
    by_cases q:Leak (ckN ps) (back ss) x
    ·exact q
    ·have:=(mz' x).mpr ⟨hx,q⟩
     rw [hz] at this; cases this
   have hlk:∀ x ∈ C,Leak C (back ss) x:=fun x hx=>(hlk' x ((CR x).mp hx)).same ok.ck nC fun z=>(CR z).symm
   refine ⟨_,rfl,_,rfl,_,rfl,ah,as,xs,ps,ys,ss,rfl,s02.seq hS,Ð hP s02,ok,s02.seq hX,Ö hT s02,hO,h15,fun pb H3 kb hpb s3 h3 rb hnb=>?_⟩
   have s13:=s2.trans s3
   have hW:15000 * (12 * Î ss) <= 2 ^ 118:=twelve D100 (ą _)
   have ebC:all (ckN ps) (bT ss) = all C (bT ss):=by
    funext z
    unfold all
    by_cases q:z ∈ C
    ·rw [if_pos q,if_pos ((CR z).mp q)]
    ·rw [if_neg q,if_neg fun u=>q ((CR z).mpr u)]
   rw [ebC] at rb
   refine ⟨pr,pb,H,rows,kb,ad,C,allN ps,back ss,bT ss,Î ss,12 * Î ss,15000 * (12 * Î ss),100,118,rfl,s13 _ _ h1,TB.same s13,rfl,nC,by omega,ok.nd,hCL,G,D0,D100,h3,rb,by omega,Ŏ _ (by decide),hW,fun z _=>yK1 ok.nd hO h15 z,by decide,by decide,hlk,fun pd H4 kv X hpd s4 h4 rX nX eX bX=>?_⟩
   have s14:=s13.trans s4
   have nck:C ≠ []:=fun e=>by
    have:(ckN ps).length = 0:=by rw [<- lC,e]; rfl
    exact hck (Ō.mp this)
   refine ⟨_,rfl,pr,H,rows,ad,C,allN ps,back ss,Î ss,rfl,s14 _ _ h1,TB.same s14,rfl,nC,nck,by omega,ok.nd,hCL,G,D0,P2,hlk,fun pq H5 fq r q hpq s5 h5 fr q1 q2 hle hex hr1 hall=>?_⟩
   refine ⟨sz (by simp),fun pt hpt=>?_⟩
   have tt:=Same.upd (o:=.tup [V.str "lasting",.ref pd,.ref pq]) hpt
   have s05:=(s1.trans s14).trans s5
   have eX':all C X = all (ckN ps) X:=by
    funext z
    unfold all
    by_cases q:z ∈ C
    ·rw [if_pos q,if_pos ((CR z).mp q)]
    ·rw [if_neg q,if_neg fun u=>q ((CR z).mpr u)]
   have eS:=zW0 (R:=back ss) nC ok.ck CR
   refine kl hlk' pt _ pq pd fq r q kv X (s05.free hpt) (s05.trans tt) Á ((s1.trans s13).free hpd) ((s5.trans tt) _ _ h4) ?_ (fun z hz=>?_) ?_ (tt _ _ h5) (fr.same tt) q1 (by omega) (fun x hx=>?_) ?_ hr1 fun j hj=>?_
   ·rw [<- eX']; exact rX.same fun v r g=>g.same (s5.trans tt)
   ·rw [eX z ((CR z).mpr hz),zH2 nC ok.ck CR]
   ·obtain ⟨E2,W2,g1,g2,g3,g4⟩:=bX
    exact ⟨E2,W2,g1,g2,č g3 (ĥ (by decide) (by decide)),fun z hz=>g4 z ((CR z).mpr hz)⟩
   ·rw [<- eS]; exact hle x ((CR x).mpr hx)
   ·obtain ⟨x,hx,e⟩:=hex
    exact ⟨x,(CR x).mp hx,by rw [<- eS]; exact e⟩
   ·obtain ⟨x,hx,e⟩:=hall j hj
    exact ⟨x,(CR x).mp hx,by rw [<- eS]; exact e⟩
noncomputable abbrev zG1:Stmt:=top 33
theorem sc_by_age:Ì ["house","steps","many","rows","totals","told","age"] ["house","steps","many"] (Å zG1):=scF
theorem yP9 {ca:Ca} (D:DefAt K mg "by_age" zG1) (T:Txt K mg ca) (G_casks_table:FnAt P w K mg base CX0 6 "casks_table" ["house","steps"] (zF7 K)) (G_closed_casks:FnAt P w K mg base CX0 4 "closed_casks" ["rows"] (zL2)) (G_brought_totals:FnAt P w K mg base CX0 6 "brought_totals" ["house","steps"] (yE6 K)) (G_led:FnAt P w K mg base CX0 3 "led" ["rows","totals"] (yM4)):FnAt P w K mg base CX0 7 "by_age" ["house","steps","many"] (spBy K):=by
 refine D.ok sc_by_age (fun vs H Q E h=>?_) (fun _ _ _ _ _ _ us hl=>match us,hl with | [_,_,_],_=>rfl) (fun f cdv A outer s H vs Q E hr h=>?_)
 ·obtain ⟨ah,as,xs,ps,ys,ss,n,rfl,hh,n8,kc,kl⟩:=h; rfl
 ·obtain ⟨ah,as,xs,ps,ys,ss,n,rfl,hh,n8,kc,kl⟩:=h
  have nd:=sc_by_age.nd
  refine ⟨_,(Ã (Ê (i:=3) nd rfl (Or.inl rfl) (pfn G_casks_table hr (À (pv 0) (À (pv 1) Â))))
   (Ã (ø (Õ yP5 (Ô (í (K:=K) rfl) (by rfl) T.z_len PySem.boot_len (À (pfn G_closed_casks hr (À (pv 3) Â)) Â)) Ä (Ù _)) (Æ (Ï zQ0)) Þ)
   (Ã (Ê (i:=4) nd rfl (Or.inl rfl) (pfn G_brought_totals hr (À (pv 0) (À (pv 1) Â))))
   (Ã (Ê (i:=5) nd rfl (Or.inl rfl) (ų Â))
   (Ã (ß PassesOwn.never rfl (ŷ (by rfl) T.z_range (À (pv 2) Â)) (È (i:=6) nd rfl (Or.inl rfl)) (Ã (ù (ρ PySem.F.plainAttrs_list PySem.F.slot_list_append PySem.F.type_list_append û (pv 5) (À (pv 4) Â)))
   (Æ (Ê (i:=4) nd rfl (Or.inl rfl) (pfn G_led hr (À (pv 3) (À (pv 4) Â)))))))
   (Æ (Ï (pv 5)))))))),?_⟩
  obtain ⟨hA,hP,ok,c5,hX,hT,hO,h15⟩:=hh
  have hOs:∀ s ∈ ss,OkS (allN ps) s:=fun s hs=>(hO s hs).1
  refine ⟨_,rfl,_,rfl,ah,as,xs,ps,ys,ss,rfl,SqL.of hA,hP,ok,SqL.of hX,hT,hOs,by omega,fun pr H1 rows ad hpr s1 h1 TB0=>?_⟩
  have G:=ï ok.nd hOs
  have D0:=ú ss
  have D100:=zE0 hO h15
  have RW:=RwsV.of ok c5 h1 TB0
  let C:=nms rows
  have CR:∀ z,z ∈ C ↔ z ∈ ckN ps:=RW.2.2.2.2.2
  have nC:C.Nodup:=RW.2.2.2.1
  have lC:C.length <= 5:=RW.2.2.2.2.1
  have hCL:∀ x ∈ C,x ∈ allN ps:=fun x hx=>ż ((CR x).mp hx)
  have P8:8 * Î ss < 2 ^ 2600:=by
   have:=ğ (show 8 <= 2 ^ 3 by decide) D100
   rw [<- ī] at this
   exact Ę this (ł (by decide) (by decide))
  refine ⟨_,rfl,pr,H,rows,ad,C,allN ps,back ss,Î ss,rfl,RW.1,RW.2.1,rfl,nC,lC,ok.nd,hCL,G,D0,P8,fun pl H2 zs hpl s2 h2 nz mz sz'=>?_⟩
  have s02:=s1.trans s2
  have lm:(zs.map V.str).length = zs.length:=ā ..
  have mz':∀ x,x ∈ zs ↔ x ∈ ckN ps /\ ¬ Leak (ckN ps) (back ss) x:=fun x=>by
   rw [mz,CR]
   exact ⟨fun h=>⟨h.1,fun l=>h.2 (l.same ok.ck nC fun z=>(CR z).symm)⟩,fun h=>⟨h.1,fun l=>h.2 (l.same nC ok.ck CR)⟩⟩
  refine ⟨_,_,rfl,.inl ⟨_,SqL.of h2,rfl⟩,_,_,rfl,rfl,_,rfl,?_⟩
  rw [lm]
  refine ite2 (fun h=>?_) (fun h=>?_)
  ·have h:(0:Int) < (zs.length:Nat):=of_decide_eq_true h
   refine kc ?_ H2 s02
   cases e:zs with
   | nil=>rw [e] at h; simp at h
   | cons z l =>
    have:=(mz' z).mp (by rw [e]; exact ă)
    exact ⟨z,this.1,this.2⟩
  have h:¬ (0:Int) < (zs.length:Nat):=fun e=>h (decide_eq_true e)
  have hz:zs = []:=Ō.mp (by omega)
  have hlk:∀ x ∈ ckN ps,Leak (ckN ps) (back ss) x:=fun x hx=>by
   by_cases q:Leak (ckN ps) (back ss) x
   ·exact q
   ·have:=(mz' x).mpr ⟨hx,q⟩
    rw [hz] at this; cases this
  refine ⟨_,rfl,_,rfl,ah,as,xs,ps,ys,ss,rfl,SqL.of (s02 _ _ hA),Ð hP s02,ok,SqL.of (s02 _ _ hX),Ö hT s02,hO,h15,fun pb H3 kb hpb s3 h3 rb hnb=>?_⟩
  have s03:=s02.trans s3
  have R3:=RW.same (s2.trans s3)
  have nb:=(RW.same s2).ne hpb
  refine ⟨sz (by simp),fun pd hpd=>?_⟩
  show Ends.nx _ [some (.ref ah),some (.ref as),some (.int (n:Nat)),some (.ref pr),some (.ref pb),some (.ref pd),none] _
  have td:=Same.upd (o:=.lst []) hpd
  have hpd4:=Á (H:=H3) (a:=pd) (o:=.lst [])
  have npb:pb ≠ pd:=Ç h3 hpd
  generalize upd H3 pd (.lst []) = H4 at *
  refine ⟨_,rfl,_,rfl,by omega,by omega,?_⟩
  let ms:Nat->Str->Rat:=mass (ckN ps) (back ss) (bT ss)
  refine Ż (fun i σ H'=>∃ (v6:Option V) (pT:Addr) (kT:List (Key × V)) (ds:List Addr),σ = [some (.ref ah),some (.ref as),some (.int (n:Nat)),some (.ref pr),some (.ref pT),some (.ref pd),v6] /\ Same H3 H' /\ H' pd = some (.lst (ds.map V.ref)) /\ ds.length = i /\ ds.Nodup /\ (∀ j d,ds[j]? = some d->H d = none /\ d ≠ pd /\ ∃ kv,H' d = some (.dK kv) /\ RowAt H' kv (all (ckN ps) (ms j))) /\ H' pT = some (.dK kT) /\ RowAt H' kT (all (ckN ps) (ms i)) /\ pT ∉ ds /\ H pT = none /\ pT ≠ pd /\ pT ≠ pr /\ (∀ x ∈ C,ad x ≠ pT) /\ ∃ E W,0 < E /\ E <= W /\ W <= 2 ^ (118 + 103 * i) /\ ∀ z ∈ C,Cd E W (ms i z)) ⟨_,pb,kb,[],rfl,td,hpd4,rfl,.nil,(fun j d e=>nomatch e),td _ _ h3,rb.same (fun v r g=>g.same td),(fun e=>nomatch e),s02.free hpb,npb,nb.1,nb.2,12 * Î ss,15000 * (12 * Î ss),by omega,Ŏ _ (by decide),twelve D100 (ą _),fun z _=>yK1 ok.nd hO h15 z⟩ ?_ ?_
  ·rintro i σ H' hi ⟨v6,pT,kT,ds,rfl,s5,hd5,ld,nd',hds,hT5,rT5,ndT,hT0,nTd,nTr,naT,E2,W2,e20,ew2,w2,hcd2⟩
   have hi:i < n:=by simpa using hi
   refine ⟨_,rfl,.inl ⟨rfl,_,SqL.of hd5⟩,_,rfl,pd,_,_,rfl,rfl,hd5,sz (by rw [ā]; omega),?_⟩
   have tu:=Ñ (o:=.lst (ds.map V.ref ++ [.ref pT])) hd5 (fun _ z=>nomatch z)
   have s6:=s5.updD (o:=.lst (ds.map V.ref ++ [.ref pT])) hpd
   have hd6:=Á (H:=H') (a:=pd) (o:=.lst (ds.map V.ref ++ [.ref pT]))
   have hT6:upd H' pd (.lst (ds.map V.ref ++ [.ref pT])) pT = some (.dK kT):=by rw [upd_ne nTd]; exact hT5
   have rT6:=rT5.same fun v r g=>g.tup tu
   have hds6:∀ j d,(ds ++ [pT])[j]? = some d->H d = none /\ d ≠ pd /\ ∃ kv,upd H' pd (.lst (ds.map V.ref ++ [.ref pT])) d = some (.dK kv) /\ RowAt (upd H' pd (.lst (ds.map V.ref ++ [.ref pT]))) kv (all (ckN ps) (ms j)):=fun j d e=>by
    rcases zL7 e with e | ⟨e1,rfl⟩
    ·obtain ⟨a1,a2,kv,a3,a4⟩:=hds j d e
     exact ⟨a1,a2,kv,by rw [upd_ne a2]; exact a3,a4.same fun v r g=>g.tup tu⟩
    ·rw [e1,ld]
     exact ⟨hT0,nTd,kT,hT6,rT6⟩
   rw [show ds.map V.ref ++ [.ref pT] = (ds ++ [pT]).map V.ref by rw [ė]; rfl] at *
   generalize upd H' pd (.lst ((ds ++ [pT]).map V.ref)) = H6 at *
   have R6:=R3.same s6
   have rTC:RowAt H6 kT (all C (ms i)):=by rw [zJ0 CR]; exact rT6
   refine ⟨_,rfl,_,rfl,pr,pT,H,rows,kT,ad,C,allN ps,back ss,ms i,Î ss,E2,W2,rfl,R6.1,R6.2.1,rfl,nC,lC,hCL,G,D0,D100,hT6,rTC,nTr,naT,e20,ew2,č w2 (ĥ (by decide) (by omega)),hcd2,fun pn H7 kn hpn s7 h7 r7=>?_⟩
   have nn:=R6.ne hpn
   have em:ldR C (back ss) (ms i) = ms (i + 1):=by rw [zL6 nC ok.ck CR]; rfl
   rw [zJ0 CR,em] at r7
   refine ⟨_,pn,kn,ds ++ [pT],rfl,s6.trans s7,s7 _ _ hd6,by rw [Ĝ,ld]; rfl,?_,fun j d e=>?_,h7,r7,fun e=>?_,s03.free (s6.free hpn),?_,nn.1,nn.2,E2 * Î ss,5 * (W2 * Î ss),Ľ e20 D0,?_,?_,fun z hz=>?_⟩
   ·exact Ő.mpr ⟨nd',Ġ.mpr ⟨(nomatch ·),.nil⟩,fun a ha b hb e=>ndT (by rw [<- ě.mp hb,<- e]; exact ha)⟩
   ·obtain ⟨a1,a2,kv,a3,a4⟩:=hds6 j d e
    exact ⟨a1,a2,kv,s7 _ _ a3,a4.same fun v r g=>g.same s7⟩
   ·obtain ⟨j,hj,ej⟩:=Ĺ e
    obtain ⟨_,_,kv,a3,_⟩:=hds6 j pn (by rw [Č hj,ej])
    rw [hpn] at a3; cases a3
   ·exact (Ç hd6 hpn).symm
   ·have:=Ė (Î ss) ew2
    omega
   ·have e:118 + 103 * (i + 1) = 118 + 103 * i + 103:=by omega
    rw [e]
    exact yK3 w2 D100
   ·rw [<- em]; exact yR4 G hCL lC hcd2 z
  ·rintro σ H' ⟨v6,pT,kT,ds,rfl,s5,hd5,ld,nd',hds,_⟩
   have em:((n:Nat):Int).toNat = n:=by simp
   rw [em] at ld
   exact ⟨_,rfl,kl hlk pd H' ds (s03.free hpd) (s03.trans s5) hd5 ld nd' hds⟩
noncomputable abbrev zC6:Stmt:=top 34
theorem sc_mean_ages:Ì ["house","steps","rows","lasting","aged","means","name","amount"] ["house","steps"] (Å zC6):=scF
theorem zX7 {ca:Ca} (D:DefAt K mg "mean_ages" zC6) (T:Txt K mg ca) (G_casks_table:FnAt P w K mg base CX0 6 "casks_table" ["house","steps"] (zF7 K)) (G_closed_casks:FnAt P w K mg base CX0 4 "closed_casks" ["rows"] (zL2)) (G_left_alike:FnAt P w K mg base CX0 7 "left_alike" ["rows","added"] (yM3)) (G_brought_totals:FnAt P w K mg base CX0 6 "brought_totals" ["house","steps"] (yE6 K)) (G_led:FnAt P w K mg base CX0 3 "led" ["rows","totals"] (yM4)) (G_over:FnAt P w K mg base (CXE P w) 3 "over" ["one","other"] (yL9 ca.NoNumber)):FnAt P w K mg base CX0 8 "mean_ages" ["house","steps"] (yM2 K):=by
 refine D.ok sc_mean_ages (fun vs H Q E h=>?_) (fun _ _ _ _ _ _ us hl=>match us,hl with | [_,_],_=>rfl) (fun f cdv A outer s H vs Q E hr h=>?_)
 ·obtain ⟨ah,as,xs,ps,ys,ss,rfl,hh,kc,kl⟩:=h; rfl
 ·obtain ⟨ah,as,xs,ps,ys,ss,rfl,hh,kc,kl⟩:=h
  have nd:=sc_mean_ages.nd
  refine ⟨_,(Ã (Ê (i:=2) nd rfl (Or.inl rfl) (pfn G_casks_table hr (À (pv 0) (À (pv 1) Â))))
   (Ã (ø (Õ yP5 (Ô (í (K:=K) rfl) (by rfl) T.z_len PySem.boot_len (À (pfn G_closed_casks hr (À (pv 2) Â)) Â)) Ä (Ù _)) (Æ (Ï zQ0)) Þ)
   (Ã (Ê (i:=3) nd rfl (Or.inl rfl) (pfn G_left_alike hr (À (pv 2) (À (pfn G_brought_totals hr (À (pv 0) (À (pv 1) Â))) Â))))
   (Ã (Ê (i:=4) nd rfl (Or.inl rfl) (pfn G_left_alike hr (À (pv 2) (À (pfn G_led hr (À (pv 2) (À (pv 3) Â))) Â))))
   (Ã (Ê (i:=5) nd rfl (Or.inl rfl) ë)
   (Ã (Ŷ (ß PassesOwn.never rfl (Ÿ (Ū (K:=K) rfl PySem.F.plainAttrs_dict PySem.F.slot_dict_items PySem.F.type_dict_items Ź (pv 3))) (Θ rfl (Ò (È (i:=6) nd rfl (Or.inl rfl)) (Ò (È (i:=7) nd rfl (Or.inl rfl)) ÿ))) (Æ (ç (â hr) (pv 5) (pv 6) (zR6 (Õ (Τ (K:=K) rfl hr) (pv 7) (Ü (À Ä (À Ä Â))) (Ù _)) zQ0 (xF3 G_over hr (by rfl) xC1 (À (å (â hr) (pv 4) (pv 6) (fun _ _=>rfl)) (À (pv 7) Â)))) rfl))))
   (Æ (Ï (pv 5))))))))),?_⟩
  obtain ⟨hA,hP,ok,c5,hX,hT,hO,h15⟩:=hh
  have hOs:∀ s ∈ ss,OkS (allN ps) s:=fun s hs=>(hO s hs).1
  refine ⟨_,rfl,_,rfl,ah,as,xs,ps,ys,ss,rfl,SqL.of hA,hP,ok,SqL.of hX,hT,hOs,by omega,fun pr H1 rows ad hpr s1 h1 TB0=>?_⟩
  have G:=ï ok.nd hOs
  have D0:=ú ss
  have D100:=zE0 hO h15
  have RW:=RwsV.of ok c5 h1 TB0
  let C:=nms rows
  have CR:∀ z,z ∈ C ↔ z ∈ ckN ps:=RW.2.2.2.2.2
  have nC:C.Nodup:=RW.2.2.2.1
  have lC:C.length <= 5:=RW.2.2.2.2.1
  have hCL:∀ x ∈ C,x ∈ allN ps:=fun x hx=>ż ((CR x).mp hx)
  have P8:8 * Î ss < 2 ^ 2600:=by
   have:=ğ (show 8 <= 2 ^ 3 by decide) D100
   rw [<- ī] at this
   exact Ę this (ł (by decide) (by decide))
  refine ⟨_,rfl,pr,H,rows,ad,C,allN ps,back ss,Î ss,rfl,RW.1,RW.2.1,rfl,nC,lC,ok.nd,hCL,G,D0,P8,fun pl H2 zs hpl s2 h2 nz mz sz'=>?_⟩
  have s02:=s1.trans s2
  have lm:(zs.map V.str).length = zs.length:=ā ..
  have mz':∀ x,x ∈ zs ↔ x ∈ ckN ps /\ ¬ Leak (ckN ps) (back ss) x:=fun x=>by
   rw [mz,CR]
   exact ⟨fun h=>⟨h.1,fun l=>h.2 (l.same ok.ck nC fun z=>(CR z).symm)⟩,fun h=>⟨h.1,fun l=>h.2 (l.same nC ok.ck CR)⟩⟩
  refine ⟨_,_,rfl,.inl ⟨_,SqL.of h2,rfl⟩,_,_,rfl,rfl,_,rfl,?_⟩
  rw [lm]
  refine ite2 (fun h=>?_) (fun h=>?_)
  ·have h:(0:Int) < (zs.length:Nat):=of_decide_eq_true h
   refine kc ?_ H2 s02
   cases e:zs with
   | nil=>rw [e] at h; simp at h
   | cons z l =>
    have:=(mz' z).mp (by rw [e]; exact ă)
    exact ⟨z,this.1,this.2⟩
  have h:¬ (0:Int) < (zs.length:Nat):=fun e=>h (decide_eq_true e)
  have hz:zs = []:=Ō.mp (by omega)
  have hlk:∀ x ∈ ckN ps,Leak (ckN ps) (back ss) x:=fun x hx=>by
   by_cases q:Leak (ckN ps) (back ss) x
   ·exact q
   ·have:=(mz' x).mpr ⟨hx,q⟩
    rw [hz] at this; cases this
  refine ⟨_,rfl,_,rfl,_,rfl,ah,as,xs,ps,ys,ss,rfl,SqL.of (s02 _ _ hA),Ð hP s02,ok,SqL.of (s02 _ _ hX),Ö hT s02,hO,h15,fun pb H3 kb hpb s3 h3 rb hnb=>?_⟩
  have s03:=s02.trans s3
  have R3:=RW.same (s2.trans s3)
  have hlkC:∀ x ∈ C,Leak C (back ss) x:=fun x hx=>(hlk x ((CR x).mp hx)).same ok.ck nC fun z=>(CR z).symm
  have hW:15000 * (12 * Î ss) <= 2 ^ 118:=twelve D100 (ą _)
  have E120:0 < 12 * Î ss:=by omega
  have E12W:12 * Î ss <= 15000 * (12 * Î ss):=Ŏ _ (by decide)
  have cb:∀ z ∈ C,Cd (12 * Î ss) (15000 * (12 * Î ss)) (bT ss z):=fun z _=>yK1 ok.nd hO h15 z
  rw [<- zJ0 CR] at rb
  refine ⟨pr,pb,H,rows,kb,ad,C,allN ps,back ss,bT ss,Î ss,12 * Î ss,15000 * (12 * Î ss),100,118,rfl,R3.1,R3.2.1,rfl,nC,lC,ok.nd,hCL,G,D0,D100,h3,rb,E120,E12W,hW,cb,by decide,by decide,hlkC,fun pd H4 kv X hpd s4 h4 rX nX eX _=>?_⟩
  have R4:=R3.same s4
  have s04:=s03.trans s4
  have nd4:=R3.ne hpd
  obtain ⟨E1,E10,E1W,c1⟩:=zT6 G nC ok.nd hCL hlkC D0 eX E120 E12W cb
  have W1le:=yD6 hW D100 lC
  generalize 15000 * (12 * Î ss) * (C.length * Î ss) ^ C.length = W1 at *
  refine ⟨_,rfl,_,rfl,_,rfl,pr,pd,H,rows,kv,ad,C,allN ps,back ss,X,Î ss,E1,W1,rfl,R4.1,R4.2.1,rfl,nC,lC,hCL,G,D0,D100,h4,rX,nd4.1,nd4.2,E10,E1W,č W1le (ĥ (by decide) (by decide)),c1,fun pe H5 ke hpe s5 h5 r5=>?_⟩
  have R5:=R4.same s5
  have W2le:=yK3 W1le D100
  have c2:∀ z ∈ C,Cd (E1 * Î ss) (5 * (W1 * Î ss)) (ldR C (back ss) X z):=fun z _=>yR4 G hCL lC c1 z
  have E20:0 < E1 * Î ss:=Ľ E10 D0
  have E2W:E1 * Î ss <= 5 * (W1 * Î ss):=by have:=Ė (Î ss) E1W; omega
  refine ⟨pr,pe,H,rows,ke,ad,C,allN ps,back ss,ldR C (back ss) X,Î ss,E1 * Î ss,5 * (W1 * Î ss),100,118 + 515 + 103,rfl,R5.1,R5.2.1,rfl,nC,lC,ok.nd,hCL,G,D0,D100,h5,r5,E20,E2W,W2le,c2,by decide,by decide,hlkC,fun pA H6 kA Ag hpA s6 h6 rA nA eA _=>?_⟩
  obtain ⟨E3,E30,E3W,c3⟩:=zT6 G nC ok.nd hCL hlkC D0 eA E20 E2W c2
  have W3le:=yD6 W2le D100 lC
  generalize 5 * (W1 * Î ss) * (C.length * Î ss) ^ C.length = W3 at *
  have bXd:∀ z ∈ C,Bd 8000 (X z):=fun z hz=>((c1 z hz).bd E10 E1W W1le).mono (by decide)
  have bAd:∀ z ∈ C,Bd 8000 (Ag z):=fun z hz=>((c3 z hz).bd E30 E3W W3le).mono (by decide)
  have s46:=s5.trans s6
  have h46:=s46 _ _ h4
  have s06:=s04.trans s46
  intro pm hpm
  have tm:=Same.upd (o:=.dK []) hpm
  have hm7:=Á (H:=H6) (a:=pm) (o:=.dK [])
  have nmd:pm ≠ pd:=fun e=>by rw [e,h46] at hpm; cases hpm
  have h47:=tm _ _ h46
  have h67:=tm _ _ h6
  have rX7:=rX.same fun v r g=>(g.same s46).same tm
  have rA7:=rA.same fun v r g=>g.same tm
  have s07:=s06.trans tm
  generalize upd H6 pm (.dK []) = H7 at *
  show Ends.nx _ [some (.ref ah),some (.ref as),some (.ref pr),some (.ref pd),some (.ref pA),some (.ref pm),none,none] _
  have nAd:pA ≠ pd:=fun e=>by have:=s5 _ _ h4; rw [<- e,hpA] at this; cases this
  have nAm:pA ≠ pm:=Ç h6 hpm
  refine ⟨pd,_,h47,rfl,?_⟩
  refine ⟨_,rfl,.inr (.inr (.inl ⟨rfl,.inl ⟨_,h47⟩⟩)),pd,_,rfl,rfl,h47,rfl,fun pv hpv=>?_⟩
  have tv:=Same.upd (o:=Λ pv pd) hpv
  refine ⟨pv,pd,_,rfl,Á,tv _ _ h47,rfl,fun o qs hqs=>?_⟩
  have hqs:qs = kv.map fun kv=>(kV kv.1,kv.2):=hqs
  subst hqs
  refine Ů (fun j σ H8=>∃ (v6 v7:Option V) (km:List (Key × V)),σ = [some (.ref ah),some (.ref as),some (.ref pr),some (.ref pd),some (.ref pA),some (.ref pm),v6,v7] /\ H8 pd = some (.frz o (.dK kv)) /\ (∀ c ob,H7 c = some ob->c ≠ pm->c ≠ pd->H8 c = some ob) /\ H8 pm = some (.dK km) /\ MnAt H8 km (C.take j) X Ag) ?_ ?_ ?_ ?_
  ·refine ⟨_,_,[],rfl,Á,fun c ob e _ n=>by rw [upd_ne n]; exact tv _ _ e,by rw [upd_ne nmd]; exact tv _ _ hm7,?_⟩
   exact ⟨nofun,rfl,nofun⟩
  ·rintro j σ H8 ⟨_,_,_,_,h,_⟩
   exact h
  ·rintro j k' v T2 σ H8 hk ⟨v6,v7,km,rfl,hfz8,kp8,h8,mn8⟩ hT2
   obtain ⟨kvi,hki,ek⟩:=Ο hk
   obtain ⟨rfl,rfl⟩:=Prod.mk.inj ek
   obtain ⟨z,r,hz,hg,fr,_,_⟩:=rX7.at hki
   have hzC:z ∈ C:=all_some.mp (by rw [hg]; rfl)
   have er:r = X z:=by
    unfold all at hg
    rw [if_pos hzC] at hg
    exact (Option.some.inj hg).symm
   subst er
   have hCj:C[j]? = some z:=by
    rw [<- nX]
    unfold nms
    rw [đ,hki]
    show some (nmz kvi.1) = _
    rw [hz]; rfl
   have ekv:kV kvi.1 = .str z:=by rw [hz]; rfl
   have kT8:∀ c m,H7 c = some (.tup m)->H8 c = some (.tup m):=fun c m e=>kp8 c _ e (ê e hm7 (by intro z; cases z)) (ê e h47 (by intro z; cases z))
   have tT2:=Same.upd (o:=.tup [kV kvi.1,kvi.2]) hT2
   refine ⟨T2,_,rfl,SqT.of Á,rfl,_,_,rfl,_,_,rfl,rfl,?_⟩
   rw [ekv] at tT2 ⊢
   have h9:=tT2 _ _ h8
   have fr9:=(fr.tup kT8).same tT2
   have rA9:=rA7.same fun v r g=>(g.tup kT8).same tT2
   have hA9:=tT2 _ _ (kp8 _ _ h67 nAm nAd)
   have kp9:∀ c ob,H7 c = some ob->c ≠ pm->c ≠ pd->upd H8 T2 (.tup [.str z,kvi.2]) c = some ob:=fun c ob e n1 n2=>tT2 _ _ (kp8 c ob e n1 n2)
   have hfz9:=tT2 _ _ hfz8
   have mn9:=mn8.mono fun v r g=>g.same tT2
   generalize upd H8 T2 (.tup [.str z,kvi.2]) = H9 at *
   have lk:km.length <= 5:=by rw [<- Ø,mn8.names,ē]; omega
   have fin:∀ (w:V) (H10:Hp),Same H9 H10->((X z = 0 /\ w = .non) \/ (X z ≠ 0 /\ FrV H10 w (Ag z / X z)))->∃ v6 v7 km',[some (V.ref ah),some (.ref as),some (.ref pr),some (.ref pd),some (.ref pA),some (.ref pm),some (.str z),some kvi.2] = [some (.ref ah),some (.ref as),some (.ref pr),some (.ref pd),some (.ref pA),some (.ref pm),v6,v7] /\ upd H10 pm (.dK (putK km (.inr z) w)) pd = some (.frz o (.dK kv)) /\ (∀ c ob,H7 c = some ob->c ≠ pm->c ≠ pd->upd H10 pm (.dK (putK km (.inr z) w)) c = some ob) /\ upd H10 pm (.dK (putK km (.inr z) w)) pm = some (.dK km') /\ MnAt (upd H10 pm (.dK (putK km (.inr z) w))) km' (C.take (j + 1)) X Ag:=fun w H10 s10 hw=>by
    have h10:=s10 _ _ h9
    have tu:=Ñ (o:=.dK (putK km (.inr z) w)) h10 (fun _ z=>nomatch z)
    refine ⟨_,_,_,rfl,by rw [upd_ne nmd.symm]; exact s10 _ _ hfz9,fun c ob e n1 n2=>by rw [upd_ne n1]; exact s10 _ _ (kp9 c ob e n1 n2),Á,?_⟩
    rw [Û hCj]
    exact ((mn9.mono fun v r g=>g.same s10).put (zN8 nC hCj) hw).mono fun v r g=>g.tup tu
   refine ⟨_,rfl,sz (by simp),fun p0 hp0=>?_⟩
   have t0:=Same.upd (o:=.tup [.int 0,.int 1]) hp0
   refine ⟨_,_,(fr9.same t0).rep,θ (SqT.of Á),Β _ _,_,rfl,?_⟩
   rw [eq01]
   refine ite2 (fun h=>?_) (fun h=>?_)
   ·have ht:X z = 0:=of_decide_eq_true h
    exact ⟨_,rfl,_,rfl,pm,_,rfl,DPut.k (k:=.inr z) (t0 _ _ h9) (sz (by omega)),fin .non _ t0 (.inl ⟨ht,rfl⟩)⟩
   ·have ht:X z ≠ 0:=fun e=>h (decide_eq_true e)
    obtain ⟨wa,ewa,fwa⟩:=rA9.has z (Ag z) (by unfold all; rw [if_pos hzC])
    refine ⟨_,rfl,_,rfl,pA,wa,rfl,?_,_,rfl,_,_,Ag z,X z,rfl,fwa.same t0,fr9.same t0,bAd z hzC,bXd z hzC,fun _ u H10 s10 f10=>?_,fun e=>absurd e ht⟩
    ·have g:=DGet.k (k:=.inr z) (t0 _ _ hA9)
     rw [ewa] at g; exact g
    have s910:=t0.trans s10
    exact ⟨_,rfl,_,rfl,pm,_,rfl,DPut.k (k:=.inr z) (s910 _ _ h9) (sz (by omega)),fin u _ s910 (.inr ⟨ht,f10⟩)⟩
  rintro σ H8 ⟨v6,v7,km,rfl,hfz8,kp8,h8,mn8⟩
  have lkv:kv.length = C.length:=by rw [<- Ø,nX]
  rw [ā,lkv,Đ] at mn8
  have tu:=Ñ (o:=.dK kv) hfz8 (fun _ z=>nomatch z)
  refine ⟨o,_,hfz8,_,rfl,kl hlk pm _ km C X Ag (s06.free hpm) (fun c ob e=>?_) (by rw [upd_ne nmd]; exact h8) (mn8.mono fun v r g=>g.tup tu) nC CR (fun z hz=>?_) (fun z hz=>?_)⟩
  ·have e7:=s07 _ _ e
   have n1:c ≠ pm:=Ç e (s06.free hpm)
   by_cases q:c = pd
   ·subst q; rw [h47] at e7; cases e7; exact Á
   ·rw [upd_ne q]; exact kp8 _ _ e7 n1 q
  ·rw [<- zL6 nC ok.ck CR]; exact eX z ((CR z).mpr hz)
  ·rw [<- zL6 nC ok.ck CR,<- zL6 nC ok.ck CR]; exact eA z ((CR z).mpr hz)
noncomputable abbrev zA5:Stmt:=top 36
theorem sc__law_cell_at:Ì ["_law_script","_law_k"] ["_law_script","_law_k"] (Å zA5):=scF
theorem zN6 {ca:Ca} (D:DefAt K mg "_law_cell_at" zA5) (T:Txt K mg ca):FnAt P w K mg base CX0 1 "_law_cell_at" ["_law_script","_law_k"] (yM8 K):=by
 refine D.ok sc__law_cell_at (fun vs H Q E h=>?_) (fun _ _ _ _ _ _ us hl=>match us,hl with | [_,_],_=>rfl) (fun f cdv A outer s H vs Q E hr h=>?_)
 ·obtain ⟨a,ns,j,rfl,hS,hj,k⟩:=h; rfl
 ·obtain ⟨a,ns,j,rfl,hS,hj,k⟩:=h
  have nd:=sc__law_cell_at.nd
  refine ⟨_,(Ã (ø (Õ xF7 (pv 1) (Ô (í (K:=K) rfl) (by rfl) T.z_len PySem.boot_len (À (pv 0) Â)) (Ù _)) (Æ (Ï (pixL (pv 0) (pv 1)))) Þ)
   (Æ (Ï Ä))),?_⟩
  refine ⟨_,rfl,_,rfl,_,_,rfl,.inl ⟨_,hS,rfl⟩,_,_,rfl,rfl,_,rfl,?_⟩
  refine ite2 (fun h1=>?_) (fun h1=>?_)
  ·obtain ⟨c,hc⟩:=xL3 hj (of_decide_eq_true h1)
   refine ⟨_,rfl,_,rfl,a,_,j,_,rfl,rfl,hS,hc,k c⟩
  ·exact k 0
noncomputable abbrev zB4:Stmt:=top 37
theorem sc__law_whole:Ì ["_law_found"] ["_law_found"] (Å zB4):=scF
theorem zS2 {ca:Ca} (D:DefAt K mg "_law_whole" zB4) (T:Txt K mg ca):FnAt P w K mg base CX0 1 "_law_whole" ["_law_found"] (yA9):=by
 refine D.ok sc__law_whole (fun vs H Q E h=>?_) (fun _ _ _ _ _ _ us hl=>match us,hl with | [_],_=>rfl) (fun f cdv A outer s H vs Q E hr h=>?_)
 ·obtain ⟨v,n,rfl,hv,k⟩:=h; rfl
 ·obtain ⟨v,n,rfl,hv,k⟩:=h
  have nd:=sc__law_whole.nd
  refine ⟨_,(Æ (Ï (zQ1 (Ô (Ž (K:=K) rfl) (by rfl) T.z_isinstance î (À (pv 0) (À (Ψ (v:=.ty "int") (by rfl) T.z_int xN6 rfl) Â))) (yF5 (xK0 (Ô (Ž (K:=K) rfl) (by rfl) T.z_isinstance î (À (pv 0) (À (Ψ (v:=.ty "bool") (by rfl) T.z_bool xH8 rfl) Â)))))))),?_⟩
  refine ⟨_,rfl,_,_,_,_,rfl,Φ hv,zK8 (yK5 hv) (by decide),_,rfl,?_⟩
  refine ite2 (fun h1=>?_) (fun h1=>?_)
  ·refine ⟨_,rfl,_,_,_,_,rfl,Φ hv,zK8 (yK5 hv) (by decide),_,rfl,?_⟩
   rw [sub_int] at h1
   rw [yW2]
   have e:(!(n == "bool")) = (n == "int"):=by
    rcases Bool.or_eq_true_iff.mp h1 with z | z
    ·have z:=beq_iff_eq.mp z; subst z; decide
    ·have z:=beq_iff_eq.mp z; subst z; decide
   rw [e]; exact k
  ·rw [sub_int] at h1
   have e:(n == "int") = false:=by
    cases q:(n == "int") with
    | false=>rfl
    | true=>rw [q] at h1; exact absurd rfl h1
   rw [e] at k; exact k
noncomputable abbrev zC0:Stmt:=top 38
theorem sc__law_mixed:Ì ["_law_cell","_law_many"] ["_law_cell"] (Å zC0):=scF
theorem zS8 {ca:Ca} (D:DefAt K mg "_law_mixed" zC0) (T:Txt K mg ca):FnAt P w K mg base CX0 1 "_law_mixed" ["_law_cell"] (zR1):=by
 refine D.ok sc__law_mixed (fun vs H Q E h=>?_) (fun _ _ _ _ _ _ us hl=>match us,hl with | [_],_=>rfl) (fun f cdv A outer s H vs Q E hr h=>?_)
 ·obtain ⟨c,rfl,k⟩:=h; rfl
 ·obtain ⟨c,rfl,k⟩:=h
  have nd:=sc__law_mixed.nd
  refine ⟨_,(Ã (Ê (i:=1) nd rfl (Or.inl rfl) Ä)
   (Æ (Ï (Ó ì (Ó Ε (Ó ź (Ó ì (pv 0) (Ó yP4 Ä Ä)) (pv 1)) Ä) (Ó Ε (Ó yP4 Ä Ä) Ä))))),?_⟩
  refine ⟨_,rfl,_,_,rfl,rfl,⟨by decide,by decide,by decide⟩,_,_,rfl,rfl,(by rw [yX1]; show (_:Int) ≠ 0; decide),_,rfl,_,_,rfl,rfl,?_,_,_,rfl,rfl,_,_,rfl,rfl,⟨by decide,by decide,by decide⟩,_,_,rfl,rfl,_,_,rfl,rfl,(by rw [yX1]; show (_:Int) ≠ 0; decide),?_⟩
  ·rw [yX1]
   have q:=ò (c:=c) (m:=1000000000000000000000000000000000000000000000000000000000000) (by decide)
   refine ý 256 ?_ (by decide) (by decide)
   have:(c.fmod 1000000000000000000000000000000000000000000000000000000000000).natAbs < 1000000000000000000000000000000000000000000000000000000000000:=by omega
   exact Nat.lt_trans this (by decide)
  ·rw [yX1]
   refine k _ (ò (by decide)).1 ?_
   exact (ò (by decide)).2
noncomputable abbrev zA4:Stmt:=top 39
theorem sc__law_divisor:Ì ["_law_one","_law_other"] ["_law_one","_law_other"] (Å zA4):=scF
theorem zN5 {ca:Ca} (D:DefAt K mg "_law_divisor" zA4) (T:Txt K mg ca):FnAt P w K mg base CX0 1 "_law_divisor" ["_law_one","_law_other"] (zW2):=by
 refine D.ok sc__law_divisor (fun vs H Q E h=>?_) (fun _ _ _ _ _ _ us hl=>match us,hl with | [_,_],_=>rfl) (fun f cdv A outer s H vs Q E hr h=>?_)
 ·obtain ⟨a,b,rfl,k⟩:=h; rfl
 ·obtain ⟨a,b,rfl,k⟩:=h
  have nd:=sc__law_divisor.nd
  refine ⟨_,(Ã (zL4 PassesOwn.never (Õ yB4 (pv 1) Ä (Ù _)) (Æ (xJ6 (i:=0) (j:=1) rfl nd rfl rfl (by decide) rfl rfl (À (pv 1) (À (Ó ì (pv 0) (pv 1)) Â)) rfl)))
   (Æ (Ï (Ô xA0 (by rfl) T.z_abs xN8 (À (pv 0) Â))))),?_⟩
  refine zL1 (fun σ H1=>∃ x y:Int,σ = [some (.int x),some (.int y)] /\ H1 = H /\ Ĵ x y = Ĵ a b)
   (fun σ _=>match σ with | [_,some (.int y)]=>y.natAbs | _=>0) ⟨a,b,rfl,rfl,rfl⟩ ?_ ?_
  ·rintro σ H1 ⟨x,y,rfl,rfl,d⟩
   refine ⟨_,rfl,rfl,_,rfl,?_⟩
   refine ite2 (fun h1=>?_) (fun h1=>?_)
   ·have hy:y ≠ 0:=by
     intro e; subst e; simp at h1
    refine ⟨_,rfl,_,rfl,_,rfl,_,_,rfl,rfl,hy,_,_,rfl,?_⟩
    exact ⟨⟨_,_,rfl,rfl,(yG6 x y).trans d⟩,Dv.less hy⟩
   ·have hy:y = 0:=by
     by_cases e:y = 0
     ·exact e
     ·exact absurd (by simp [e]) h1
    subst hy
    refine ⟨_,rfl,x,rfl,?_⟩
    rw [Int.gcd_zero_right] at d
    have e:(if x < 0 then -x else x) = ((Ĵ a b:Nat):Int):=by
     rw [<- d]; split <;> omega
    rw [e]; exact k
  ·intro σ H1 Q1 Q2 hq h1
   obtain ⟨v,e,h2,c,e2,h3⟩:=h1
   exact ⟨v,e,h2,c,e2,hq _ _ h3⟩
noncomputable abbrev zA8:Stmt:=top 40
theorem sc__law_lowest:Ì ["_law_top","_law_bottom","_law_by"] ["_law_top","_law_bottom"] (Å zA8):=scF
theorem zP0 {ca:Ca} (D:DefAt K mg "_law_lowest" zA8) (T:Txt K mg ca) (G__law_divisor:FnAt P w K mg base CX0 1 "_law_divisor" ["_law_one","_law_other"] (zW2)):FnAt P w K mg base CX0 2 "_law_lowest" ["_law_top","_law_bottom"] (zF6):=by
 refine D.ok sc__law_lowest (fun vs H Q E h=>?_) (fun _ _ _ _ _ _ us hl=>match us,hl with | [_,_],_=>rfl) (fun f cdv A outer s H vs Q E hr h=>?_)
 ·obtain ⟨t,b,rfl,hb,hbb,k⟩:=h; rfl
 ·obtain ⟨t,b,rfl,hb,hbb,k⟩:=h
  have nd:=sc__law_lowest.nd
  refine ⟨_,(Ã (Ê (i:=2) nd rfl (Or.inl rfl) (pfn G__law_divisor hr (À (pv 0) (À (pv 1) Â))))
   (Ã (ø (Õ xF7 (pv 1) Ä (Ù _)) (Æ (Ê (i:=2) nd rfl (Or.inl rfl) (Ó yF6 Ä (pv 2)))) Þ)
   (Æ (Ï (Ü (À (Ó á (pv 0) (pv 2)) (À (Ó á (pv 1) (pv 2)) Â))))))),?_⟩
  have hd:∀ i,ς i (dv t b):=fun i=>zK1 (zY9 hb) (Ę (yT4 hb) hbb)
  have fin:∀ {σ:St} {H1:Hp} {d:Int},H1 = H->d = dv t b->σ = [some (.int t),some (.int b),some (.int d)] ->
    (tRet (tTup (xD9 (tOp (rI ς fun i j=>.int (i.fdiv j)) (tVar 0) (tVar 2)) (xD9 (tOp (rI ς fun i j=>.int (i.fdiv j)) (tVar 1) (tVar 2)) tNil)))) { nx:=fun _ H'=>Q .non H',rt:=Q } σ H1:=by
   rintro σ H1 d rfl rfl rfl
   refine ⟨_,rfl,_,rfl,_,_,rfl,rfl,hd _,_,rfl,_,rfl,_,_,rfl,rfl,hd _,sz (by simp),fun p hp=>?_⟩
   exact k _ _ (Same.upd hp) (FrV.newOf (zY8 hb) (zZ0 hb))
  refine ⟨_,rfl,_,rfl,t,b,rfl,?_⟩
  refine ⟨_,rfl,_,_,rfl,rfl,_,rfl,?_⟩
  refine ite2 (fun h1=>?_) (fun h1=>?_)
  ·have hn:b < 0:=of_decide_eq_true h1
   refine ⟨_,rfl,_,_,rfl,rfl,?_⟩
   refine fin rfl ?_ rfl
   unfold dv
   rw [if_pos hn]; omega
  ·have hn:¬ b < 0:=fun z=>h1 (decide_eq_true z)
   refine fin rfl ?_ rfl
   unfold dv
   rw [if_neg hn]
noncomputable abbrev zC5:Stmt:=top 41
theorem sc__law_alike:Ì ["_law_found","_law_due"] ["_law_found","_law_due"] (Å zC5):=scF
theorem zT3 {ca:Ca} (D:DefAt K mg "_law_alike" zC5) (T:Txt K mg ca) (G__law_whole:FnAt P w K mg base CX0 1 "_law_whole" ["_law_found"] (yA9)):FnAt P w K mg base CX0 2 "_law_alike" ["_law_found","_law_due"] (yM9):=by
 refine D.ok sc__law_alike (fun vs H Q E h=>?_) (fun _ _ _ _ _ _ us hl=>match us,hl with | [_,_],_=>rfl) (fun f cdv A outer s H vs Q E hr h=>?_)
 ·obtain ⟨_,_,r,q,rfl,hx,hy,k⟩:=h; rfl
 ·obtain ⟨_,_,r,q,rfl,hx,hy,k⟩:=h
  have nd:=sc__law_alike.nd
  refine ⟨_,(Ã (ø (PW.pt (π (Ν (Α (Ô (Ž (K:=K) rfl) (by rfl) T.z_isinstance î (À (pv 0) (À (Ψ (v:=.ty "tuple") (by rfl) T.z_tuple yH3 rfl) Â))))) (ι (Õ yB4 (Ô (í (K:=K) rfl) (by rfl) T.z_len PySem.boot_len (À (pv 0) Â)) Ä (Ù _))))) (Æ (Ï Ξ)) Þ)
   (Æ (Ï (zQ1 (pfn G__law_whole hr (À (pixT (pv 0) Ä) Â)) (zQ1 (pfn G__law_whole hr (À (pixT (pv 0) Ä) Â)) (yF5 (Ρ (Τ (K:=K) rfl hr) (pv 0) (pv 1) (Ù _)))))))),?_⟩
  have tx:=hx.ty
  have rx:=hx.rep (K:=K)
  have ry:=hy.rep (K:=K)
  obtain ⟨a,rfl,ha⟩:=hx
  obtain ⟨b,rfl,hb⟩:=hy
  refine ⟨_,rfl,_,_,_,_,rfl,Φ tx,zK8 (by decide) (by decide),_,rfl,?_⟩
  refine iteF ?_
  refine ⟨_,rfl,_,_,rfl,.inr ⟨_,SqT.of ha,rfl⟩,rfl,_,rfl,?_⟩
  refine iteF ?_
  refine ⟨_,rfl,a,_,_,_,rfl,rfl,SqT.of ha,rfl,_,_,rfl,rfl,_,rfl,?_⟩
  refine iteT ?_
  refine ⟨_,rfl,a,_,_,_,rfl,rfl,SqT.of ha,rfl,_,_,rfl,rfl,_,rfl,?_⟩
  refine iteT ?_
  refine ⟨_,rfl,_,rfl,_,_,rx,ry,Β _ _,?_⟩
  rw [yG9,yG7]
  exact k
noncomputable abbrev zC2:Stmt:=top 42
theorem sc__law_house:Ì ["_law_cell","_law_casks_here","_law_sinks","_law_base","_law_house_here","_law_k"] ["_law_cell","_law_casks_here","_law_sinks"] (Å zC2):=scF
theorem zT0 {ca:Ca} (D:DefAt K mg "_law_house" zC2) (T:Txt K mg ca):FnAt P w K mg base CX0 1 "_law_house" ["_law_cell","_law_casks_here","_law_sinks"] (yM6):=by
 refine D.ok sc__law_house (fun vs H Q E h=>?_) (fun _ _ _ _ _ _ us hl=>match us,hl with | [_,_,_],_=>rfl) (fun f cdv A outer s H vs Q E hr h=>?_)
 ·obtain ⟨c,n,s',rfl,n1,n5,hs2,k⟩:=h; rfl
 ·obtain ⟨c,n,s',rfl,n1,n5,hs2,k⟩:=h
  have nd:=sc__law_house.nd
  refine ⟨_,(Ã (Ê (i:=3) nd rfl (Or.inr rfl) (pixL (ų (À ó (À ó (À ó (À ó Â))))) (Ó ì (pv 0) Ä)))
   (Ã (zJ6 ["_law_k"] ["_law_base","_law_cell"] [3,0] (i:=4) nd rfl rfl rfl (by rfl) (ŷ (by rfl) T.z_range (À (pv 1) Â)) (fun _ _ _ _=>(È (i:=0) (show List.Nodup (["_law_k","_law_base","_law_cell"]:List Str) from by decide) rfl (Or.inl rfl))) (fun _ _ _ _=>Η) (fun _ _ _ _=>(Ü (À ó (À (Ó yJ0 (pv 1) (xF2 xL9 ó (Ó ì (Ó Ε (pv 0) (Ó á (pv 2) Ä)) Ä) (fun _ _=>rfl))) (À (Ü (À (Ó Ε Ä (pv 0)) (À Ä Â))) Â))))))
   (Ã (ß PassesOwn.never rfl (ŷ (by rfl) T.z_range (À (pv 2) Â)) (È (i:=5) nd rfl (Or.inl rfl)) (Æ (ù (xK3 (K:=K) rfl PySem.F.plainAttrs_list PySem.F.slot_list_insert PySem.F.type_list_insert yQ7 (pv 4) (À (Ó ì (Ó á (pv 0) Ä) (Ó Ε (Ô (í (K:=K) rfl) (by rfl) T.z_len PySem.boot_len (À (pv 4) Â)) Ä)) (À (Ü (À ó (À (pixL (ų (À ó (À ó Â))) (pv 5)) Â))) Â))))))
   (Æ (Ï (pv 4)))))),?_⟩
  have q4:=ò (c:=c) (m:=4) (by decide)
  obtain ⟨b,hb,hat⟩:=zV8 (zs:=["","a","tier","zz"]) q4.1 (by simpa using q4.2)
  obtain ⟨b4,hok⟩:=yJ5 b hb
  refine ⟨sz (by simp),fun l hl=>?_⟩
  refine ⟨_,rfl,_,_,rfl,rfl,(show (4:Int) ≠ 0 by decide),l,_,_,_,rfl,rfl,SqL.of Á,hat,?_⟩
  have sl:=Same.upd (o:=.lst [V.str "",.str "a",.str "tier",.str "zz"]) hl
  obtain ⟨s0,es⟩:=ķ (ò (c:=c.fdiv 4) (m:=8) (by decide)).1
  have s8:s0 < 8:=by have:=(ò (c:=c.fdiv 4) (m:=8) (by decide)).2; omega
  refine ⟨_,rfl,_,rfl,by omega,by omega,fun D hD=>?_⟩
  have hD0:=sl.free hD
  refine zO5 (fun i σ' H'=>∃ (v:Option V) (xs:List V),σ' = [v,some (.str b),some (.int c)] /\ Same H H' /\ H' D = some (.lst xs) /\ Paired (PlV H') xs ((Ķ i).map (mkC b s0))) ⟨none,[],rfl,sl.trans (Same.upd hD),Á,.nil⟩ ?_ ?_
  ·rintro i σ' H' hi ⟨v,xs,rfl,s1,hd,hP⟩
   have hi:i < n:=by simpa using hi
   have hxl:xs.length = i:=by rw [hP.length,ā,ŝ]
   have em:(0 + (i:Int) + c.fdiv 4).fmod 8 = (((i + s0) % 8:Nat):Int):=by
    rw [Int.fmod_eq_emod_of_nonneg _ (by decide)] at es ⊢
    omega
   refine ⟨_,rfl,_,rfl,_,rfl,_,_,rfl,rfl,ddv (by decide) (by decide),_,_,rfl,rfl,_,_,rfl,rfl,(show (8:Int) ≠ 0 by decide),_,_,ch8 ((i + s0) % 8),rfl,rfl,sz (by decide),?_,?_⟩
   ·rw [em]; exact xN3 (Nat.mod_lt _ (by decide))
   refine ⟨_,_,rfl,rfl,sz (show b.length + 1 <= 1000 by omega),_,rfl,_,_,rfl,rfl,sz (by simp),fun t1 ht1=>⟨sz (by simp),fun t2 ht2=>?_⟩⟩
   have u1:=Same.upd (o:=.tup [.int (1 + (0 + (i:Int))),.int 1]) ht1
   have u2:=Same.upd (o:=.tup [V.str "cask",.str (nm8 b s0 i),.ref t1]) ht2
   have u12:=u1.trans u2
   have hd2:=u12 _ _ hd
   refine ⟨_,hd2,sz (by omega),_,xs ++ [.ref t2],rfl,(s1.trans u12).updD hD0,Á,?_⟩
   have tu:=Ñ (o:=.lst (xs ++ [.ref t2])) hd2 (fun _ z=>nomatch z)
   rw [List.range_succ,ė]
   refine Paired.snoc (Paired.mapP hP fun _ _ f=>(f.same u12).tup tu) ?_
   have lw:=low (n:=1 + (0 + (i:Int))) (d:=1) (by decide) (by simp)
   refine ⟨t2,.ref t1,rfl,tu _ _ Á,?_⟩
   exact ((FrV.newOf (r:=Ě (1 + (0 + (i:Int))) 1) (p:=t1) lw.1.symm lw.2.symm).same u2).tup tu
  rintro σ' H1 ⟨v,xs,rfl,s1,hd,hP⟩
  have hP:Paired (PlV H1) xs ((Ķ n).map (mkC b s0)):=by simpa using hP
  refine ⟨_,rfl,_,rfl,by omega,by omega,?_⟩
  refine Ż (fun i σ H2=>∃ (v5:Option V) (xs:List V) (ps:List Plc),σ = [some (.int c),some (.int (n:Nat)),some (.int (s':Nat)),some (.str b),some (.ref D),v5] /\ Same H H2 /\ H2 D = some (.lst xs) /\ Paired (PlV H2) xs ps /\ ps.Perm (sks.take i ++ (Ķ n).map (mkC b s0))) ⟨none,xs,_,rfl,s1,hd,hP,List.Perm.refl _⟩ ?_ ?_
  ·rintro i σ H2 hi ⟨v5,xs,ps,rfl,s2,hd2,hP2,pm⟩
   have hi:i < s':=by simpa using hi
   have hpl:xs.length = ps.length:=hP2.length
   have pl:=pm.length_eq
   rw [Ĝ,ē,ā,ŝ] at pl
   have s2l:sks.length = 2:=rfl
   have ql:=ò (c:=c.fdiv 32) (m:=((xs.length:Nat):Int) + 1) (by omega)
   obtain ⟨j,ej⟩:=ķ ql.1
   obtain ⟨z,hz⟩:∃ z,(["out","oust"]:List Str)[i]? = some z:=by
    have:i = 0 \/ i = 1:=by omega
    rcases this with rfl | rfl
    ·exact ⟨_,rfl⟩
    ·exact ⟨_,rfl⟩
   have hatk:atI ((["out","oust"]:List Str).map V.str) (0 + (i:Int)) = some (.str z):=by
    rw [Int.zero_add]; exact zK7 (by rw [đ,hz]; rfl)
   refine ⟨_,rfl,.inl ⟨rfl,_,SqL.of hd2⟩,_,rfl,_,_,rfl,rfl,ddv (by decide) (by decide),_,rfl,_,_,rfl,.inl ⟨_,SqL.of hd2,rfl⟩,_,_,rfl,rfl,_,_,rfl,rfl,(show ((xs.length:Nat):Int) + 1 ≠ 0 by omega),sz (by simp),fun l3 hl3=>?_⟩
   have u3:=Same.upd (o:=.lst [V.str "out",.str "oust"]) hl3
   refine ⟨_,rfl,l3,_,_,_,rfl,rfl,SqL.of Á,hatk,sz (by simp),fun t3 ht3=>?_⟩
   have u34:=u3.trans (Same.upd (o:=.tup [V.str "sink",.str z]) ht3)
   have hd4:=u34 _ _ hd2
   refine ⟨D,xs,j,.ref t3,rfl,?_,hd4,by omega,by omega,?_⟩
   ·show [V.int ((c.fdiv 32).fmod (((xs.length:Nat):Int) + 1)),V.ref t3] = _
    rw [ej]
   have tu:=Ñ (o:=.lst (xs.take j ++ .ref t3 :: xs.drop j)) hd4 (fun _ z=>nomatch z)
   have hP4:=Paired.mapP hP2 fun _ _ f=>PlV.tup tu (f.same u34)
   refine ⟨_,xs.take j ++ .ref t3 :: xs.drop j,ps.take j ++ .sk z :: ps.drop j,rfl,(s2.trans u34).updD hD0,Á,?_,?_⟩
   ·exact Paired.app (Paired.take hP4 j) (.cons ⟨t3,rfl,tu _ _ Á⟩ (Paired.drop hP4 j))
   ·have e:sks.take (i + 1) = sks.take i ++ [.sk z]:=Û (by unfold sks; rw [đ,hz]; rfl)
    rw [e,List.append_assoc]
    refine List.perm_middle.trans ?_
    rw [List.take_append_drop]
    exact (pm.cons _).trans List.perm_middle.symm
  ·rintro σ H2 ⟨v5,xs,ps,rfl,s2,hd2,hP2,pm⟩
   have pm:ps.Perm (sks.take s' ++ (Ķ n).map (mkC b s0)):=by simpa using pm
   obtain ⟨h1,h2,h3,h4⟩:=yY8 (hok s0 (List.mem_range.mpr s8)) n1 n5 hs2 pm
   exact ⟨_,rfl,k D H2 xs ps hD0 s2 hd2 hP2 h1 h2 h3 h4⟩
noncomputable abbrev zB8:Stmt:=top 43
theorem sc__law_share:Ì ["_law_number","_law_fine_here","_law_bottom"] ["_law_number","_law_fine_here"] (Å zB8):=scF
theorem zS6 {ca:Ca} (D:DefAt K mg "_law_share" zB8) (T:Txt K mg ca) (G__law_lowest:FnAt P w K mg base CX0 2 "_law_lowest" ["_law_top","_law_bottom"] (zF6)):FnAt P w K mg base CX0 3 "_law_share" ["_law_number","_law_fine_here"] (yE4):=by
 refine D.ok sc__law_share (fun vs H Q E h=>?_) (fun _ _ _ _ _ _ us hl=>match us,hl with | [_,_],_=>rfl) (fun f cdv A outer s H vs Q E hr h=>?_)
 ·obtain ⟨m,f,rfl,hf,k⟩:=h; rfl
 ·obtain ⟨m,f,rfl,hf,k⟩:=h
  have nd:=sc__law_share.nd
  refine ⟨_,(Ã (Ê (i:=2) nd rfl (Or.inl rfl) (Ó Ε Ä (Ó ì (pv 0) (pixL (ų (À Ä (À Ä Â))) (pv 1)))))
   (Æ (Ï (pfn G__law_lowest hr (À (Ó ì (Ó á (pv 0) (Ó yP4 Ä Ä)) (Ó Ε (pv 2) Ä)) (À (pv 2) Â)))))),?_⟩
  obtain ⟨w,hw,hat⟩:∃ w:Int,(w = 9 \/ w = 99) /\ atI [V.int 9,.int 99] f = some (.int w):=by
   rcases hf with rfl | rfl
   ·exact ⟨9,.inl rfl,rfl⟩
   ·exact ⟨99,.inr rfl,rfl⟩
  have q:=ò (c:=m) (m:=w) (by omega)
  refine ⟨_,rfl,sz (by simp),fun l hl=>⟨_,rfl,l,_,_,_,rfl,rfl,SqL.of Á,hat,_,_,rfl,rfl,(show w ≠ 0 by omega),_,_,rfl,rfl,?_⟩⟩
  have sl:=Same.upd (o:=.lst [V.int 9,.int 99]) hl
  let b:Int:=1 + m.fmod w
  have b1:1 <= b:=by show 1 <= 1 + m.fmod w; omega
  have b2:b <= 99:=by show 1 + m.fmod w <= 99; omega
  have bb:b.natAbs < 2 ^ 40:=Ę (m:=99) (by omega) (by decide)
  refine ⟨_,rfl,_,_,rfl,rfl,⟨by decide,by decide,by decide⟩,_,_,rfl,rfl,(by rw [xJ7]; exact zK1 (by decide) (by decide)),_,rfl,_,_,rfl,rfl,_,_,rfl,rfl,(show b + 1 ≠ 0 by omega),_,rfl,_,_,rfl,(show b ≠ 0 by omega),ď bb (Δ (by decide)),fun w H' s' f'=>?_⟩
  have q:=ò (c:=m.fdiv ((10:Int) ^ (5:Int).toNat)) (m:=b + 1) (by omega)
  have fr:=xD1 (u:=(m.fdiv ((10:Int) ^ (5:Int).toNat)).fmod (b + 1)) (b:=b) q.1 (by omega) (by omega)
  exact k w H' _ (sl.trans s') f' fr.1 fr.2 (č (zI3 _ b (by omega)) (by omega))
noncomputable abbrev zB9:Stmt:=top 44
theorem sc__law_named:Ì ["_law_house_here","_law_sort"] ["_law_house_here","_law_sort"] (Å zB9):=scF
theorem zS7 {ca:Ca} (D:DefAt K mg "_law_named" zB9) (T:Txt K mg ca):FnAt P w K mg base CX0 1 "_law_named" ["_law_house_here","_law_sort"] (yM1 K):=by
 refine D.ok sc__law_named (fun vs H Q E h=>?_) (fun _ _ _ _ _ _ us hl=>match us,hl with | [_,_],_=>rfl) (fun f cdv A outer s H vs Q E hr h=>?_)
 ·obtain ⟨a,xs,ps,bb,rfl,hS,hP,h8,k⟩:=h; rfl
 ·obtain ⟨a,xs,ps,bb,rfl,hS,hP,h8,k⟩:=h
  have nd:=sc__law_named.nd
  refine ⟨_,(Æ (Ï (Κ ["_law_place"] ["_law_sort"] [1] rfl (by rfl) (è (K:=K) rfl (pv 0)) (fun _ _ _ _=>(È (i:=0) (show List.Nodup (["_law_place","_law_sort"]:List Str) from by decide) rfl (Or.inl rfl))) (fun _ _ _ _=>(zN2 (Õ ξ (pixT (pv 0) Ä) (pv 1) (Ù _)))) (fun _ _ _ _=>(pixT (pv 0) Ä))))),?_⟩
  have hlen:xs.length = ps.length:=hP.length
  refine ⟨_,rfl,a,rfl,⟨_,hS⟩,fun D hD=>?_⟩
  refine zD9 (xs:=xs) (fun j σ' H'=>∃ (v:Option V),σ' = [v,some (.str (kd bb))] /\ Same H H' /\ H' D = some (.lst ((((ps.take j).filter fun q=>isC q == bb).map nmP).map V.str))) ⟨none,rfl,Same.upd hD,Á⟩ ?_ ?_ ?_
  ·rintro j σ' H' hj ⟨v,rfl,s2,hd⟩
   exact s2.seq hS
  ·rintro j y σ' H' hy ⟨v,rfl,s2,hd⟩
   obtain ⟨p,hp,pv⟩:=à hP hy
   obtain ⟨b,ys,rfl,hb,e0,e1⟩:=pv.at
   refine ⟨_,rfl,b,_,_,_,rfl,rfl,SqT.of (s2 _ _ hb),e0,_,rfl,rfl,_,rfl,?_⟩
   by_cases hc:isC p = bb
   ·refine zG3 (by rw [hc]) ?_
    refine ⟨_,rfl,b,_,_,_,rfl,rfl,SqT.of (s2 _ _ hb),e1,_,hd,?_,_,rfl,s2.updD hD,?_⟩
    ·have h1:=Į (fun q=>isC q == bb) (ps.take j)
     rw [ē] at h1
     rw [ā,ā]
     exact sz (by omega)
    ·rw [Á,Û hp,Ĭ,ė,ė]
     simp [hc]
   ·refine zF0 ?_ ?_
    ·intro e
     have e:kd (isC p) = kd bb:=V.str.inj e
     cases h1:isC p <;> cases h2:bb <;> rw [h1,h2] at e hc <;> first | exact hc rfl | exact absurd e (by decide +kernel)
    refine ⟨_,rfl,s2,?_⟩
    rw [hd,Û hp,Ĭ]
    simp [hc]
  ·rintro σ' H2 ⟨v,rfl,s2,hd⟩
   rw [hlen,Đ] at hd
   exact k D H2 hD s2 hd
noncomputable abbrev zC7:Stmt:=top 45
theorem sc__law_step:Ì ["_law_number","_law_x","_law_others","_law_fine_here","_law_amount"] ["_law_number","_law_x","_law_others","_law_fine_here"] (Å zC7):=scF
theorem zX8 {ca:Ca} (D:DefAt K mg "_law_step" zC7) (T:Txt K mg ca) (G__law_lowest:FnAt P w K mg base CX0 2 "_law_lowest" ["_law_top","_law_bottom"] (zF6)) (G__law_share:FnAt P w K mg base CX0 3 "_law_share" ["_law_number","_law_fine_here"] (yE4)):FnAt P w K mg base CX0 4 "_law_step" ["_law_number","_law_x","_law_others","_law_fine_here"] (yL8):=by
 refine D.ok sc__law_step (fun vs H Q E h=>?_) (fun _ _ _ _ _ _ us hl=>match us,hl with | [_,_,_,_],_=>rfl) (fun f cdv A outer s H vs Q E hr h=>?_)
 ·obtain ⟨n,x,ao,os,L,f,rfl,ha,h8,hx,hos,hf,k⟩:=h; rfl
 ·obtain ⟨n,x,ao,os,L,f,rfl,ha,h8,hx,hos,hf,k⟩:=h
  have nd:=sc__law_step.nd
  refine ⟨_,(Ã (ø (PW.pt (π (Õ ξ (Ó ì (pv 0) Ä) Ä (Ù _)) (ι (Õ (Τ (K:=K) rfl hr) (pv 2) (ų Â) (Ù _))))) (Ã (Ê (i:=4) nd rfl (Or.inl rfl) (pfn G__law_lowest hr (À (Ó Ε Ä (Ó ì (Ó á (pv 0) Ä) Ä)) (À (Ó Ε Ä (Ó ì (Ó á (pv 0) Ä) Ä)) Â))))
   (Æ (Ï (Ü (À ó (À (Ü (À (pixL (ų (À ó (À ó Â))) (Ó ì (Ó á (pv 0) Ä) Ä)) (À (Ó Ε Ä (Ó ì (Ó á (pv 0) Ä) Ä)) Â))) (À (pv 1) (À (pv 4) Â)))))))) Þ)
   (Æ (Ï (Ü (À ó (À (pv 1) (À (pixL (pv 2) (Ó ì (Ó á (pv 0) Ä) (Ô (í (K:=K) rfl) (by rfl) T.z_len PySem.boot_len (À (pv 2) Â)))) (À (pfn G__law_share hr (À (Ó á (pv 0) Ä) (À (pv 3) Â))) Â)))))))),?_⟩
  have q4:=ò (c:=n.fdiv 4000) (m:=4) (by decide)
  have q2:=ò (c:=n.fdiv 7) (m:=2) (by decide)
  obtain ⟨z3,hz3,hat3⟩:=zV8 (zs:=["ab","b"]) q2.1 (by simpa using q2.2)
  have lz3:Lay z3:=lay3 z3 (by simp at hz3 ⊢; rcases hz3 with e | e <;> simp [e])
  refine ⟨_,rfl,_,_,rfl,rfl,(show (4:Int) ≠ 0 by decide),rfl,_,rfl,?_⟩
  refine ite2 (fun _=>?A) (fun _=>?X)
  case' A =>
   refine iteT ?_
   have t1:=Same.refl H
  case' X =>
   refine ⟨_,rfl,sz (by simp),fun l0 hl0=>?_⟩
   have t1:=Same.upd (o:=.lst []) hl0
   refine ⟨_,_,zF1 (t1 _ _ ha) (fun z hz=>(hos z hz).2.2),zM7 Á,zD3 _,_,rfl,?_⟩
   rw [zE9]
   refine ite2 (fun _=>?B) (fun he=>?P)
  case P =>
   have he:¬ os.isEmpty = true:=he
   have hlen:1 <= os.length:=by
    cases os with
    | nil=>exact absurd rfl he
    | cons a r=>simp
   have hml:(os.map V.str).length = os.length:=ā ..
   have qy:=ò (c:=n.fdiv 4) (m:=(((os.map V.str).length:Nat):Int)) (by rw [hml]; omega)
   obtain ⟨y0,hy0,haty⟩:=zV8 (zs:=os) qy.1 (by have:=qy.2; omega)
   obtain ⟨hyL,hyx,_⟩:=hos y0 hy0
   refine ⟨_,rfl,_,rfl,_,rfl,_,_,rfl,rfl,ddv (by decide) (by decide),_,rfl,_,_,rfl,.inl ⟨_,SqL.of (t1 _ _ ha),rfl⟩,_,_,rfl,rfl,(show (((os.map V.str).length:Nat):Int) ≠ 0 by rw [hml]; omega),ao,_,_,_,rfl,rfl,SqL.of (t1 _ _ ha),haty,_,rfl,_,_,rfl,rfl,ddv (by decide) (by decide),_,rfl,_,f,rfl,hf,fun w3 H3 t s3 f3 t0 t1' td=>⟨sz (by simp),fun l5 hl5=>?_⟩⟩
   have t5:=Same.upd (o:=.tup [V.str "pass",.str x,.str y0,w3]) hl5
   exact k _ _ (.ps x y0 t) (t1.trans (s3.trans t5)) ⟨l5,w3,rfl,Á,f3.same t5⟩ ⟨⟨hx,hyL,hyx.symm,t0,t1',Ę td (by decide)⟩,td⟩
  all_goals
   refine ⟨_,rfl,_,_,rfl,rfl,ddv (by decide) (by decide),_,_,rfl,rfl,(show (999:Int) ≠ 0 by decide),_,_,rfl,rfl,_,rfl,_,_,rfl,rfl,ddv (by decide) (by decide),_,_,rfl,rfl,(show (4:Int) ≠ 0 by decide),_,_,rfl,rfl,_,_,rfl,(show 1 + (n.fdiv 4000).fmod 4 ≠ 0 by omega),Ę (m:=10) (show (1 + (n.fdiv 4000).fmod 4).natAbs <= 10 by omega) (by decide),fun w2 H2 s2 f2=>?_⟩
   refine ⟨sz (by simp),fun l3 hl3=>?_⟩
   have t3:=Same.upd (o:=.lst [V.str "ab",.str "b"]) hl3
   refine ⟨_,rfl,_,_,rfl,rfl,ddv (by decide) (by decide),_,_,rfl,rfl,(show (2:Int) ≠ 0 by decide),l3,_,_,_,rfl,rfl,SqL.of Á,hat3,_,rfl,_,_,rfl,rfl,ddv (by decide) (by decide),_,_,rfl,rfl,(show (3:Int) ≠ 0 by decide),_,_,rfl,rfl,sz (by simp),fun l4 hl4=>?_⟩
   have t4:=Same.upd (o:=.tup [V.str z3,.int (2000 + (n.fdiv 21).fmod 3)]) hl4
   refine ⟨_,rfl,_,rfl,sz (by simp),fun l5 hl5=>?_⟩
   have t5:=Same.upd (o:=.tup [V.str "bring",.ref l4,.str x,w2]) hl5
   have t35:=t3.trans (t4.trans t5)
   exact k _ _ (.br z3 (2000 + (n.fdiv 21).fmod 3) x (Ě (1 + (n.fdiv 4).fmod 999) (1 + (n.fdiv 4000).fmod 4))) (t1.trans (s2.trans t35)) ⟨l5,l4,w2,rfl,Á,t5 _ _ Á,f2.same t35⟩ ⟨⟨hx,lz3⟩,xQ1 (by have:=ò (c:=n.fdiv 4) (m:=999) (by decide); omega) (by have:=ò (c:=n.fdiv 4) (m:=999) (by decide); omega) (by omega) (by omega)⟩
noncomputable abbrev zB7:Stmt:=top 46
theorem sc__law_steps:Ì ["_law_cells","_law_house_here","_law_fine_here","_law_drained","_law_casks_here","_law_sinks","_law_steps_here","_law_cell","_law_number","_law_x","_law_others","_law_k"] ["_law_cells","_law_house_here","_law_fine_here","_law_drained"] (Å zB7):=scF
theorem zS5 {ca:Ca} (D:DefAt K mg "_law_steps" zB7) (T:Txt K mg ca) (G__law_named:FnAt P w K mg base CX0 1 "_law_named" ["_law_house_here","_law_sort"] (yM1 K)) (G__law_mixed:FnAt P w K mg base CX0 1 "_law_mixed" ["_law_cell"] (zR1)) (G__law_step:FnAt P w K mg base CX0 4 "_law_step" ["_law_number","_law_x","_law_others","_law_fine_here"] (yL8)):FnAt P w K mg base CX0 5 "_law_steps" ["_law_cells","_law_house_here","_law_fine_here","_law_drained"] (yE1 K):=by
 refine D.ok sc__law_steps (fun vs H Q E h=>?_) (fun _ _ _ _ _ _ us hl=>match us,hl with | [_,_,_,_],_=>rfl) (fun f cdv A outer s H vs Q E hr h=>?_)
 ·obtain ⟨ac,ah,ms,xs,ps,f,d,rfl,hC,hm10,hH,hP,ok,hck,hc5,hf,k⟩:=h; rfl
 ·obtain ⟨ac,ah,ms,xs,ps,f,d,rfl,hC,hm10,hH,hP,ok,hck,hc5,hf,k⟩:=h
  have nd:=sc__law_steps.nd
  refine ⟨_,(Ã (Ê (i:=4) nd rfl (Or.inr rfl) (pfn G__law_named hr (À (pv 1) (À ó Â))))
   (Ã (Ê (i:=5) nd rfl (Or.inl rfl) (pfn G__law_named hr (À (pv 1) (À ó Â))))
   (Ã (Ê (i:=6) nd rfl (Or.inl rfl) (ų Â))
   (Ã (ø (PW.pt (xB5 (Õ ξ (pv 3) Ä (Ù _)) (yO2 (Õ (zG8 (K:=K) rfl hr) (pv 5) (ų Â) (Ù _))))) (Ã (ù (ρ PySem.F.plainAttrs_list PySem.F.slot_list_append PySem.F.type_list_append û (pv 6) (À (Ü (À ó (À (pixL (pv 4) Ä) (À (pixL (pv 5) Ä) (À (Ü (À Ä (À Ä Â))) Â))))) Â)))
   (Æ (Ê (i:=6) nd rfl (Or.inl rfl) (Ó xC3 (pv 6) (Κ ["_law_k"] ["_law_casks_here"] [4] rfl (by rfl) (yP0 (by rfl) T.z_range (À Ä (À (Ô (í (K:=K) rfl) (by rfl) T.z_len PySem.boot_len (À (pv 4) Â)) Â))) (fun _ _ _ _=>(È (i:=0) (show List.Nodup (["_law_k","_law_casks_here"]:List Str) from by decide) rfl (Or.inl rfl))) (fun _ _ _ _=>Η) (fun _ _ _ _=>(Ü (À ó (À (pixL (pv 1) (pv 0)) (À (pixL (pv 1) (Ó yF6 (pv 0) Ä)) (À (Ü (À Ä (À (Ó Ε Ä (pv 0)) Â))) Â))))))))))) Þ)
   (Ã (ß PassesOwn.never rfl (è (K:=K) rfl (pv 0)) (È (i:=7) nd rfl (Or.inl rfl)) (Ã (Ê (i:=8) nd rfl (Or.inl rfl) (pfn G__law_mixed hr (À (pv 7) Â)))
   (Ã (Ê (i:=9) nd rfl (Or.inr rfl) (pixL (pv 4) (Ó ì (pv 8) (Ô (í (K:=K) rfl) (by rfl) T.z_len PySem.boot_len (À (pv 4) Â)))))
   (Ã (zJ6 ["_law_place"] ["_law_x"] [9] (i:=10) nd rfl rfl rfl (by rfl) (è (K:=K) rfl (pv 1)) (fun _ _ _ _=>(È (i:=0) (show List.Nodup (["_law_place","_law_x"]:List Str) from by decide) rfl (Or.inl rfl))) (fun _ _ _ _=>(zN2 (Õ yB4 (pixT (pv 0) Ä) (pv 1) (Ù _)))) (fun _ _ _ _=>(pixT (pv 0) Ä)))
   (Æ (ù (ρ PySem.F.plainAttrs_list PySem.F.slot_list_append PySem.F.type_list_append û (pv 6) (À (pfn G__law_step hr (À (Ó á (pv 8) Ä) (À (pv 9) (À (pv 10) (À (pv 2) Â))))) Â))))))))
   (Ã (ø (PW.pt (xB5 (Õ ξ (pv 3) Ä (Ù _)) (yO2 (Õ (zG8 (K:=K) rfl hr) (pv 5) (ų Â) (Ù _))))) (Æ (ß PassesOwn.never rfl (ŷ (by rfl) T.z_range (À (Ô (í (K:=K) rfl) (by rfl) T.z_len PySem.boot_len (À (pv 4) Â)) Â)) (È (i:=11) nd rfl (Or.inl rfl)) (Æ (ù (ρ PySem.F.plainAttrs_list PySem.F.slot_list_append PySem.F.type_list_append û (pv 6) (À (Ü (À ó (À (pixL (pv 4) (pv 11)) (À (pixL (pv 5) (Ó ì (pv 11) (Ô (í (K:=K) rfl) (by rfl) T.z_len PySem.boot_len (À (pv 5) Â)))) (À (Ü (À Ä (À (Ó Ε Ä (pv 11)) Â))) Â))))) Â)))))) Þ)
   (Æ (Ï (pv 6))))))))),?_⟩
  have hlen:xs.length = ps.length:=hP.length
  refine ⟨_,rfl,ah,xs,ps,true,rfl,SqL.of hH,hP,ok.len,fun pc H1 hpc s1 h1=>?_⟩
  rw [xR2] at h1
  refine ⟨_,rfl,ah,xs,ps,false,rfl,SqL.of (s1 _ _ hH),Ð hP s1,ok.len,fun pk H2 hpk s2 h2=>?_⟩
  have h2:H2 pk = some (.lst ((skN ps).map V.str)):=h2
  have s02:=s1.trans s2
  have h12:=s2 _ _ h1
  refine ⟨sz (by simp),fun p hp=>?_⟩
  have tp:=Same.upd (o:=.lst []) hp
  have hp0:=s02.free hp
  have c8:(ckN ps).length <= 8:=č zZ4 ok.len
  have c1:1 <= (ckN ps).length:=by
   cases e:ckN ps with
   | nil=>exact absurd e hck
   | cons a r=>simp
  have k8:(skN ps).length <= 8:=by
   unfold skN
   rw [ā]
   exact č (Į _ _) ok.len
  have hml:((ckN ps).map V.str).length = (ckN ps).length:=ā ..
  have hkl:((skN ps).map V.str).length = (skN ps).length:=ā ..
  have layk:∀ z ∈ skN ps,Lay z:=fun z hz=>ok.lay z (yN2 hz)
  obtain ⟨x00,hx00⟩:∃ z,(ckN ps)[0]? = some z:=⟨_,Č (by omega)⟩
  refine ⟨_,rfl,rfl,_,rfl,?_⟩
  refine ite2 (fun hd2=>?X) (fun _=>?C)
  case' X =>
   refine ⟨_,rfl,sz (by simp),fun l0 hl0=>?_⟩
   have t0:=tp.trans (Same.upd (o:=.lst []) hl0)
   refine ⟨_,_,zF1 (t0 _ _ h2) layk,zM7 Á,zD3 _,_,rfl,?_⟩
   rw [zE9]
   refine ite2 (fun he=>?A) (fun _=>?B)
  case' A =>
   have he:(!(skN ps).isEmpty) = true:=he
   have k1:1 <= (skN ps).length:=by
    cases e:skN ps with
    | nil=>rw [e] at he; cases he
    | cons a r=>simp
   obtain ⟨y00,hy00⟩:∃ z,(skN ps)[0]? = some z:=⟨_,Č (by omega)⟩
   have hp1:=(Same.upd (o:=.lst []) hl0) _ _ (Á (H:=H2) (a:=p) (o:=.lst []))
   refine ⟨_,rfl,.inl ⟨rfl,_,SqL.of hp1⟩,_,rfl,pc,_,_,_,rfl,rfl,SqL.of (t0 _ _ h12),yA3 hx00,_,rfl,pk,_,_,_,rfl,rfl,SqL.of (t0 _ _ h2),yA3 hy00,sz (by simp),fun t1 ht1=>⟨sz (by simp),fun t2 ht2=>?_⟩⟩
   have u1:=Same.upd (o:=.tup [.int 1,.int 2]) ht1
   have u2:=Same.upd (o:=.tup [V.str "pass",.str x00,.str y00,.ref t1]) ht2
   have u12:=u1.trans u2
   refine ⟨p,_,_,rfl,rfl,u12 _ _ hp1,sz (by simp),?_⟩
   have tu:=Ñ (o:=.lst ([] ++ [.ref t2])) (u12 _ _ hp1) (fun _ z=>nomatch z)
   have uf:=zM0 (d:=2) (by decide) (by decide)
   have st0:=((t0.trans u12).updD (o:=.lst ([] ++ [.ref t2])) hp)
   have sv0:StV (upd (upd (upd (upd (upd H2 p (.lst [])) l0 (.lst [])) t1 (.tup [.int 1,.int 2])) t2 (.tup [V.str "pass",.str x00,.str y00,.ref t1])) p (.lst ([] ++ [.ref t2]))) (.ref t2) (.ps x00 y00 (Ě 1 2)):=⟨t2,.ref t1,rfl,tu _ _ Á,((FrV.newOf (r:=Ě 1 2) (p:=t1) uf.1 uf.2.1).same u2).tup tu⟩
   have so0:OkT (allN ps) (.ps x00 y00 (Ě 1 2)):=⟨⟨ż (ċ hx00),yN2 (ċ hy00),xN2 ok (ċ hx00) (ċ hy00),uf.2.2⟩,yK4 (by decide) (by decide)⟩
   have hp2:=Á (H:=upd (upd (upd (upd H2 p (.lst [])) l0 (.lst [])) t1 (.tup [.int 1,.int 2])) t2 (.tup [V.str "pass",.str x00,.str y00,.ref t1])) (a:=p) (o:=.lst ([] ++ [.ref t2]))
   generalize upd (upd (upd (upd (upd H2 p (.lst [])) l0 (.lst [])) t1 (.tup [.int 1,.int 2])) t2 (.tup [V.str "pass",.str x00,.str y00,.ref t1])) p (.lst ([] ++ [.ref t2])) = H3 at *
   have hc3:=st0 _ _ h12
   refine ⟨_,rfl,_,rfl,_,_,rfl,.inl ⟨_,SqL.of hc3,rfl⟩,1,_,rfl,⟨by decide,by decide,by rw [hml]; omega,by rw [hml]; omega⟩,fun D hD=>?_⟩
   refine zO5 (fun i σ' H'=>∃ (v:Option V) (ys:List V) (ss:List Stp),σ' = [v,some (.ref pc)] /\ Same H3 H' /\ H' D = some (.lst ys) /\ Paired (StV H') ys ss /\ (∀ s ∈ ss,OkT (allN ps) s) /\ ss.length = i) ⟨none,[],[],rfl,Same.upd hD,Á,.nil,(fun _ z=>nomatch z),rfl⟩ ?_ ?_
   ·rintro i σ' H' hi ⟨v,ys,ss,rfl,s3,hd,hY,hO,hl⟩
    have hi:i + 1 < (ckN ps).length:=by
     have hi:i < ((((ckN ps).map V.str).length:Nat) - 1:Int).toNat:=hi
     rw [hml] at hi; omega
    have hyl:ys.length = i:=hY.length.trans hl
    obtain ⟨x1,hx1⟩:∃ z,(ckN ps)[i + 1]? = some z:=⟨_,Č hi⟩
    obtain ⟨x2,hx2⟩:∃ z,(ckN ps)[i]? = some z:=⟨_,Č (by omega)⟩
    have e1:atI ((ckN ps).map V.str) (1 + (i:Int)) = some (.str x1):=by
     have:=yA3 hx1
     have e:((i + 1:Nat):Int) = 1 + (i:Int):=by omega
     rw [e] at this; exact this
    have e2:atI ((ckN ps).map V.str) (1 + (i:Int) - 1) = some (.str x2):=by
     have:=yA3 hx2
     have e:(i:Int) = 1 + (i:Int) - 1:=by omega
     rw [e] at this; exact this
    have hc4:=s3 _ _ hc3
    refine ⟨_,rfl,_,rfl,pc,_,_,_,rfl,rfl,SqL.of hc4,e1,_,rfl,_,rfl,_,_,rfl,rfl,pc,_,_,_,rfl,rfl,SqL.of hc4,e2,_,rfl,_,_,rfl,rfl,sz (by simp),fun t3 ht3=>⟨sz (by simp),fun t4 ht4=>?_⟩⟩
    have v3:=Same.upd (o:=.tup [.int 1,.int (2 + (1 + (i:Int)))]) ht3
    have v4:=Same.upd (o:=.tup [V.str "pass",.str x1,.str x2,.ref t3]) ht4
    have v34:=v3.trans v4
    have hd4:=v34 _ _ hd
    have tv:=Ñ (o:=.lst (ys ++ [.ref t4])) hd4 (fun _ z=>nomatch z)
    have ug:=zM0 (d:=2 + (1 + (i:Int))) (by omega) (by omega)
    refine ⟨_,hd4,sz (by omega),_,ys ++ [.ref t4],ss ++ [.ps x1 x2 (Ě 1 (2 + (1 + (i:Int))))],rfl,(s3.trans v34).updD hD,Á,?_,?_,by rw [Ĝ,hl]; rfl⟩
    ·refine Paired.snoc (Paired.mapP hY fun _ _ g=>(g.same v34).tup tv) ?_
     exact ⟨t4,.ref t3,rfl,tv _ _ Á,((FrV.newOf (r:=Ě 1 (2 + (1 + (i:Int)))) (p:=t3) ug.1 ug.2.1).same v4).tup tv⟩
    ·intro s hs
     rcases Ĥ.mp hs with e | e
     ·exact hO s e
     ·rw [ě.mp e]
      exact ⟨⟨ż (ċ hx1),ż (ċ hx2),(xQ0 ok.ck hx2 hx1 (by omega)).symm,ug.2.2⟩,yK4 (by omega) (by omega)⟩
   rintro σ' H4 ⟨v,ys,ss,rfl,s3,hd,hY,hO,hl⟩
   have hl:ss.length + 1 <= 5:=by
    have hl:ss.length = ((((ckN ps).map V.str).length:Nat) - 1:Int).toNat:=hl
    rw [hml] at hl; omega
   have hyl:ys.length = ss.length:=hY.length
   have hp4:=s3 _ _ hp2
   refine ⟨p,D,_,ys,rfl,rfl,hp4,hd,sz (by simp; omega),fun p2 hp2'=>?_⟩
   let pp:Addr:=p2
   let ys':List V:=[] ++ [.ref t2] ++ ys
   let ss':List Stp:=[.ps x00 y00 (Ě 1 2)] ++ ss
   have w1:=(Same.upd (o:=.lst ([] ++ [.ref t2] ++ ys)) hp2')
   have s3':=st0.trans (s3.trans w1)
   have hp0':H pp = none:=s02.free (st0.free (s3.free hp2'))
   have hpp:=Á (H:=H4) (a:=p2) (o:=.lst ([] ++ [.ref t2] ++ ys))
   have hY':Paired (StV (upd H4 p2 (.lst ([] ++ [.ref t2] ++ ys)))) ys' ss':=Paired.app (.cons (sv0.same (s3.trans w1)) .nil) (Ö hY w1)
   have hO':∀ s ∈ ss',OkT (allN ps) s:=fun s hs=>by
    rcases Ĥ.mp hs with e | e
    ·rw [ě.mp e]; exact so0
    ·exact hO s e
   have hd2:d = 2:=by have:=of_decide_eq_true hd2; exact V.int.inj this
   have hl':ss'.length <= 5 /\ (d = 1->ss'.length = 0):=by
    refine ⟨?_,fun e=>by omega⟩
    show ([Stp.ps x00 y00 (Ě 1 2)] ++ ss).length <= 5; rw [Ĝ,ś]; omega
   have v11:Option V:=none
  case' B =>
   let pp:Addr:=p
   let ys':List V:=[]
   let ss':List Stp:=[]
   have s3':=t0
   have hp0':H pp = none:=hp0
   have hpp:=(Same.upd (o:=.lst []) hl0) _ _ (Á (H:=H2) (a:=p) (o:=.lst []))
   have hY':Paired (StV (upd (upd H2 p (.lst [])) l0 (.lst []))) ys' ss':=.nil
   have hO':∀ s ∈ ss',OkT (allN ps) s:=fun s hs=>absurd (show s ∈ ([]:List Stp) from hs) (by simp)
   have hl':ss'.length <= 5 /\ (d = 1->ss'.length = 0):=⟨by simp [ss'],fun _=>by simp [ss']⟩
  case' C =>
   refine iteF ?_
   let pp:Addr:=p
   let ys':List V:=[]
   let ss':List Stp:=[]
   have s3':=tp
   have hp0':H pp = none:=hp0
   have hpp:=(Á (H:=H2) (a:=p) (o:=.lst []))
   have hY':Paired (StV (upd H2 p (.lst []))) ys' ss':=.nil
   have hO':∀ s ∈ ss',OkT (allN ps) s:=fun s hs=>absurd (show s ∈ ([]:List Stp) from hs) (by simp)
   have hl':ss'.length <= 5 /\ (d = 1->ss'.length = 0):=⟨by simp [ss'],fun _=>by simp [ss']⟩
  all_goals
   have sA:=s02.trans s3'
   refine ⟨_,rfl,ac,rfl,⟨_,sA.seq hC⟩,?_⟩
   refine þ (xs:=ms.map V.int) (fun i σ H5=>∃ (v7 v8 v9 v10 v11:Option V) (ys:List V) (ss:List Stp),σ = [some (.ref ac),some (.ref ah),some (.int f),some (.int d),some (.ref pc),some (.ref pk),some (.ref pp),v7,v8,v9,v10,v11] /\ Same H2 H5 /\ H5 pp = some (.lst ys) /\ Paired (StV H5) ys ss /\ (∀ s ∈ ss,OkT (allN ps) s) /\ ss.length <= 5 + i /\ (d = 1->ss.length <= i)) ⟨none,none,none,none,none,ys',ss',rfl,s3',hpp,hY',hO',by omega,fun e=>by have:=hl'.2 e; omega⟩ ?_ ?_ ?_
   ·rintro i σ H5 hi ⟨v7,v8,v9,v10,v11,ys,ss,rfl,s5,h5,hY,hO,hl,hl1⟩
    exact (s02.trans s5).seq hC
   ·rintro i x σ H5 hx ⟨v7,v8,v9,v10,v11,ys,ss,rfl,s5,h5,hY,hO,hl,hl1⟩
    obtain ⟨c,rfl,hci⟩:=xH0 hx
    have hi:i < ms.length:=(Ą.mp hci).1
    have hyl:ys.length = ss.length:=hY.length
    have s05:=s02.trans s5
    have hc5:=s5 _ _ h12
    refine ⟨_,rfl,c,rfl,fun m m0 m1=>?_⟩
    have qm:=ò (c:=m) (m:=((((ckN ps).map V.str).length:Nat):Int)) (by rw [hml]; omega)
    obtain ⟨x0,hx0,hat⟩:=zV8 (zs:=ckN ps) qm.1 (by have:=qm.2; omega)
    refine ⟨_,rfl,_,rfl,_,rfl,_,_,rfl,.inl ⟨_,SqL.of hc5,rfl⟩,_,_,rfl,rfl,(show ((((ckN ps).map V.str).length:Nat):Int) ≠ 0 by rw [hml]; omega),pc,_,_,_,rfl,rfl,SqL.of hc5,hat,?_⟩
    refine ⟨_,rfl,ah,rfl,⟨_,SqL.of (s05 _ _ hH)⟩,fun D hD=>?_⟩
    have hP5:=Ð hP s05
    refine zD9 (xs:=xs) (fun j σ' H'=>∃ (v:Option V),σ' = [v,some (.str x0)] /\ Same H5 H' /\ H' D = some (.lst (((allN (ps.take j)).filter fun z=>decide (z ≠ x0)).map V.str))) ⟨none,rfl,Same.upd hD,Á⟩ ?_ ?_ ?_
    ·rintro j σ' H' hj ⟨v,rfl,s6,hd⟩
     exact SqL.of (s6 _ _ (s05 _ _ hH))
    ·rintro j y σ' H' hy ⟨v,rfl,s6,hd⟩
     obtain ⟨q,hq,pv⟩:=à hP5 hy
     obtain ⟨b,zs,rfl,hb,_,e1⟩:=pv.at
     have et:allN (ps.take (j + 1)) = allN (ps.take j) ++ [nmP q]:=by unfold allN; rw [Û hq,ė]; rfl
     refine ⟨_,rfl,b,_,_,_,rfl,rfl,SqT.of (s6 _ _ hb),e1,_,rfl,rfl,_,rfl,?_⟩
     refine ite2 (fun e=>?_) (fun e=>?_)
     ·have e:(!decide (V.str (nmP q) = V.str x0)) = true:=e
      have ne:nmP q ≠ x0:=by intro z; rw [z] at e; simp at e
      refine ⟨_,rfl,b,_,_,_,rfl,rfl,SqT.of (s6 _ _ hb),e1,_,hd,?_,_,rfl,s6.updD hD,?_⟩
      ·rw [ā]
       have:=Į (fun z=>decide (z ≠ x0)) (allN (ps.take j))
       have h3:(allN (ps.take j)).length <= 8:=by
        unfold allN
        rw [ā,ē]
        have:=ok.len
        omega
       exact sz (by omega)
      ·rw [Á,et,Ĭ,ė]
       simp [ne]
     ·have e:¬ (!decide (V.str (nmP q) = V.str x0)) = true:=e
      have eq:nmP q = x0:=by
       by_cases h:nmP q = x0
       ·exact h
       ·exact absurd (by simp [h]) e
      refine ⟨_,rfl,s6,?_⟩
      rw [hd,et,Ĭ]
      simp [eq]
    ·rintro σ' H6 ⟨v,rfl,s6,hd⟩
     rw [hlen,Đ] at hd
     have h56:=s6 _ _ h5
     refine ⟨_,rfl,.inl ⟨rfl,_,SqL.of h56⟩,_,rfl,_,_,rfl,rfl,ddv (by decide) (by decide),_,rfl,_,rfl,_,rfl,_,x0,D,(allN ps).filter fun z=>decide (z ≠ x0),allN ps,f,rfl,hd,?_,ż hx0,fun z hz=>?_,hf,fun w H7 st s7 sv so=>?_⟩
     ·refine č (Į _ _) ?_
      unfold allN
      rw [ā]; exact ok.len
     ·obtain ⟨a1,a2⟩:=ġ.mp hz
      exact ⟨a1,by simpa using a2,ok.lay z a1⟩
     have s67:=s6.trans s7
     have h57:=s67 _ _ h5
     refine ⟨pp,_,_,rfl,rfl,h57,sz (by omega),?_⟩
     have tu:=Ñ (o:=.lst (ys ++ [w])) h57 (fun _ z=>nomatch z)
     have n2:H2 pp = none \/ pp = p:=by first | exact .inr rfl | exact .inl (st0.free (s3.free hp2'))
     refine ⟨_,_,_,_,_,ys ++ [w],ss ++ [st],rfl,?_,Á,?_,?_,by rw [Ĝ,ś]; omega,fun e=>by have:=hl1 e; rw [Ĝ,ś]; omega⟩
     ·rcases n2 with n2 | n2
      ·exact (s5.trans s67).updD n2
      ·rw [n2]; exact (s5.trans s67).updD hp
     ·exact Paired.snoc (Paired.mapP hY fun _ _ g=>(g.same s67).tup tu) (sv.tup tu)
     ·intro s hs
      rcases Ĥ.mp hs with e | e
      ·exact hO s e
      ·rw [ě.mp e]; exact so
   rintro σ H5 ⟨v7,v8,v9,v10,v11,ys,ss,rfl,s5,h5,hY,hO,hl,hl1⟩
   rw [ā] at hl hl1
   have n2:H2 pp = none \/ pp = p:=by first | exact .inr rfl | exact .inl (st0.free (s3.free hp2'))
   have s05:=s02.trans s5
   refine ⟨_,rfl,rfl,_,rfl,?_⟩
   refine ite2 (fun hd1=>?_) (fun _=>iteF ⟨_,rfl,k pp H5 ys ss hp0' s05 h5 hY hO (by omega)⟩)
   have hd1:d = 1:=V.int.inj (of_decide_eq_true hd1)
   have hl1:=hl1 hd1
   refine ⟨_,rfl,sz (by simp),fun l0 hl0=>?_⟩
   have t0:=(Same.upd (o:=.lst []) hl0)
   have hk5:=t0 _ _ (s5 _ _ h2)
   have hc5:=t0 _ _ (s5 _ _ h12)
   refine ⟨_,_,zF1 hk5 layk,zM7 Á,zD3 _,_,rfl,?_⟩
   rw [zE9]
   refine ite2 (fun he=>?_) (fun _=>⟨_,rfl,k pp _ ys ss hp0' (s05.trans t0) (t0 _ _ h5) (Ö hY t0) hO (by omega)⟩)
   have he:(!(skN ps).isEmpty) = true:=he
   have k1:1 <= (skN ps).length:=by
    cases e:skN ps with
    | nil=>rw [e] at he; cases he
    | cons a r=>simp
   refine ⟨_,rfl,_,_,rfl,.inl ⟨_,SqL.of hc5,rfl⟩,_,rfl,by rw [hml]; omega,by rw [hml]; omega,?_⟩
   refine Ż (fun i σ H6=>∃ (v11:Option V) (ys:List V) (ss:List Stp),σ = [some (.ref ac),some (.ref ah),some (.int f),some (.int d),some (.ref pc),some (.ref pk),some (.ref pp),v7,v8,v9,v10,v11] /\ Same H2 H6 /\ H6 pp = some (.lst ys) /\ Paired (StV H6) ys ss /\ (∀ s ∈ ss,OkT (allN ps) s) /\ ss.length <= 10 + i) ⟨v11,ys,ss,rfl,s5.trans t0,t0 _ _ h5,Ö hY t0,hO,by omega⟩ ?_ ?_
   ·rintro i σ H6 hi ⟨v11,ys,ss,rfl,s6,h6,hY,hO,hl⟩
    have hi:i < (ckN ps).length:=by
     have hi:i < ((((ckN ps).map V.str).length:Nat):Int).toNat:=hi
     rw [hml] at hi; simpa using hi
    have hyl:ys.length = ss.length:=hY.length
    obtain ⟨x1,hx1⟩:∃ z,(ckN ps)[i]? = some z:=⟨_,Č hi⟩
    have e1:atI ((ckN ps).map V.str) (0 + (i:Int)) = some (.str x1):=by rw [Int.zero_add]; exact yA3 hx1
    have qk:=ò (c:=0 + (i:Int)) (m:=((((skN ps).map V.str).length:Nat):Int)) (by rw [hkl]; omega)
    obtain ⟨y1,hy1,haty⟩:=zV8 (zs:=skN ps) qk.1 (by have:=qk.2; omega)
    have hc6:=s6 _ _ h12
    have hk6:=s6 _ _ h2
    refine ⟨_,rfl,.inl ⟨rfl,_,SqL.of h6⟩,_,rfl,_,rfl,pc,_,_,_,rfl,rfl,SqL.of hc6,e1,_,rfl,_,rfl,_,rfl,_,_,rfl,.inl ⟨_,SqL.of hk6,rfl⟩,_,_,rfl,rfl,(show ((((skN ps).map V.str).length:Nat):Int) ≠ 0 by rw [hkl]; omega),pk,_,_,_,rfl,rfl,SqL.of hk6,haty,_,rfl,_,_,rfl,rfl,sz (by simp),fun t3 ht3=>⟨sz (by simp),fun t4 ht4=>?_⟩⟩
    have v3:=Same.upd (o:=.tup [.int 1,.int (2 + (0 + (i:Int)))]) ht3
    have v4:=Same.upd (o:=.tup [V.str "pass",.str x1,.str y1,.ref t3]) ht4
    have v34:=v3.trans v4
    have h64:=v34 _ _ h6
    refine ⟨pp,_,_,rfl,rfl,h64,sz (by omega),?_⟩
    have tv:=Ñ (o:=.lst (ys ++ [.ref t4])) h64 (fun _ z=>nomatch z)
    have ug:=zM0 (d:=2 + (0 + (i:Int))) (by omega) (by omega)
    refine ⟨_,ys ++ [.ref t4],ss ++ [.ps x1 y1 (Ě 1 (2 + (0 + (i:Int))))],rfl,?_,Á,?_,?_,by rw [Ĝ,ś]; omega⟩
    ·rcases n2 with n2 | n2
     ·exact (s6.trans v34).updD n2
     ·rw [n2]; exact (s6.trans v34).updD hp
    ·refine Paired.snoc (Paired.mapP hY fun _ _ g=>(g.same v34).tup tv) ?_
     exact ⟨t4,.ref t3,rfl,tv _ _ Á,((FrV.newOf (r:=Ě 1 (2 + (0 + (i:Int)))) (p:=t3) ug.1 ug.2.1).same v4).tup tv⟩
    ·intro s hs
     rcases Ĥ.mp hs with e | e
     ·exact hO s e
     ·rw [ě.mp e]
      exact ⟨⟨ż (ċ hx1),yN2 hy1,xN2 ok (ċ hx1) hy1,ug.2.2⟩,yK4 (by omega) (by omega)⟩
   ·rintro σ H6 ⟨v11,ys,ss,rfl,s6,h6,hY,hO,hl⟩
    have hl:ss.length <= 10 + ((((ckN ps).map V.str).length:Nat):Int).toNat:=hl
    rw [hml] at hl
    have hl:ss.length <= 10 + (ckN ps).length:=by simpa using hl
    exact ⟨_,rfl,k pp H6 ys ss hp0' (s02.trans s6) h6 hY hO (by omega)⟩
noncomputable abbrev zC3:Stmt:=top 47
theorem sc__law_drawn:Ì ["_law_script","_law_first","_law_house_here"] ["_law_script"] (Å zC3):=scF
theorem zT1 {ca:Ca} (D:DefAt K mg "_law_drawn" zC3) (T:Txt K mg ca) (G__law_mixed:FnAt P w K mg base CX0 1 "_law_mixed" ["_law_cell"] (zR1)) (G__law_cell_at:FnAt P w K mg base CX0 1 "_law_cell_at" ["_law_script","_law_k"] (yM8 K)) (G__law_house:FnAt P w K mg base CX0 1 "_law_house" ["_law_cell","_law_casks_here","_law_sinks"] (yM6)) (G__law_steps:FnAt P w K mg base CX0 5 "_law_steps" ["_law_cells","_law_house_here","_law_fine_here","_law_drained"] (yE1 K)):FnAt P w K mg base CX0 6 "_law_drawn" ["_law_script"] (yM7 K):=by
 refine D.ok sc__law_drawn (fun vs H Q E h=>?_) (fun _ _ _ _ _ _ us hl=>match us,hl with | [_],_=>rfl) (fun f cdv A outer s H vs Q E hr h=>?_)
 ·obtain ⟨a,ns,rfl,hS,k⟩:=h; rfl
 ·obtain ⟨a,ns,rfl,hS,k⟩:=h
  have nd:=sc__law_drawn.nd
  refine ⟨_,(Ã (Ê (i:=1) nd rfl (Or.inl rfl) (pfn G__law_mixed hr (À (pfn G__law_cell_at hr (À (pv 0) (À Ä Â))) Â)))
   (Ã (Ê (i:=2) nd rfl (Or.inl rfl) (pfn G__law_house hr (À (pfn G__law_cell_at hr (À (pv 0) (À Ä Â))) (À (Ó Ε Ä (Ó ì (pv 1) Ä)) (À (Ó ì (Ó á (pv 1) Ä) Ä) Â)))))
   (Æ (Ï (ų (À (pv 2) (À (pfn G__law_steps hr (À (yX2 (yW4 (K:=K) rfl) (pv 0) (yO8 Ä) (yO8 Ä)) (À (pv 2) (À (Ó á (Ó ì (Ó á (pv 1) Ä) Ä) Ä) (À (Ó ì (Ó á (pv 1) Ä) Ä) Â))))) Â))))))),?_⟩
  refine ⟨_,rfl,a,ns,0,rfl,hS,by decide,fun c0=>⟨c0,rfl,fun m m0 m1=>?_⟩⟩
  have q5:=ò (c:=m) (m:=5) (by decide)
  have q3:=ò (c:=m.fdiv 5) (m:=3) (by decide)
  have qf:=ò (c:=m.fdiv 15) (m:=3) (by decide)
  obtain ⟨n0,en⟩:=ķ (show 0 <= 1 + m.fmod 5 by omega)
  obtain ⟨k0,ek⟩:=ķ q3.1
  refine ⟨_,rfl,a,ns,1,rfl,hS,by decide,fun c1=>⟨_,rfl,_,_,rfl,rfl,(show (5:Int) ≠ 0 by decide),_,_,rfl,rfl,_,rfl,_,_,rfl,rfl,ddv (by decide) (by decide),_,_,rfl,rfl,(show (3:Int) ≠ 0 by decide),c1,n0,k0,?_,by omega,by omega,by omega,fun ah H1 xs ps hah s1 h1 hP ok hck hcn _=>?_⟩⟩
  ·show [V.int c1,V.int (1 + m.fmod 5),V.int ((m.fdiv 5).fmod 3)] ++ [] = _
   rw [en,ek]; rfl
  have hc5:(ckN ps).length <= 5:=by omega
  obtain ⟨ms,ems,hms⟩:=xR1 ns
  refine ⟨_,rfl,_,rfl,2,rfl,12,rfl,a,_,rfl,s1.seq hS,fun q2 u2=>?_⟩
  have t2:=Same.upd (o:=.lst (cutV (ns.map V.int) (some 2) (some 12))) u2
  have hf:(((m.fdiv 15).fmod 3).fdiv 2 = 0 \/ ((m.fdiv 15).fmod 3).fdiv 2 = 1):=by
   have:(m.fdiv 15).fmod 3 = 0 \/ (m.fdiv 15).fmod 3 = 1 \/ (m.fdiv 15).fmod 3 = 2:=by omega
   rcases this with e | e | e
   ·left; rw [e]; decide
   ·left; rw [e]; decide
   ·right; rw [e]; decide
  refine ⟨_,rfl,_,rfl,_,_,rfl,rfl,ddv (by decide) (by decide),_,_,rfl,rfl,(show (3:Int) ≠ 0 by decide),_,_,rfl,rfl,ddv (by decide) (by decide),_,rfl,_,_,rfl,rfl,ddv (by decide) (by decide),_,_,rfl,rfl,(show (3:Int) ≠ 0 by decide),q2,ah,ms,xs,ps,_,_,rfl,(by rw [<- ems]; exact SqL.of Á),hms,t2 _ _ h1,Ð hP t2,ok,hck,hc5,hf,fun as H3 ys ss has s3 h3 hY hO h40=>⟨sz (by simp),fun p hp=>?_⟩⟩
  have t3:=Same.upd (o:=.lst [V.ref ah,V.ref as]) hp
  have s13:=t2.trans (s3.trans t3)
  exact k p _ ah as xs ps ys ss (s1.trans s13) Á (s13 _ _ h1) (Ð hP s13) ok hck hc5 (t3 _ _ h3) (Ö hY t3) hO h40
noncomputable abbrev zC8:Stmt:=top 48
theorem sc__law_plus:Ì ["_law_one","_law_other"] ["_law_one","_law_other"] (Å zC8):=scF
theorem zX9 {ca:Ca} (D:DefAt K mg "_law_plus" zC8) (T:Txt K mg ca) (G__law_lowest:FnAt P w K mg base CX0 2 "_law_lowest" ["_law_top","_law_bottom"] (zF6)):FnAt P w K mg base CX0 3 "_law_plus" ["_law_one","_law_other"] (sp2 4000 (· + ·)):=by
 refine D.ok sc__law_plus (fun vs H Q E h=>?_) (fun _ _ _ _ _ _ us hl=>match us,hl with | [_,_],_=>rfl) (fun f cdv A outer s H vs Q E hr h=>?_)
 ·obtain ⟨_,_,r,q,rfl,⟨a,rfl,ha⟩,⟨b,rfl,hb⟩,br,bq,k⟩:=h; rfl
 ·obtain ⟨_,_,r,q,rfl,⟨a,rfl,ha⟩,⟨b,rfl,hb⟩,br,bq,k⟩:=h
  have nd:=sc__law_plus.nd
  refine ⟨_,(Æ (Ï (pfn G__law_lowest hr (À (Ó Ε (Ó ź (pixT (pv 0) Ä) (pixT (pv 1) Ä)) (Ó ź (pixT (pv 1) Ä) (pixT (pv 0) Ä))) (À (Ó ź (pixT (pv 0) Ä) (pixT (pv 1) Ä)) Â))))),?_⟩
  have d1:=ã r
  have d2:=ã q
  refine ⟨_,rfl,a,_,_,_,rfl,rfl,SqT.of ha,rfl,_,rfl,b,_,_,_,rfl,rfl,SqT.of hb,rfl,_,_,rfl,rfl,ý 4000 br.num bq.den (by decide),_,rfl,b,_,_,_,rfl,rfl,SqT.of hb,rfl,_,rfl,a,_,_,_,rfl,rfl,SqT.of ha,rfl,_,_,rfl,rfl,ý 4000 bq.num br.den (by decide),_,_,rfl,rfl,_,rfl,a,_,_,_,rfl,rfl,SqT.of ha,rfl,_,rfl,b,_,_,_,rfl,rfl,SqT.of hb,rfl,_,_,rfl,rfl,ý 4000 br.den bq.den (by decide),_,_,rfl,ũ (by omega) (by omega),?_,fun v H' s h=>?_⟩
  ·have n1:((r.den:Int)).natAbs < 2 ^ 4000:=br.den
   have n2:((q.den:Int)).natAbs < 2 ^ 4000:=bq.den
   exact ď (zD1 n1 n2) (Δ (by decide))
  ·rw [<- xO2] at h
   exact k v H' s h
noncomputable abbrev zB5:Stmt:=top 49
theorem sc__law_times:Ì ["_law_one","_law_other"] ["_law_one","_law_other"] (Å zB5):=scF
theorem zS3 {ca:Ca} (D:DefAt K mg "_law_times" zB5) (T:Txt K mg ca) (G__law_lowest:FnAt P w K mg base CX0 2 "_law_lowest" ["_law_top","_law_bottom"] (zF6)):FnAt P w K mg base CX0 3 "_law_times" ["_law_one","_law_other"] (sp2 4000 (· * ·)):=by
 refine D.ok sc__law_times (fun vs H Q E h=>?_) (fun _ _ _ _ _ _ us hl=>match us,hl with | [_,_],_=>rfl) (fun f cdv A outer s H vs Q E hr h=>?_)
 ·obtain ⟨_,_,r,q,rfl,⟨a,rfl,ha⟩,⟨b,rfl,hb⟩,br,bq,k⟩:=h; rfl
 ·obtain ⟨_,_,r,q,rfl,⟨a,rfl,ha⟩,⟨b,rfl,hb⟩,br,bq,k⟩:=h
  have nd:=sc__law_times.nd
  refine ⟨_,(Æ (Ï (pfn G__law_lowest hr (À (Ó ź (pixT (pv 0) Ä) (pixT (pv 1) Ä)) (À (Ó ź (pixT (pv 0) Ä) (pixT (pv 1) Ä)) Â))))),?_⟩
  have d1:=ã r
  have d2:=ã q
  refine ⟨_,rfl,a,_,_,_,rfl,rfl,SqT.of ha,rfl,_,rfl,b,_,_,_,rfl,rfl,SqT.of hb,rfl,_,_,rfl,rfl,ý 4000 br.num bq.num (by decide),_,rfl,a,_,_,_,rfl,rfl,SqT.of ha,rfl,_,rfl,b,_,_,_,rfl,rfl,SqT.of hb,rfl,_,_,rfl,rfl,ý 4000 br.den bq.den (by decide),_,_,rfl,ũ (by omega) (by omega),?_,fun v H' s h=>?_⟩
  ·have n1:((r.den:Int)).natAbs < 2 ^ 4000:=br.den
   have n2:((q.den:Int)).natAbs < 2 ^ 4000:=bq.den
   exact ď (zD1 n1 n2) (Δ (by decide))
  ·rw [yQ5] at h
   exact k v H' s h
noncomputable abbrev zD8:Stmt:=top 50
theorem sc__law_led:Ì ["_law_totals","_law_steps_here","_law_brings","_law_made","_law_step_here","_law_went"] ["_law_totals","_law_steps_here","_law_brings"] (Å zD8):=scF
theorem yB9 {ca:Ca} (D:DefAt K mg "_law_led" zD8) (T:Txt K mg ca) (G__law_times:FnAt P w K mg base CX0 3 "_law_times" ["_law_one","_law_other"] (sp2 4000 (· * ·))) (G__law_plus:FnAt P w K mg base CX0 3 "_law_plus" ["_law_one","_law_other"] (sp2 4000 (· + ·))):FnAt P w K mg base CX0 4 "_law_led" ["_law_totals","_law_steps_here","_law_brings"] (yM5 K):=by
 refine D.ok sc__law_led (fun vs H Q E h=>?_) (fun _ _ _ _ _ _ us hl=>match us,hl with | [_,_,_],_=>rfl) (fun f cdv A outer s H vs Q E hr h=>?_)
 ·obtain ⟨a,as,kv,ys,ss,L,bb,f,rfl,ha,hnd,h8,hrow,hS,hP,hOT,h15,hBd,k⟩:=h; rfl
 ·obtain ⟨a,as,kv,ys,ss,L,bb,f,rfl,ha,hnd,h8,hrow,hS,hP,hOT,h15,hBd,k⟩:=h
  have nd:=sc__law_led.nd
  refine ⟨_,(Ã (Ê (i:=3) nd rfl (Or.inl rfl) (ŭ zK4 (by rfl) T.z_dict zK5 (À (pv 0) Â)))
   (Ã (ß PassesOwn.never rfl (è (K:=K) rfl (pv 1)) (È (i:=4) nd rfl (Or.inl rfl)) (Æ (ø (Õ ξ (pixT (pv 4) Ä) ó (Ù _)) (Ã (Ê (i:=5) nd rfl (Or.inl rfl) (pfn G__law_times hr (À (å (â hr) (pv 3) (pixT (pv 4) Ä) (fun _ _=>rfl)) (À (pixT (pv 4) Ä) Â))))
   (Ã (ç (â hr) (pv 3) (pixT (pv 4) Ä) (pfn G__law_plus hr (À (å (â hr) (pv 3) (pixT (pv 4) Ä) (fun _ _=>rfl)) (À (Ü (À (Ó yF6 Ä (pixT (pv 5) Ä)) (À (pixT (pv 5) Ä) Â))) Â))) rfl)
   (Æ (ç (â hr) (pv 3) (pixT (pv 4) Ä) (pfn G__law_plus hr (À (å (â hr) (pv 3) (pixT (pv 4) Ä) (fun _ _=>rfl)) (À (pv 5) Â))) rfl)))) (Æ (ø (Α (pv 2)) (Æ (ç (â hr) (pv 3) (pixT (pv 4) Ä) (pfn G__law_plus hr (À (å (â hr) (pv 3) (pixT (pv 4) Ä) (fun _ _=>rfl)) (À (pixT (pv 4) Ä) Â))) rfl)) Þ)))))
   (Æ (Ï (pv 3))))),?_⟩
  have hlen:ys.length = ss.length:=hP.length
  have hO:∀ s ∈ ss,OkS L s:=fun s hs=>(hOT s hs).1
  refine ⟨_,rfl,a,kv,rfl,ha,fun pm hpm=>?_⟩
  have tp:=Same.upd (o:=.dK kv) hpm
  refine ⟨_,rfl,as,rfl,⟨_,tp.seq hS⟩,?_⟩
  refine þ (xs:=ys) (fun j σ H1=>∃ (v4 v5:Option V) (kv':List (Key × V)),σ = [some (.ref a),some (.ref as),some (.bl bb),some (.ref pm),v4,v5] /\ Same H H1 /\ H1 pm = some (.dK kv') /\ RowAt H1 kv' (all L (ledB bb (ss.take j) f))) ⟨none,none,kv,rfl,tp,Á,hrow.same fun v r f=>f.same tp⟩ ?_ ?_ ?_
  ·rintro j σ H1 hj ⟨v4,v5,kv',rfl,s1,h1,row⟩
   exact s1.seq hS
  ·rintro j x σ H1 hx ⟨v4,v5,kv',rfl,s1,h1,row⟩
   obtain ⟨st,hst,sv⟩:=à hP hx
   have hj:j < ss.length:=(Ą.mp hst).1
   have ed:=Û hst
   have esn:ledB bb (ss.take (j + 1)) f = stB bb st (ledB bb (ss.take j) f):=zT5 hst
   have hBj:=hBd j (by omega)
   have hBj1:=hBd (j + 1) (by omega)
   rw [esn] at hBj1
   have okT:=hOT st (ċ hst)
   cases st with
   | br z yr x0 q0 =>
    obtain ⟨b,l,fv,rfl,hb,hl,hf⟩:=sv
    have hx0:x0 ∈ L:=okT.1.1
    have bq:Bd 3900 q0:=((Cd.of okT.2).bd (s:=20) (by decide) (by decide) (by decide)).mono (by decide)
    refine ⟨_,rfl,b,_,_,_,rfl,rfl,SqT.of (s1 _ _ hb),rfl,rfl,_,rfl,?_⟩
    refine zF0 (by decide +kernel) ?_
    refine ⟨_,rfl,_,rfl,?_⟩
    cases bb with
    | false =>
     refine iteF ?_
     refine ⟨_,_,kv',rfl,s1,h1,?_⟩
     rw [esn]; exact row
    | true =>
     refine iteT ?_
     have hb1:=s1 _ _ hb
     have l1:=row.len' fun z hz=>all_some.mp hz
     let g:Str->Rat:=ledB true (ss.take j) f
     obtain ⟨w0,vx,fx⟩:=row.has x0 (g x0) (by unfold all; rw [if_pos hx0])
     have dg1:DGet H1 pm (.str x0) (some w0):=by
      have q:=DGet.k (k:=.inr x0) h1
      rw [vx] at q; exact q
     refine ⟨_,rfl,_,rfl,b,_,_,_,rfl,rfl,SqT.of hb1,rfl,pm,w0,rfl,dg1,_,rfl,b,_,_,_,rfl,rfl,SqT.of hb1,rfl,_,_,g x0,q0,rfl,fx,hf.same s1,(hBj x0 hx0).mono (by decide),bq.mono (by decide),fun w3 H3 s3 f3=>?_⟩
     have h13:=s3 _ _ h1
     refine ⟨_,rfl,_,rfl,b,_,_,_,rfl,rfl,SqT.of (s3 _ _ hb1),rfl,pm,upd H3 pm (.dK (putK kv' (.inr x0) w3)),rfl,DPut.k (k:=.inr x0) h13 (sz (by omega)),?_⟩
     have tu3:=Ñ (o:=.dK (putK kv' (.inr x0) w3)) h13 (fun _ z=>nomatch z)
     refine ⟨_,_,putK kv' (.inr x0) w3,rfl,(s1.trans s3).updD hpm,Á,?_⟩
     rw [esn]
     have hr:=((row.same fun v r f=>f.same s3).put (z:=x0) f3).same fun v r f=>f.tup tu3
     have e:(fun y=>if y = x0 then some (g x0 + q0) else all L (ledB true (ss.take j) f) y) = all L (stB true (.br z yr x0 q0) (ledB true (ss.take j) f)):=by
      funext y
      show _ = if y ∈ L then some (if y = x0 then g x0 + q0 else g y) else none
      by_cases e:y = x0
      ·subst e; rw [if_pos rfl,if_pos hx0,if_pos rfl]
      ·rw [if_neg e,if_neg e]; rfl
     rw [<- e]; exact hr
   | ps x0 y0 t =>
    obtain ⟨b,fv,rfl,hb,hf⟩:=sv
    obtain ⟨hx0,hy0,hxy,t0,t1,td⟩:=hO _ (ċ hst)
    refine ⟨_,rfl,b,_,_,_,rfl,rfl,SqT.of (s1 _ _ hb),rfl,rfl,_,rfl,?_⟩
    refine zG3 rfl ?_
    have bs:=(Bd.share t0 t1 td).1
    let g:Str->Rat:=ledB bb (ss.take j) f
    have row:RowAt H1 kv' (all L g):=row
    have bx:Bd 3900 (g x0):=hBj x0 hx0
    have by':Bd 3900 (g y0):=hBj y0 hy0
    have bxt:Bd (3900 + 50) (g x0 * t):=bx.mul bs
    have esn:ledB bb (ss.take (j + 1)) f = fw x0 y0 t g:=esn
    have l1:=row.len' fun z hz=>all_some.mp hz
    obtain ⟨w0,vx,fx⟩:=row.has x0 (g x0) (by unfold all; rw [if_pos hx0])
    have dg1:DGet H1 pm (.str x0) (some w0):=by
     have q:=DGet.k (k:=.inr x0) h1
     rw [vx] at q; exact q
    have hb1:=s1 _ _ hb
    refine ⟨_,rfl,_,rfl,b,_,_,_,rfl,rfl,SqT.of hb1,rfl,pm,w0,rfl,dg1,_,rfl,b,_,_,_,rfl,rfl,SqT.of hb1,rfl,_,_,g x0,t,rfl,fx,hf.same s1,bx.mono (by decide),bs.mono (by decide),fun w1 H2 s2 f2=>?_⟩
    obtain ⟨c1,rfl,hc1⟩:=id f2
    have hb2:=s2 _ _ hb1
    have h12:=s2 _ _ h1
    have dg2:DGet H2 pm (.str x0) (some w0):=by
     have q:=DGet.k (k:=.inr x0) h12
     rw [vx] at q; exact q
    refine ⟨_,rfl,_,rfl,b,_,_,_,rfl,rfl,SqT.of hb2,rfl,pm,w0,rfl,dg2,_,rfl,c1,_,_,_,rfl,rfl,SqT.of hc1,rfl,_,_,rfl,rfl,_,rfl,c1,_,_,_,rfl,rfl,SqT.of hc1,rfl,sz (by simp),fun q1 hq1=>?_⟩
    have u3:=Same.upd (o:=.tup [.int (0 - (g x0 * t).num),.int ((g x0 * t).den:Nat)]) hq1
    refine ⟨_,_,g x0,-(g x0 * t),rfl,(fx.same s2).same u3,FrV.newOf (yF9 _).1 (yF9 _).2,bx.mono (by decide),bxt.neg.mono (by decide),fun w3 H3 s3 f3=>?_⟩
    have s23:=s2.trans (u3.trans s3)
    have h13:=s23 _ _ h1
    have hb3:=s23 _ _ hb1
    refine ⟨_,rfl,_,rfl,b,_,_,_,rfl,rfl,SqT.of hb3,rfl,pm,upd H3 pm (.dK (putK kv' (.inr x0) w3)),rfl,DPut.k (k:=.inr x0) h13 (sz (by omega)),?_⟩
    have tu3:=Ñ (o:=.dK (putK kv' (.inr x0) w3)) h13 (fun _ z=>nomatch z)
    have row3:RowAt (upd H3 pm (.dK (putK kv' (.inr x0) w3))) (putK kv' (.inr x0) w3) (fun z=>if z = x0 then some (g x0 + -(g x0 * t)) else all L g z):=((row.same fun v r f=>f.same s23).put (z:=x0) f3).same fun v r f=>f.tup tu3
    have f24:FrV (upd H3 pm (.dK (putK kv' (.inr x0) w3))) (.ref c1) (g x0 * t):=((f2.same u3).same s3).tup tu3
    have hb4:=tu3 _ _ hb3
    have sH4:Same H (upd H3 pm (.dK (putK kv' (.inr x0) w3))):=(s1.trans s23).updD hpm
    have hm4:=Á (H:=H3) (a:=pm) (o:=.dK (putK kv' (.inr x0) w3))
    have l4:=ð kv' (.inr x0) w3
    generalize upd H3 pm (.dK (putK kv' (.inr x0) w3)) = H4 at *
    generalize putK kv' (.inr x0) w3 = kv4 at *
    obtain ⟨w5,vy,fy⟩:=row3.has y0 (g y0) (by
     rw [if_neg (fun e=>hxy e.symm)]; unfold all; rw [if_pos hy0])
    have dg4:DGet H4 pm (.str y0) (some w5):=by
     have q:=DGet.k (k:=.inr y0) hm4
     rw [vy] at q; exact q
    refine ⟨_,rfl,_,rfl,b,_,_,_,rfl,rfl,SqT.of hb4,rfl,pm,w5,rfl,dg4,_,rfl,_,_,g y0,g x0 * t,rfl,fy,f24,by'.mono (by decide),bxt.mono (by decide),fun w6 H5 s5 f5=>?_⟩
    have h15:=s5 _ _ hm4
    refine ⟨_,rfl,_,rfl,b,_,_,_,rfl,rfl,SqT.of (s5 _ _ hb4),rfl,pm,upd H5 pm (.dK (putK kv4 (.inr y0) w6)),rfl,DPut.k (k:=.inr y0) h15 (sz (by omega)),?_⟩
    have tu5:=Ñ (o:=.dK (putK kv4 (.inr y0) w6)) h15 (fun _ z=>nomatch z)
    refine ⟨_,_,putK kv4 (.inr y0) w6,rfl,(sH4.trans s5).updD hpm,Á,?_⟩
    rw [esn,<- xO1 hx0 hy0]
    exact ((row3.same fun v r f=>f.same s5).put (z:=y0) f5).same fun v r f=>f.tup tu5
  ·rintro σ H1 ⟨v4,v5,kv',rfl,s1,h1,row⟩
   rw [hlen,Đ] at row
   exact ⟨_,rfl,k pm H1 kv' hpm s1 h1 row⟩
noncomputable abbrev zA7:Stmt:=top 51
theorem sc__law_places:Ì ["_law_house_here","_law_totals","_law_made","_law_place"] ["_law_house_here","_law_totals"] (Å zA7):=scF
theorem zO9 {ca:Ca} (D:DefAt K mg "_law_places" zA7) (T:Txt K mg ca):FnAt P w K mg base CX0 1 "_law_places" ["_law_house_here","_law_totals"] (zH4 K):=by
 refine D.ok sc__law_places (fun vs H Q E h=>?_) (fun _ _ _ _ _ _ us hl=>match us,hl with | [_,_],_=>rfl) (fun f cdv A outer s H vs Q E hr h=>?_)
 ·obtain ⟨ah,b,xs,ps,kt,g,rfl,hS,hP,h8,hb,hg,k⟩:=h; rfl
 ·obtain ⟨ah,b,xs,ps,kt,g,rfl,hS,hP,h8,hb,hg,k⟩:=h
  have nd:=sc__law_places.nd
  refine ⟨_,(Ã (Ê (i:=2) nd rfl (Or.inl rfl) ë)
   (Ã (ß PassesOwn.never rfl (è (K:=K) rfl (pv 0)) (È (i:=3) nd rfl (Or.inl rfl)) (Æ (ç (â hr) (pv 2) (pixT (pv 3) Ä) (zR7 (â hr) (pv 1) (pixT (pv 3) Ä) (Ü (À Ä (À Ä Â))) ⟨by rfl,by rfl,by rfl,by rfl⟩) rfl)))
   (Æ (Ï (pv 2))))),?_⟩
  have hlen:xs.length = ps.length:=hP.length
  intro p hp
  have tp:=Same.upd (o:=.dK []) hp
  refine ⟨_,rfl,ah,rfl,⟨_,tp.seq hS⟩,?_⟩
  refine þ (xs:=xs) (fun i σ H1=>∃ (v3:Option V) (kv':List (Key × V)),σ = [some (.ref ah),some (.ref b),some (.ref p),v3] /\ Same H H1 /\ H1 p = some (.dK kv') /\ kv'.length <= i /\ RowAt H1 kv' (all (allN (ps.take i)) fun z=>(g z).getD 0)) ⟨none,[],rfl,tp,Á,ą _,by rw [show allN (ps.take 0) = [] from rfl,δ]; exact RowAt.nil _⟩ ?_ ?_ ?_
  ·rintro i σ H1 hi ⟨v3,kv',rfl,s1,h1,hl,row⟩
   exact s1.seq hS
  ·rintro i x σ H1 hx ⟨v3,kv',rfl,s1,h1,hl,row⟩
   obtain ⟨q,hq,pv⟩:=à hP hx
   have hi:i < ps.length:=(Ą.mp hq).1
   obtain ⟨c,zs,rfl,hc,_,e1⟩:=pv.at
   have hc1:=s1 _ _ hc
   have hb1:=s1 _ _ hb
   refine ⟨_,rfl,b,rfl,.inl ⟨kt,.inl hb1⟩,_,rfl,c,_,_,_,rfl,rfl,SqT.of hc1,e1,sz (by simp),fun q0 hq0=>⟨valV kt (.inr (nmP q)),DGet.k (k:=.inr (nmP q)) (Same.upd hq0 _ _ hb1),?_⟩⟩
   have t0:=Same.upd (o:=.tup [.int 0,.int 1]) hq0
   have fw':=(hg.same fun v r f=>(f.same s1).same t0).getD (FrV.newOf (r:=0) (p:=q0) rfl rfl) (nmP q)
   have h10:=t0 _ _ h1
   refine ⟨_,rfl,_,rfl,c,_,_,_,rfl,rfl,SqT.of (t0 _ _ hc1),e1,p,upd (upd H1 q0 (.tup [.int 0,.int 1])) p (.dK (putK kv' (.inr (nmP q)) ((valV kt (.inr (nmP q))).getD (.ref q0)))),rfl,DPut.k (k:=.inr (nmP q)) h10 (sz (by omega)),?_⟩
   have tu:=Ñ (o:=.dK (putK kv' (.inr (nmP q)) ((valV kt (.inr (nmP q))).getD (.ref q0)))) h10 (fun _ z=>nomatch z)
   refine ⟨_,putK kv' (.inr (nmP q)) ((valV kt (.inr (nmP q))).getD (.ref q0)),rfl,(s1.trans t0).updD hp,Á,?_,?_⟩
   ·have:=ð kv' (.inr (nmP q)) ((valV kt (.inr (nmP q))).getD (.ref q0))
    omega
   ·have et:allN (ps.take (i + 1)) = allN (ps.take i) ++ [nmP q]:=by unfold allN; rw [Û hq,ė]; rfl
    rw [et,Γ]
    exact ((row.same fun v r f=>f.same t0).put (z:=nmP q) fw').same fun v r f=>f.tup tu
  ·rintro σ H1 ⟨v3,kv',rfl,s1,h1,hl,row⟩
   rw [hlen,Đ] at row
   exact ⟨_,rfl,k p H1 kv' hp s1 h1 row⟩
noncomputable abbrev zC4:Stmt:=top 52
theorem sc__law_casks:Ì ["_law_house_here","_law_made","_law_left","_law_place"] ["_law_house_here","_law_made"] (Å zC4):=scF
theorem zT2 {ca:Ca} (D:DefAt K mg "_law_casks" zC4) (T:Txt K mg ca):FnAt P w K mg base CX0 1 "_law_casks" ["_law_house_here","_law_made"] (zH5 K):=by
 refine D.ok sc__law_casks (fun vs H Q E h=>?_) (fun _ _ _ _ _ _ us hl=>match us,hl with | [_,_],_=>rfl) (fun f cdv A outer s H vs Q E hr h=>?_)
 ·obtain ⟨ah,b,xs,ps,km,f,rfl,hS,hP,h8,hb,hg,k⟩:=h; rfl
 ·obtain ⟨ah,b,xs,ps,km,f,rfl,hS,hP,h8,hb,hg,k⟩:=h
  have nd:=sc__law_casks.nd
  refine ⟨_,(Ã (Ê (i:=2) nd rfl (Or.inl rfl) ë)
   (Ã (ß PassesOwn.never rfl (è (K:=K) rfl (pv 0)) (È (i:=3) nd rfl (Or.inl rfl)) (Æ (ø (Õ ξ (pixT (pv 3) Ä) ó (Ù _)) (Æ (ç (â hr) (pv 2) (pixT (pv 3) Ä) (å (â hr) (pv 1) (pixT (pv 3) Ä) (fun _ _=>rfl)) rfl)) Þ)))
   (Æ (Ï (pv 2))))),?_⟩
  have hlen:xs.length = ps.length:=hP.length
  intro p hp
  have tp:=Same.upd (o:=.dK []) hp
  refine ⟨_,rfl,ah,rfl,⟨_,tp.seq hS⟩,?_⟩
  refine þ (xs:=xs) (fun i σ H1=>∃ (v3:Option V) (kv':List (Key × V)),σ = [some (.ref ah),some (.ref b),some (.ref p),v3] /\ Same H H1 /\ H1 p = some (.dK kv') /\ kv'.length <= i /\ RowAt H1 kv' (all (ckN (ps.take i)) f)) ⟨none,[],rfl,tp,Á,ą _,by rw [show ckN (ps.take 0) = [] from rfl,δ]; exact RowAt.nil _⟩ ?_ ?_ ?_
  ·rintro i σ H1 hi ⟨v3,kv',rfl,s1,h1,hl,row⟩
   exact s1.seq hS
  ·rintro i x σ H1 hx ⟨v3,kv',rfl,s1,h1,hl,row⟩
   obtain ⟨q,hq,pv⟩:=à hP hx
   have hi:i < ps.length:=(Ą.mp hq).1
   obtain ⟨c,zs,rfl,hc,e0,e1⟩:=pv.at
   have hc1:=s1 _ _ hc
   have hb1:=s1 _ _ hb
   refine ⟨_,rfl,c,_,_,_,rfl,rfl,SqT.of hc1,e0,rfl,_,rfl,?_⟩
   cases hcc:isC q with
   | true =>
    refine zG3 rfl ?_
    have hm:nmP q ∈ allN ps:=ĕ.mpr ⟨q,ċ hq,rfl⟩
    obtain ⟨w,vw,fw'⟩:=hg.has (nmP q) (f (nmP q)) (by unfold all; rw [if_pos hm])
    refine ⟨_,rfl,_,rfl,c,_,_,_,rfl,rfl,SqT.of hc1,e1,b,w,rfl,?_,_,rfl,_,rfl,c,_,_,_,rfl,rfl,SqT.of hc1,e1,p,upd H1 p (.dK (putK kv' (.inr (nmP q)) w)),rfl,DPut.k (k:=.inr (nmP q)) h1 (sz (by omega)),?_⟩
    ·have g:=DGet.k (k:=.inr (nmP q)) hb1
     rw [vw] at g; exact g
    have tu:=Ñ (o:=.dK (putK kv' (.inr (nmP q)) w)) h1 (fun _ z=>nomatch z)
    refine ⟨_,putK kv' (.inr (nmP q)) w,rfl,s1.updD hp,Á,?_,?_⟩
    ·have:=ð kv' (.inr (nmP q)) w
     omega
    ·have et:ckN (ps.take (i + 1)) = ckN (ps.take i) ++ [nmP q]:=by
      unfold ckN
      rw [Û hq,Ĭ,ė]
      simp [hcc]
     rw [et,Γ]
     exact (row.put (z:=nmP q) (fw'.same s1)).same fun v r f=>f.tup tu
   | false =>
    refine zF0 (by decide +kernel) ?_
    refine ⟨_,kv',rfl,s1,h1,by omega,?_⟩
    have et:ckN (ps.take (i + 1)) = ckN (ps.take i):=by
     unfold ckN
     rw [Û hq,Ĭ]
     simp [hcc]
    rw [et]; exact row
  ·rintro σ H1 ⟨v3,kv',rfl,s1,h1,hl,row⟩
   rw [hlen,Đ] at row
   exact ⟨_,rfl,k p H1 kv' hp s1 h1 row⟩
noncomputable abbrev zB6:Stmt:=top 53
theorem sc__law_table:Ì ["_law_house_here","_law_steps_here","_law_rows","_law_name","_law_ends","_law_place","_law_share_here"] ["_law_house_here","_law_steps_here"] (Å zB6):=scF
theorem zS4 {ca:Ca} (D:DefAt K mg "_law_table" zB6) (T:Txt K mg ca) (G__law_casks:FnAt P w K mg base CX0 1 "_law_casks" ["_law_house_here","_law_made"] (zH5 K)) (G__law_places:FnAt P w K mg base CX0 1 "_law_places" ["_law_house_here","_law_totals"] (zH4 K)) (G__law_led:FnAt P w K mg base CX0 4 "_law_led" ["_law_totals","_law_steps_here","_law_brings"] (yM5 K)):FnAt P w K mg base CX0 5 "_law_table" ["_law_house_here","_law_steps_here"] (xA9 K):=by
 refine D.ok sc__law_table (fun vs H Q E h=>?_) (fun _ _ _ _ _ _ us hl=>match us,hl with | [_,_],_=>rfl) (fun f cdv A outer s H vs Q E hr h=>?_)
 ·obtain ⟨ah,as,xs,ps,ys,ss,rfl,hA,hP,ok,hT,hY,hOT,h15,k⟩:=h; rfl
 ·obtain ⟨ah,as,xs,ps,ys,ss,rfl,hA,hP,ok,hT,hY,hOT,h15,k⟩:=h
  have nd:=sc__law_table.nd
  refine ⟨_,(Ã (Ê (i:=2) nd rfl (Or.inl rfl) ë)
   (Ã (yW9 (ß PassesOwn.never rfl (Χ (pfn G__law_casks hr (À (pv 0) (À (pfn G__law_places hr (À (pv 0) (À ë Â))) Â)))) (È (i:=3) nd rfl (Or.inl rfl)) (Ã (Ê (i:=4) nd rfl (Or.inl rfl) (pfn G__law_led hr (À (pfn G__law_places hr (À (pv 0) (À (yP2 (yF3 (pv 3) (Ü (À Ä (À Ä Â))) yO6) rfl rfl (List.cons_ne_nil _ _) (Nat.le_of_ble_eq_true rfl)) Â))) (À (pv 1) (À Ξ Â)))))
   (Ã (ç (â hr) (pv 2) (pv 3) ë rfl)
   (Æ (Ŷ (ß PassesOwn.never rfl (Ÿ (Ū (K:=K) rfl PySem.F.plainAttrs_dict PySem.F.slot_dict_items PySem.F.type_dict_items Ź (pv 4))) (Θ rfl (Ò (È (i:=5) nd rfl (Or.inl rfl)) (Ò (È (i:=6) nd rfl (Or.inl rfl)) ÿ))) (Æ (ø (Õ yP5 (pixT (pv 6) Ä) Ä (Ù _)) (Æ (ç (â hr) (å (â hr) (pv 2) (pv 3) (fun _ _=>rfl)) (pv 5) (pv 6) rfl)) Þ)))))))))
   (Æ (Ï (pv 2))))),?_⟩
  have hO:∀ s ∈ ss,OkS (allN ps) s:=fun s hs=>(hOT s hs).1
  have h40:ss.length <= 40:=by omega
  intro p hp
  have tp:=Same.upd (o:=.dK []) hp
  have l8:(allN ps).length <= 8:=by unfold allN; rw [ā]; exact ok.len
  refine ⟨_,rfl,_,rfl,fun p1 hp1=>?_⟩
  have t1:=tp.trans (Same.upd (o:=.dK []) hp1)
  refine ⟨ah,p1,xs,ps,[],fun _=>none,rfl,SqL.of (t1 _ _ hA),Ð hP t1,ok.len,Á,RowAt.nil _,fun p2 H2 kv2 hp2 s2 h2 r2=>?_⟩
  have u2:=t1.trans s2
  refine ⟨ah,p2,xs,ps,kv2,_,rfl,SqL.of (u2 _ _ hA),Ð hP u2,ok.len,h2,r2,fun p3 H3 kv3 hp3 s3 h3 r3=>?_⟩
  have u3:=u2.trans s3
  have up3:Same (upd H p (.dK [])) H3:=(Same.upd (o:=.dK []) hp1).trans (s2.trans s3)
  have hpp3:=up3 _ _ (Á (H:=H) (a:=p) (o:=.dK []))
  have n3:(upd H p (.dK [])) p3 = none:=((Same.upd (o:=.dK []) hp1).trans s2).free hp3
  have npp3:p ≠ p3:=fun e=>by rw [<- e,Á] at n3; cases n3
  have hp30:H p3 = none:=tp.free n3
  refine ⟨p3,_,rfl,h3,rfl,fun o qs hqs=>?_⟩
  have hqs:qs = kv3.map fun kv=>(kV kv.1,kv.2):=hqs
  subst hqs
  have C3:∀ z,z ∈ nms kv3 ↔ z ∈ ckN ps:=fun z=>(r3.iff z).trans all_some
  have hA3:=u3 _ _ hA
  have hT3:=u3 _ _ hT
  refine zI4 (fun i σ H4=>∃ (v3 v4 v5 v6:Option V) (rows:List (Key × V)) (ad:Str->Addr),σ = [some (.ref ah),some (.ref as),some (.ref p),v3,v4,v5,v6] /\ H4 p3 = some (.frz o (.dK kv3)) /\ (∀ c ob,H3 c = some ob->c ≠ p->c ≠ p3->H4 c = some ob) /\ H4 p = some (.dK rows) /\ TabAt H H4 p rows (nms (kv3.take i)) (back ss) ad) ?_ ?_ ?_ ?_
  ·exact ⟨none,none,none,none,[],fun _=>0,rfl,Á,fun c ob e n1 n2=>by rw [upd_ne n2]; exact e,by rw [upd_ne npp3]; exact hpp3,TabAt.nil _ _ _ _ _⟩
  ·rintro i σ H4 ⟨_,_,_,_,_,_,_,h,_⟩
   exact h
  ·rintro i k' w' σ H4 hk ⟨v3,v4,v5,v6,rows,ad,rfl,hfz,keep,h4,T⟩
   obtain ⟨kvi,hki,ek⟩:=Ο hk
   obtain ⟨n,r0,hz,_,_,hnn,en⟩:=r3.at hki
   obtain ⟨rfl,rfl⟩:=Prod.mk.inj ek
   obtain ⟨k0,w0⟩:=kvi
   have hz:k0 = .inr n:=hz
   subst hz
   have hil:i < kv3.length:=(Ą.mp hki).1
   have l3:kv3.length <= 8:=č (r3.len' (L:=ckN ps) fun z hz=>all_some.mp hz) (č zZ4 ok.len)
   have hnC:n ∈ ckN ps:=(C3 n).mp (ĕ.mpr ⟨_,ċ hki,rfl⟩)
   have keepL:∀ c l,H3 c = some (.lst l)->H4 c = some (.lst l):=fun c l e=>keep c _ e (ê e hpp3 (by intro z; cases z)) (ê e h3 (by intro z; cases z))
   have keepT:∀ c l,H3 c = some (.tup l)->H4 c = some (.tup l):=fun c l e=>keep c _ e (ê e hpp3 (by intro z; cases z)) (ê e h3 (by intro z; cases z))
   have hA4:=keepL _ _ hA3
   have hT4:=keepL _ _ hT3
   have hP4:=Paired.mapP (Ð hP u3) fun _ _ f=>PlV.tup keepT f
   have hY4:=Paired.mapP (Ö hY u3) fun _ _ f=>StV.tup keepT f
   have lrows:rows.length <= 8:=by
    rw [T.len ((ä r3.nodup r3.keys).sublist ((Ŝ _ _).map _)),Ø,ē]; omega
   refine ⟨_,rfl,fun q hq=>⟨_,rfl,sz (by simp),fun f hf=>?_⟩⟩
   have nqf:q ≠ f:=fun e=>by rw [<- e,Á] at hf; cases hf
   refine ⟨by rw [upd_ne nqf,Á],[(.inr n,.ref f)],rfl,by simp,?_⟩
   have t5:=((Same.upd (o:=.dK []) hq).trans (Same.upd (o:=.tup [.int 1,.int 1]) hf)).updD (o:=.dK (Ι [] [(.inr n,.ref f)])) hq
   have ff:FrV (upd (upd (upd H4 q (.dK [])) f (.tup [.int 1,.int 1])) q (.dK (Ι [] [(.inr n,.ref f)]))) (.ref f) 1:=⟨f,rfl,by rw [upd_ne nqf.symm,Á]; rfl⟩
   have hq5:=Á (H:=upd (upd H4 q (.dK [])) f (.tup [.int 1,.int 1])) (a:=q) (o:=.dK (Ι [] [(.inr n,.ref f)]))
   have r5:=RowAt.unit n ff
   generalize upd (upd (upd H4 q (.dK [])) f (.tup [.int 1,.int 1])) q (.dK (Ι [] [(.inr n,.ref f)])) = H5 at *
   refine ⟨ah,q,xs,ps,_,op (dlt n),rfl,SqL.of (t5 _ _ hA4),Ð hP4 t5,ok.len,hq5,r5,fun p6 H6 kv6 hp6 s6 h6 r6=>?_⟩
   have e6:(fun z=>(op (dlt n) z).getD 0) = dlt n:=by funext z; exact ζ _ z
   rw [e6] at r6
   have s46:=t5.trans s6
   refine ⟨_,rfl,p6,as,kv6,ys,ss,allN ps,false,dlt n,rfl,h6,ok.nd,l8,r6,SqL.of (s46 _ _ hT4),Ö hY4 s46,hOT,h15,fun j hj z _=>?_,fun p7 H7 kv7 hp7 s7 h7 r7=>?_⟩
   ·rw [zO1 hO n j hj]
    have hOj:∀ s ∈ ss.take j,OkS (allN ps) s:=fun s hs=>hO s (ĵ hs)
    exact (((ï ok.nd hOj).part n (ż hnC) z).bd (ú _) (ą _) (zN0 hOj (by rw [ē]; omega) (k:=1) (by decide))).mono (by decide)
   have ebk:=zO1 hO n ss.length (ą _)
   rw [Đ] at ebk
   rw [ebk] at r7
   have s47:=s46.trans s7
   have l7:=r7.len' (L:=allN ps) fun z hz=>all_some.mp hz
   intro p8 hp8
   have t8:=Same.upd (o:=.dK []) hp8
   have s48:=s47.trans t8
   have h48:=s48 _ _ h4
   have n48:H4 p8 = none:=s47.free hp8
   have np8:p ≠ p8:=Ç h4 n48
   refine ⟨_,rfl,_,rfl,p,upd (upd H7 p8 (.dK [])) p (.dK (putK rows (.inr n) (.ref p8))),rfl,DPut.k (k:=.inr n) h48 (sz (by omega)),?_⟩
   have tu9:=Ñ (o:=.dK (putK rows (.inr n) (.ref p8))) h48 (fun _ z=>nomatch z)
   have n78:p7 ≠ p8:=fun e=>by rw [<- e,h7] at hp8; cases hp8
   have n7p:p7 ≠ p:=fun e=>by
    have z:=s46 _ _ h4
    rw [<- e,hp7] at z; cases z
   have h79:upd (upd H7 p8 (.dK [])) p (.dK (putK rows (.inr n) (.ref p8))) p7 = some (.dK kv7):=by rw [upd_ne n7p]; exact t8 _ _ h7
   have h89:upd (upd H7 p8 (.dK [])) p (.dK (putK rows (.inr n) (.ref p8))) p8 = some (.dK []):=by rw [upd_ne np8.symm,Á]
   have h9:=Á (H:=upd H7 p8 (.dK [])) (a:=p) (o:=.dK (putK rows (.inr n) (.ref p8)))
   have k9:∀ c ob,H4 c = some ob->c ≠ p->upd (upd H7 p8 (.dK [])) p (.dK (putK rows (.inr n) (.ref p8))) c = some ob:=fun c ob e n1=>by rw [upd_ne n1]; exact s48 _ _ e
   have r9:RowAt (upd (upd H7 p8 (.dK [])) p (.dK (putK rows (.inr n) (.ref p8)))) kv7 (all (allN ps) (back ss n)):=r7.same fun v r g=>(g.same t8).tup tu9
   have T9:∀ v r,FrV H4 v r->FrV (upd (upd H7 p8 (.dK [])) p (.dK (putK rows (.inr n) (.ref p8)))) v r:=fun v r g=>(g.same s48).tup tu9
   have vput:valV (putK rows (.inr n) (.ref p8)) (.inr n) = some (.ref p8):=by rw [zH0,if_pos rfl]
   generalize upd (upd H7 p8 (.dK [])) p (.dK (putK rows (.inr n) (.ref p8))) = H9 at *
   refine ⟨p7,_,h79,rfl,?_⟩
   refine ⟨_,rfl,.inr (.inr (.inl ⟨rfl,.inl ⟨_,h79⟩⟩)),p7,_,rfl,rfl,h79,rfl,fun pv hpv=>?_⟩
   have t10:=Same.upd (o:=Λ pv p7) hpv
   refine ⟨pv,p7,_,rfl,Á,t10 _ _ h79,rfl,fun o2 ps2 hps2=>?_⟩
   have hps2:ps2 = kv7.map fun kv=>(kV kv.1,kv.2):=hps2
   subst hps2
   refine Ů (fun j σ H11=>∃ (v5 v6:Option V) (kv':List (Key × V)),σ = [some (.ref ah),some (.ref as),some (.ref p),some (.str n),some (.ref p7),v5,v6] /\ H11 p7 = some (.frz o2 (.dK kv7)) /\ (∀ c ob,H9 c = some ob->c ≠ p7->c ≠ p8->H11 c = some ob) /\ H11 p8 = some (.dK kv') /\ kv'.length <= j /\ RowAt H11 kv' (filt (all (allN ps) (back ss n)) (nms (kv7.take j)))) ?_ ?_ ?_ ?_
   ·refine ⟨_,_,[],rfl,Á,fun c ob e n1 n2=>by rw [upd_ne n1]; exact t10 _ _ e,by rw [upd_ne n78.symm]; exact t10 _ _ h89,ą _,?_⟩
    have ef:filt (all (allN ps) (back ss n)) (nms (kv7.take 0)) = fun _=>none:=by funext z; simp [filt,nms]
    rw [ef]; exact RowAt.nil _
   ·rintro j σ H11 ⟨_,_,_,_,h,_⟩
    exact h
   ·rintro j k2 w2 T2 σ H11 hk2 ⟨v5,v6,kv',rfl,hf7,kp,h8',hl,row⟩ hT2
    obtain ⟨kvj,hkj,ekj⟩:∃ kvj,kv7[j]? = some kvj /\ (kV kvj.1,kvj.2) = (k2,w2):=by
     rw [đ] at hk2
     cases q:kv7[j]? with
     | none=>rw [q] at hk2; cases hk2
     | some kvj=>rw [q] at hk2; exact ⟨kvj,rfl,Option.some.inj hk2⟩
    have hj:j < kv7.length:=(Ą.mp hkj).1
    obtain ⟨z,r,hz2,hgz,fr,hzn,en2⟩:=r9.at hkj
    obtain ⟨rfl,rfl⟩:=Prod.mk.inj ekj
    obtain ⟨k1,w1⟩:=kvj
    have hz2:k1 = .inr z:=hz2
    subst hz2
    have er:r = back ss n z:=by
     unfold all at hgz
     split at hgz
     ·exact (Option.some.inj hgz).symm
     ·cases hgz
    have G:=ï ok.nd hO
    have r0':0 <= r:=by rw [er]; exact (G.part n (ż hnC) z).1
    have t12:=Same.upd (o:=.tup [kV (.inr z),w1]) hT2
    have fr12:FrV (upd H11 T2 (.tup [kV (.inr z),w1])) w1 r:=by
     obtain ⟨c,e,hc⟩:=fr
     exact ⟨c,e,t12 _ _ (kp c _ hc (ê hc h79 (by intro z; cases z)) (ê hc h89 (by intro z; cases z)))⟩
    obtain ⟨c,hc,hcc⟩:=id fr12
    have h8t:=t12 _ _ h8'
    refine ⟨T2,_,rfl,SqT.of Á,rfl,_,_,rfl,_,_,rfl,rfl,?_⟩
    refine ⟨_,rfl,c,_,_,_,hc,rfl,SqT.of hcc,rfl,_,_,rfl,rfl,_,rfl,?_⟩
    refine ite2 (fun hpos=>?_) (fun hpos=>?_)
    ·have hpos:(0:Int) < r.num:=of_decide_eq_true hpos
     have rne:r ≠ 0:=fun e=>by rw [e] at hpos; exact absurd hpos (by decide)
     have h9t:=t12 _ _ (kp _ _ h9 n7p.symm np8)
     refine ⟨_,rfl,_,rfl,_,rfl,p,.ref p8,rfl,?_,_,rfl,p8,upd (upd H11 T2 (.tup [kV (.inr z),w1])) p8 (.dK (putK kv' (.inr z) w1)),rfl,DPut.k (k:=.inr z) h8t (sz (by omega)),?_⟩
     ·have g:=DGet.k (k:=.inr n) h9t
      rw [vput] at g; exact g
     have tu:=Ñ (o:=.dK (putK kv' (.inr z) w1)) h8t (fun _ z=>nomatch z)
     refine ⟨_,_,putK kv' (.inr z) w1,rfl,by rw [upd_ne n78]; exact t12 _ _ hf7,fun c' ob q n1 n2=>by rw [upd_ne n2]; exact t12 _ _ (kp c' ob q n1 n2),Á,?_,?_⟩
     ·have:=ð kv' (.inr z) w1
      omega
     ·have row':=((row.same fun v r f=>f.same t12).put (z:=z) fr12).same fun v r f=>f.tup tu
      have ef:filt (all (allN ps) (back ss n)) (nms (kv7.take (j + 1))) = fun y'=>if y' = z then some r else filt (all (allN ps) (back ss n)) (nms (kv7.take j)) y':=by
       funext y'
       unfold filt
       rw [en2]
       by_cases ey:y' = z
       ·subst ey; simp [hgz,rne]
       ·simp [ey]
      rw [ef]
      exact row'
    ·have hpos:¬ (0:Int) < r.num:=fun z=>hpos (decide_eq_true z)
     have rz:r = 0:=by
      have:=Rat.num_nonneg.mpr r0'
      exact Rat.num_eq_zero.mp (by omega)
     refine ⟨_,_,kv',rfl,t12 _ _ hf7,fun c' ob q n1 n2=>t12 _ _ (kp c' ob q n1 n2),h8t,by omega,?_⟩
     have ef:filt (all (allN ps) (back ss n)) (nms (kv7.take (j + 1))) = filt (all (allN ps) (back ss n)) (nms (kv7.take j)):=by
      funext y'
      unfold filt
      rw [en2]
      by_cases ey:y' = z
      ·subst ey; simp [hgz,rz,hzn]
      ·simp [ey]
     rw [ef]
     exact row.same fun v r f=>f.same t12
   ·rintro σ H11 ⟨v5,v6,kv',rfl,hf7,kp,h8',hl,row⟩
    rw [ā] at hl row
    rw [Đ] at row
    have G:=ï ok.nd hO
    have ef:filt (all (allN ps) (back ss n)) (nms kv7) = op (back ss n):=by
     funext z
     unfold filt op
     by_cases hz:z ∈ allN ps
     ·have hm:z ∈ nms kv7:=(r7.iff z).mpr (all_some.mpr hz)
      have e:all (allN ps) (back ss n) z = some (back ss n z):=by unfold all; rw [if_pos hz]
      rw [if_pos hm,e]
     ·have e:all (allN ps) (back ss n) z = none:=by unfold all; rw [if_neg hz]
      have e0:back ss n z = 0:=by
       by_cases q:back ss n z = 0
       ·exact q
       ·exact absurd (G.sup n (ż hnC) z q) hz
      rw [e,e0,if_pos rfl]
      simp
    rw [ef] at row
    have n7:H4 p7 = none:=s46.free hp7
    refine ⟨o2,_,hf7,?_⟩
    have kk:∀ c ob,H9 c = some ob->c ≠ p8->upd H11 p7 (.dK kv7) c = some ob:=fun c ob e n2=>by
     by_cases z:c = p7
     ·subst z; rw [Á]; rw [h79] at e; exact e
     ·rw [upd_ne z]; exact kp c ob e z n2
    have kF:∀ v r,FrV H11 v r->FrV (upd H11 p7 (.dK kv7)) v r:=fun v r f=>f.tup (Ñ hf7 (fun _ z=>nomatch z))
    refine ⟨_,_,_,_,putK rows (.inr n) (.ref p8),fun z=>if z = n then p8 else ad z,rfl,?_,fun c ob e n1 n2=>?_,?_,?_⟩
    ·have e3:p3 ≠ p8:=Ç hfz n48
     exact kk _ _ (k9 _ _ hfz npp3.symm) e3
    ·have e4:=keep c ob e n1 n2
     exact kk _ _ (k9 _ _ e4 n1) (Ç e4 n48)
    ·exact kk _ _ h9 np8
    ·have hp80:H p8 = none:=by
      cases e:H p8 with
      | none=>rfl
      | some ob =>
       have e3:=u3 _ _ e
       have n1:p8 ≠ p:=fun z=>np8 z.symm
       have n2:p8 ≠ p3:=fun z=>by rw [z,hp30] at e; cases e
       rw [keep _ _ e3 n1 n2] at n48; cases n48
     refine T.put hp80 n48 np8.symm (fun c o e n1=>kk _ _ (k9 _ _ e n1) (Ç e n48)) (fun v r g=>?_) (by rw [upd_ne n78.symm]; exact h8') (row.same kF) (fun _ _ _=>rfl) (fun z=>?_)
     ·obtain ⟨c,e,hc⟩:=T9 v r g
      exact ⟨c,e,kk _ _ hc (ê hc h89 (by intro z; cases z))⟩
     ·rw [en]; simp
  ·rintro σ H4 ⟨v3,v4,v5,v6,rows,ad,rfl,hfz,keep,h4,T⟩
   rw [ā,Đ] at T
   have kk:∀ c ob,H3 c = some ob->c ≠ p->upd H4 p3 (.dK kv3) c = some ob:=fun c ob e n1=>by
    by_cases z:c = p3
    ·subst z; rw [Á]; rw [h3] at e; exact e
    ·rw [upd_ne z]; exact keep c ob e n1 z
   refine ⟨p3,o,_,(fun ob v e=>by rw [n3] at e; cases e),hfz,_,rfl,k p _ rows ad hp (fun c ob e=>kk _ _ (u3 _ _ e) (Ç e hp)) (by rw [upd_ne npp3]; exact h4) ?_⟩
   have T':=T.mem (L':=ckN ps) fun z=>(C3 z).symm
   refine ⟨T'.nodup,T'.keys,fun n hn=>?_,T'.inj,T'.apart⟩
   obtain ⟨a1,a2,kv,a3,a4⟩:=T'.row n hn
   refine ⟨a1,a2,kv,by rw [upd_ne (ê a3 hfz (by intro z; cases z))]; exact a3,a4.same fun v r f=>f.tup (Ñ hfz (fun _ z=>nomatch z))⟩
noncomputable abbrev zA9:Stmt:=top 54
theorem sc__law_closed:Ì ["_law_house_here","_law_rows","_law_left","_law_k","_law_name"] ["_law_house_here","_law_rows"] (Å zA9):=scF
theorem zP1 {ca:Ca} (D:DefAt K mg "_law_closed" zA9) (T:Txt K mg ca):FnAt P w K mg base CX0 1 "_law_closed" ["_law_house_here","_law_rows"] (xI9):=by
 refine D.ok sc__law_closed (fun vs H Q E h=>?_) (fun _ _ _ _ _ _ us hl=>match us,hl with | [_,_],_=>rfl) (fun f cdv A outer s H vs Q E hr h=>?_)
 ·obtain ⟨ah,pr,H0,rows,ad,C,L,R,Dn,rfl,hrw,TB,hC,nC,c5,nL,h8,hCL,G,layL,k⟩:=h; rfl
 ·obtain ⟨ah,pr,H0,rows,ad,C,L,R,Dn,rfl,hrw,TB,hC,nC,c5,nL,h8,hCL,G,layL,k⟩:=h
  have nd:=sc__law_closed.nd
  refine ⟨_,(Ã (Ê (i:=2) nd rfl (Or.inr rfl) (ŭ zK4 (by rfl) T.z_dict zK5 (À (pv 1) Â)))
   (Ã (ß PassesOwn.never rfl (ŷ (by rfl) T.z_range (À (Ô zI7 (by rfl) T.z_len PySem.boot_len (À (pv 1) Â)) Â)) (È (i:=3) nd rfl (Or.inl rfl)) (Æ (ß PassesOwn.never rfl (è (K:=K) rfl (ŭ (zG5 rfl) (by rfl) T.z_list γ (À (pv 2) Â))) (È (i:=4) nd rfl (Or.inl rfl)) (Æ (ø (Õ (zG8 (K:=K) rfl hr) (zR5 (Κ ["_law_place"] ["_law_left"] [2] rfl (by rfl) (Χ (å (â hr) (pv 1) (pv 4) (fun _ _=>rfl))) (fun _ _ _ _=>(È (i:=0) (show List.Nodup (["_law_place","_law_left"]:List Str) from by decide) rfl (Or.inl rfl))) (fun _ _ _ _=>(zN2 (yF1 (zN3 (â hr) (pv 0) (pv 1))))) (fun _ _ _ _=>(pv 0)))) (ų Â) (Ù _)) (Æ (ù (yX3 (pv 2) (pv 4) ⟨by rfl,by rfl,by rfl,by rfl⟩))) Þ)))))
   (Æ (Ï (Ô (zF4 rfl) (by rfl) T.z_sorted zI8 (À (pv 2) Â)))))),?_⟩
  have hkeys:∀ kv ∈ rows,∃ z,kv.1 = .inr z:=fun kv h=>(let ⟨z,e,_⟩:=TB.keys kv h; ⟨z,e⟩)
  have lR:rows.length = C.length:=by rw [<- Ø,hC]
  have h0R:∀ x ∈ C,∀ z,0 <= R x z:=fun x hx z=>(G.part x (hCL x hx) z).1
  have h1R:∀ x ∈ C,sumL L (R x) = 1:=fun x hx=>G.all x (hCL x hx)
  refine ⟨_,rfl,pr,rows,rfl,hrw,fun p hp=>?_⟩
  have tp:=Same.upd (o:=.dK rows) hp
  have hp1:=Á (H:=H) (a:=p) (o:=.dK rows)
  have npr:p ≠ pr:=fun e=>by rw [e,hrw] at hp; cases hp
  generalize upd H p (.dK rows) = H1 at *
  have hr1:=tp _ _ hrw
  refine ⟨_,rfl,pr,_,rfl,hr1,?_⟩
  refine ⟨_,rfl,by omega,by omega,?_⟩
  have lf0:LfT C R C:=⟨nC,fun _ h=>h,fun x hx hn=>absurd hx hn⟩
  have adp:∀ z ∈ C,ad z ≠ p:=fun z hz e=>by
   obtain ⟨_,_,kv,c,_⟩:=TB.row z hz
   rw [e,hp] at c; cases c
  refine Ż (fun q σ H2=>∃ (v3 v4:Option V) (kv:List (Key × V)) (T':List Str),σ = [some (.ref ah),some (.ref pr),some (.ref p),v3,v4] /\ Same H H2 /\ H2 p = some (.dK kv) /\ (∀ q ∈ kv,∃ z,q.1 = .inr z) /\ nms kv = T' /\ LfT C R T' /\ (yA7 C R T' \/ T'.length + q <= C.length)) ⟨none,none,rows,C,rfl,tp,hp1,hkeys,hC,lf0,.inr (by omega)⟩ ?_ ?_
  ·rintro q σ H2 hq ⟨v3,v4,kv,T0,rfl,s2,h2,hk2,hn2,lf,hfull⟩
   refine ⟨_,rfl,p,_,rfl,h2,rfl,fun qs hqs pl hpl=>⟨pl,rfl,?_⟩⟩
   have hqs:qs = kv.map fun kv=>(kV kv.1,kv.2):=hqs
   have ec:qs.map (·.1) = T0.map V.str:=by
    rw [hqs,Ň,<- hn2]
    exact zU0 hk2
   rw [ec]
   have tl:=Same.upd (o:=.lst (T0.map V.str)) hpl
   have hl3:=Á (H:=H2) (a:=pl) (o:=.lst (T0.map V.str))
   have s3:=s2.trans tl
   have h3:=tl _ _ h2
   have npl:pl ≠ p:=fun e=>by rw [e,h2] at hpl; cases hpl
   generalize upd H2 pl (.lst (T0.map V.str)) = H3 at *
   refine ⟨⟨_,SqL.of hl3⟩,?_⟩
   refine þ (xs:=T0.map V.str) (fun i σ H4=>∃ (v4:Option V) (kv:List (Key × V)) (T':List Str),σ = [some (.ref ah),some (.ref pr),some (.ref p),some (.int (0 + (q:Int))),v4] /\ Same H H4 /\ H4 pl = some (.lst (T0.map V.str)) /\ H4 p = some (.dK kv) /\ (∀ q ∈ kv,∃ z,q.1 = .inr z) /\ nms kv = T' /\ LfT C R T' /\ Swq C L R T0 i T') ⟨_,kv,T0,rfl,s3,hl3,h3,hk2,hn2,lf,Swq.start C L R T0⟩ ?_ ?_ ?_
   ·rintro i σ H4 hi ⟨v4,kv,T',rfl,s4,hl4,h4,hk4,hn4,lf4,sw⟩
    exact SqL.of hl4
   ·rintro i x σ H4 hx ⟨v4,kv,T',rfl,s4,hl4,h4,hk4,hn4,lf4,sw⟩
    obtain ⟨nm,rfl,hi⟩:=zG6 hx
    have hnT:nm ∈ T0:=ċ hi
    have hnC:nm ∈ C:=lf.sub nm hnT
    obtain ⟨vr,_,kvs,hrow0,rr0⟩:=TB.row nm hnC
    have hrow:=s4 _ _ hrow0
    have rr:=rr0.same fun v r g=>g.same s4
    have hr4:=s4 _ _ hrw
    have nsub:∀ y ∈ nms kvs,y ∈ L:=fun y hy=>G.sup nm (hCL nm hnC) y (op_some.mp ((rr.iff y).mp hy))
    have lk:(nms kvs).length <= 8:=č (Ú (ä rr.nodup rr.keys) nsub) h8
    refine ⟨ad nm,_,hrow,rfl,?_⟩
    refine ⟨_,rfl,_,rfl,pr,.ref (ad nm),rfl,?_,ad nm,_,rfl,hrow,rfl,fun o2 qs2 hqs2=>fun Dq hDq=>?_⟩
    ·have g:=DGet.k (k:=.inr nm) hr4
     rw [vr] at g; exact g
    have hqs2:qs2 = kvs.map fun kv=>(kV kv.1,kv.2):=hqs2
    subst hqs2
    have nDa:Dq ≠ ad nm:=fun e=>by rw [e,Á] at hDq; cases hDq
    have hD0:H4 Dq = none:=by rw [upd_ne nDa] at hDq; exact hDq
    have nap:=adp nm hnC
    refine zK6 (fun j σ' H'=>∃ (v:Option V),σ' = [v,some (.ref p)] /\ H' (ad nm) = some (.frz o2 (.dK kvs)) /\ (∀ c ob,H4 c = some ob->c ≠ ad nm->H' c = some ob) /\ H' Dq = some (.lst (((nms (kvs.take j)).filter fun y=>!decide (y ∈ T')).map V.str))) ⟨none,rfl,by rw [upd_ne nDa.symm,Á],fun c ob e n=>by rw [upd_ne (Ç e hD0),upd_ne n]; exact e,Á⟩ ?_ ?_ ?_
    ·rintro j σ' H' ⟨_,_,h,_⟩
     exact h
    ·rintro j k' w' σ' H' hk ⟨v,rfl,hfa,keep,hd⟩
     obtain ⟨kvi,hki,ek⟩:=Ο hk
     obtain ⟨y,r,hz,hg,fr,_,hnms⟩:=rr.at hki
     obtain ⟨rfl,rfl⟩:=Prod.mk.inj ek
     obtain ⟨k0,w0⟩:=kvi
     have hz:k0 = .inr y:=hz
     subst hz
     have hpH:=keep _ _ h4 nap.symm
     have eb:=yD7 hk4 y
     rw [hn4] at eb
     have lf':((nms (kvs.take j)).filter fun y=>!decide (y ∈ T')).length <= 8:=by
      refine č (Į _ _) ?_
      rw [Ø,ē]
      rw [Ø] at lk
      omega
     refine ⟨_,rfl,_,rfl,p,_,rfl,DGet.k (k:=.inr y) hpH,_,rfl,?_⟩
     rw [eb]
     refine ite2 (fun h=>?_) (fun h=>?_)
     ·refine ⟨_,rfl,_,hd,sz (by rw [ā]; omega),_,rfl,by rw [upd_ne (ê hfa hd (by intro z; cases z))]; exact hfa,fun c ob e n=>by rw [upd_ne (Ç e hD0)]; exact keep c ob e n,?_⟩
      rw [Á,hnms,Ĭ,ė]
      simp only [Ŗ,List.filter_nil,if_pos h]
      rfl
     ·refine ⟨_,rfl,hfa,keep,?_⟩
      rw [hd,hnms,Ĭ]
      simp only [Ŗ,List.filter_nil,if_neg h,List.append_nil]
    ·rintro σ' H' ⟨v,rfl,hfa,keep,hd⟩
     rw [ā,Đ] at hd
     refine ⟨o2,_,hfa,?_⟩
     have kp7:∀ c ob,H4 c = some ob->upd H' (ad nm) (.dK kvs) c = some ob:=fun c ob e=>by
      by_cases u:c = ad nm
      ·subst u; rw [hrow] at e; rw [Á]; exact e
      ·rw [upd_ne u]; exact keep c ob e u
     have hd2:upd H' (ad nm) (.dK kvs) Dq = some (.lst (((nms kvs).filter fun y=>!decide (y ∈ T')).map V.str)):=by rw [upd_ne nDa]; exact hd
     generalize upd H' (ad nm) (.dK kvs) = H7 at *
     refine ⟨sz (by simp),fun l0 hl0=>?_⟩
     have t0:=Same.upd (o:=.lst []) hl0
     refine ⟨_,_,zF1 (t0 _ _ hd2) (fun z hz=>layL z (nsub z (ġ.mp hz).1)),zM7 Á,zD3 _,_,rfl,?_⟩
     rw [zE9]
     have kp8:∀ c ob,H4 c = some ob->upd H7 l0 (.lst []) c = some ob:=fun c ob e=>t0 _ _ (kp7 c ob e)
     generalize upd H7 l0 (.lst []) = H8 at *
     have hb:(!((nms kvs).filter fun y=>!decide (y ∈ T')).isEmpty) = true ↔ ∃ z ∈ L,R nm z ≠ 0 /\ z ∉ T':=by
      constructor
      ·intro h
       cases e:(nms kvs).filter fun y=>!decide (y ∈ T') with
       | nil=>rw [e] at h; cases h
       | cons y ys =>
        have hy:y ∈ (nms kvs).filter fun y=>!decide (y ∈ T'):=by rw [e]; exact ă
        obtain ⟨h1,h2⟩:=ġ.mp hy
        exact ⟨y,nsub y h1,op_some.mp ((rr.iff y).mp h1),by simpa using h2⟩
      ·rintro ⟨z,hz,h1,h2⟩
       have hy:z ∈ (nms kvs).filter fun y=>!decide (y ∈ T'):=ġ.mpr ⟨(rr.iff z).mpr (op_some.mpr h1),by simpa using h2⟩
       cases e:(nms kvs).filter fun y=>!decide (y ∈ T') with
       | nil=>rw [e] at hy; cases hy
       | cons y ys=>rfl
     have sw2:=sw.step lf.nd hi _ hb
     have s8:Same H H8:=fun c ob e=>kp8 c ob (s4 c ob e)
     refine ite2 (fun h=>?_) (fun h=>?_)
     ·rw [if_pos h] at sw2
      obtain ⟨z,hz,h1,h2⟩:=hb.mp h
      have hnT':nm ∈ T':=by
       have hi':i < T0.length:=(Ą.mp hi).1
       refine sw.2.1 nm ?_
       rw [ţ hi',(Ą.mp hi).2]
       exact ă
      have lf2:=lf4.drop nC nL hCL h0R h1R hnT' hz h1 h2
      have h8:=kp8 _ _ h4
      obtain ⟨v,hv⟩:∃ v,valV kv (.inr nm) = some v:=Option.isSome_iff_exists.mp (by rw [yD7 hk4,hn4]; exact decide_eq_true hnT')
      refine ⟨_,rfl,p,rfl,.inl ⟨_,.inl h8⟩,_,rfl,kv,.inr nm,v,h8,rfl,hv,?_⟩
      refine ⟨_,ψ kv (.inr nm),_,rfl,s8.updD hp,by rw [upd_ne npl]; exact kp8 _ _ hl4,Á,yT6 hk4,rfl,?_,?_⟩
      ·rw [yF8 nm hk4,hn4]; exact lf2
      ·rw [yF8 nm hk4,hn4]; exact sw2
     ·rw [if_neg h] at sw2
      exact ⟨_,kv,T',rfl,s8,kp8 _ _ hl4,kp8 _ _ h4,hk4,hn4,lf4,sw2⟩
   ·rintro σ H4 ⟨v4,kv,T',rfl,s4,hl4,h4,hk4,hn4,lf4,sw⟩
    rw [ā] at sw
    exact ⟨_,_,kv,T',rfl,s4,h4,hk4,hn4,lf4,sw.stop nC nL hCL h0R h1R lf4 hfull⟩
  ·rintro σ H2 ⟨v3,v4,kv,T0,rfl,s2,h2,hk2,hn2,lf,hfull⟩
   have hfull:yA7 C R T0:=by
    rcases hfull with h | h
    ·exact h
    ·have h:T0.length + ((rows.length:Nat):Int).toNat <= C.length:=h
     have:T0.length = 0:=by
      have e:((rows.length:Nat):Int).toNat = C.length:=by rw [<- lR]; simp
      omega
     exact LfT.full (Ō.mp this)
   have lT:T0.length <= 5:=č (Ú lf.nd lf.sub) c5
   refine ⟨_,rfl,p,kv,T0,rfl,h2,by rw [<- hn2]; exact zI2 hk2,by omega,fun ss' hpm hst l hl=>?_⟩
   refine k l _ ss' (s2.free hl) (s2.trans (Same.upd hl)) Á (hpm.nodup_iff.mpr lf.nd) (fun x=>?_) hst
   rw [hpm.mem_iff]
   constructor
   ·intro h
    exact ⟨lf.sub x h,fun l=>hfull x l h⟩
   ·rintro ⟨h1,h2⟩
    by_cases u:x ∈ T0
    ·exact u
    ·exact absurd (lf.lk x h1 u) h2
noncomputable abbrev zA2:Stmt:=top 55
theorem sc__law_fractions:Ì ["_law_found","_law_due","_law_name","_law_share_here"] ["_law_found","_law_due"] (Å zA2):=scF
theorem zJ9 {ca:Ca} (D:DefAt K mg "_law_fractions" zA2) (T:Txt K mg ca) (G__law_alike:FnAt P w K mg base CX0 2 "_law_alike" ["_law_found","_law_due"] (yM9)):FnAt P w K mg base CX0 3 "_law_fractions" ["_law_found","_law_due"] (yE3):=by
 refine D.ok sc__law_fractions (fun vs H Q E h=>?_) (fun _ _ _ _ _ _ us hl=>match us,hl with | [_,_],_=>rfl) (fun f cdv A outer s H vs Q E hr h=>?_)
 ·obtain ⟨a,b,ka,kb,f,rfl,hab,ha,hb,ra,rb,k⟩:=h; rfl
 ·obtain ⟨a,b,ka,kb,f,rfl,hab,ha,hb,ra,rb,k⟩:=h
  have nd:=sc__law_fractions.nd
  refine ⟨_,(Ã (ø (PW.pt (π (Ν (Α (Ô (Ž (K:=K) rfl) (by rfl) T.z_isinstance î (À (pv 0) (À (Ψ (v:=.ty "dict") (by rfl) T.z_dict zK5 rfl) Â))))) (ι (Õ yB4 (Ô zI7 (by rfl) T.z_len PySem.boot_len (À (pv 0) Â)) (Ô zI7 (by rfl) T.z_len PySem.boot_len (À (pv 1) Â)) (Ù _))))) (Æ (Ï Ξ)) Þ)
   (Ã (Ŷ (ß PassesOwn.never rfl (Ÿ (Ū (K:=K) rfl PySem.F.plainAttrs_dict PySem.F.slot_dict_items PySem.F.type_dict_items Ź (pv 0))) (Θ rfl (Ò (È (i:=2) nd rfl (Or.inl rfl)) (Ò (È (i:=3) nd rfl (Or.inl rfl)) ÿ))) (Æ (ø (PW.pt (π (Ν (Α (Ô (Ž (K:=K) rfl) (by rfl) T.z_isinstance î (À (pv 2) (À (Ψ (v:=.ty "str") (by rfl) T.z_str xN5 rfl) Â))))) (π (yF1 (zN3 (â hr) (pv 2) (pv 1))) (ι (Ν (Α (pfn G__law_alike hr (À (pv 3) (À (å (â hr) (pv 1) (pv 2) (fun _ _=>rfl)) Â))))))))) (Æ (Ï Ξ)) Þ))))
   (Æ (Ï Ξ)))),?_⟩
  have tya:tyS H (.ref a) = some "dict":=by show tyH (H a) = _; rw [ha]; rfl
  refine ⟨_,rfl,_,_,_,_,rfl,Φ tya,zK8 (by decide) (by decide),_,rfl,?_⟩
  refine iteF ?_
  refine ⟨_,rfl,a,ka,rfl,ha,_,rfl,b,kb,rfl,hb,rfl,_,rfl,?_⟩
  have el:=ra.len_eq rb
  refine ite2 (fun z=>?_) (fun _=>?_)
  ·have z:(!decide (V.int (ka.length:Nat) = V.int (kb.length:Nat))) = true:=z
   rw [el] at z; simp at z
  refine ⟨a,_,ha,rfl,?_⟩
  refine ⟨_,rfl,.inr (.inr (.inl ⟨rfl,.inl ⟨_,ha⟩⟩)),a,_,rfl,rfl,ha,rfl,fun pv hpv=>?_⟩
  have t1:=Same.upd (o:=Λ pv a) hpv
  refine ⟨pv,a,_,rfl,Á,t1 _ _ ha,rfl,fun o ps hps=>?_⟩
  have hps:ps = ka.map fun kv=>(kV kv.1,kv.2):=hps
  subst hps
  refine Ů (fun i σ H2=>∃ (v2 v3:Option V),σ = [some (.ref a),some (.ref b),v2,v3] /\ H2 a = some (.frz o (.dK ka)) /\ ∀ c ob,H c = some ob->c ≠ a->H2 c = some ob) ?_ ?_ ?_ ?_
  ·exact ⟨none,none,rfl,Á,fun c ob q n=>by rw [upd_ne n]; exact t1 _ _ q⟩
  ·rintro i σ H2 ⟨_,_,_,h,_⟩
   exact h
  ·rintro i k' w T σ H2 hk ⟨v2,v3,rfl,hfa,hkeep⟩ hT
   obtain ⟨kvi,hki,ek⟩:=Ο hk
   obtain ⟨z,r,hz,hgz,fr,_,_⟩:=ra.at hki
   obtain ⟨rfl,rfl⟩:=Prod.mk.inj ek
   have ekv:kV kvi.1 = .str z:=by rw [hz]; rfl
   have t3:=Same.upd (o:=.tup [kV kvi.1,kvi.2]) hT
   have keepF:∀ {v:V} {r:Rat},FrV H v r->FrV (upd H2 T (.tup [kV kvi.1,kvi.2])) v r:=by
    rintro v r ⟨c,rfl,hc⟩
    exact ⟨c,rfl,t3 _ _ (hkeep c _ hc (ê hc ha (by intro z; cases z)))⟩
   have hb3:=t3 _ _ (hkeep b _ hb hab.symm)
   obtain ⟨w',hw1,hw2⟩:=rb.has z r hgz
   have dg:DGet (upd H2 T (.tup [kV kvi.1,kvi.2])) b (kV kvi.1) (some w'):=by
    have g:=DGet.k (k:=kvi.1) hb3
    rw [hz,hw1] at g; rw [hz]; exact g
   have tyk:tyS (upd H2 T (.tup [kV kvi.1,kvi.2])) (kV kvi.1) = some "str":=by rw [ekv]; rfl
   refine ⟨T,_,rfl,SqT.of Á,rfl,_,_,rfl,_,_,rfl,rfl,?_⟩
   refine ⟨_,rfl,_,_,_,_,rfl,Φ tyk,zK8 (by decide) (by decide),_,rfl,?_⟩
   refine iteF ?_
   refine ⟨_,rfl,_,rfl,b,_,rfl,dg,_,rfl,?_⟩
   refine iteF ?_
   refine ⟨_,rfl,_,rfl,_,rfl,b,w',rfl,dg,_,_,r,r,rfl,keepF fr,keepF hw2,_,rfl,?_⟩
   rw [decide_eq_true rfl]
   refine iteF ?_
   exact ⟨_,_,rfl,t3 _ _ hfa,fun c ob q n=>t3 _ _ (hkeep c ob q n)⟩
  ·rintro σ H2 ⟨v2,v3,rfl,hfa,hkeep⟩
   refine ⟨o,_,hfa,k _ fun c ob q=>?_⟩
   by_cases z:c = a
   ·subst z; rw [Á]; rw [ha] at q; exact q
   ·rw [upd_ne z]; exact hkeep c ob q z
noncomputable abbrev zC9:Stmt:=top 56
theorem sc__law_fine:Ì ["_law_one"] ["_law_one"] (Å zC9):=scF
theorem zY0 {ca:Ca} (D:DefAt K mg "_law_fine" zC9) (T:Txt K mg ca) (G__law_whole:FnAt P w K mg base CX0 1 "_law_whole" ["_law_found"] (yA9)) (G__law_lowest:FnAt P w K mg base CX0 2 "_law_lowest" ["_law_top","_law_bottom"] (zF6)):FnAt P w K mg base CX0 3 "_law_fine" ["_law_one"] (xB3):=by
 refine D.ok sc__law_fine (fun vs H Q E h=>?_) (fun _ _ _ _ _ _ us hl=>match us,hl with | [_],_=>rfl) (fun f cdv A outer s H vs Q E hr h=>?_)
 ·obtain ⟨v,r,rfl,hv,r0,br,k⟩:=h; rfl
 ·obtain ⟨v,r,rfl,hv,r0,br,k⟩:=h
  have nd:=sc__law_fine.nd
  refine ⟨_,(Ã (ø (PW.pt (π (Ν (Α (Ô (Ž (K:=K) rfl) (by rfl) T.z_isinstance î (À (pv 0) (À (Ψ (v:=.ty "tuple") (by rfl) T.z_tuple yH3 rfl) Â))))) (π (Õ yB4 (Ô (í (K:=K) rfl) (by rfl) T.z_len PySem.boot_len (À (pv 0) Â)) Ä (Ù _)) (π (Ν (Α (pfn G__law_whole hr (À (pixT (pv 0) Ä) Â)))) (ι (Ν (Α (pfn G__law_whole hr (À (pixT (pv 0) Ä) Â))))))))) (Æ (Ï Ξ)) Þ)
   (Æ (Ï (zQ1 (Ρ yP5 (pixT (pv 0) Ä) Ä (Ù _)) (zQ1 (Ρ xP9 (pixT (pv 0) Ä) Ä (Ù _)) (yF5 (Ρ (Τ (K:=K) rfl hr) (pfn G__law_lowest hr (À (pixT (pv 0) Ä) (À (pixT (pv 0) Ä) Â))) (pv 0) (Ù _)))))))),?_⟩
  obtain ⟨c,rfl,hc⟩:=id hv
  have dpos:=ã r
  have npos:0 <= r.num:=Rat.num_nonneg.mpr r0
  refine ⟨_,rfl,_,_,_,_,rfl,Φ hv.ty,zK8 (by decide) (by decide),_,rfl,?_⟩
  refine iteF ?_
  refine ⟨_,rfl,_,_,rfl,.inr ⟨_,SqT.of hc,rfl⟩,rfl,_,rfl,?_⟩
  refine iteF ?_
  refine ⟨_,rfl,c,_,_,_,rfl,rfl,SqT.of hc,rfl,_,"int",rfl,rfl,_,rfl,?_⟩
  refine iteF ?_
  refine ⟨_,rfl,c,_,_,_,rfl,rfl,SqT.of hc,rfl,_,"int",rfl,rfl,_,rfl,?_⟩
  refine iteF ?_
  refine ⟨_,rfl,c,_,_,_,rfl,rfl,SqT.of hc,rfl,_,_,rfl,rfl,_,rfl,?_⟩
  refine ite2 (fun _=>?_) (fun q=>absurd (decide_eq_true (by omega)) q)
  refine ⟨_,rfl,c,_,_,_,rfl,rfl,SqT.of hc,rfl,_,_,rfl,rfl,_,rfl,?_⟩
  refine ite2 (fun _=>?_) (fun q=>absurd (decide_eq_true npos) q)
  refine ⟨_,rfl,c,_,_,_,rfl,rfl,SqT.of hc,rfl,_,rfl,c,_,_,_,rfl,rfl,SqT.of hc,rfl,_,_,rfl,by omega,(show r.den < 2 ^ 9000 from ď br.den (Δ (by decide))),fun w2 H2 s2 f2=>?_⟩
  rw [Ł] at f2
  have rw2:=f2.rep (K:=K)
  refine ⟨_,rfl,_,_,rw2,(hv.same s2).rep,Β _ _,?_⟩
  rw [PySem.SeqAt.eqv_refl _ rw2.lay]
  exact k _ s2
noncomputable abbrev zD0:Stmt:=top 57
theorem sc__law_aged:Ì ["_law_house_here","_law_steps_here","_law_many","_law_due","_law_now","_law_k"] ["_law_house_here","_law_steps_here","_law_many"] (Å zD0):=scF
theorem zY1 {ca:Ca} (D:DefAt K mg "_law_aged" zD0) (T:Txt K mg ca) (G__law_casks:FnAt P w K mg base CX0 1 "_law_casks" ["_law_house_here","_law_made"] (zH5 K)) (G__law_led:FnAt P w K mg base CX0 4 "_law_led" ["_law_totals","_law_steps_here","_law_brings"] (yM5 K)) (G__law_places:FnAt P w K mg base CX0 1 "_law_places" ["_law_house_here","_law_totals"] (zH4 K)):FnAt P w K mg base CX0 5 "_law_aged" ["_law_house_here","_law_steps_here","_law_many"] (yN0 K):=by
 refine D.ok sc__law_aged (fun vs H Q E h=>?_) (fun _ _ _ _ _ _ us hl=>match us,hl with | [_,_,_],_=>rfl) (fun f cdv A outer s H vs Q E hr h=>?_)
 ·obtain ⟨ah,as,xs,ps,ys,ss,n,rfl,hh,n8,k⟩:=h; rfl
 ·obtain ⟨ah,as,xs,ps,ys,ss,n,rfl,hh,n8,k⟩:=h
  have nd:=sc__law_aged.nd
  refine ⟨_,(Ã (Ê (i:=3) nd rfl (Or.inl rfl) (ų Â))
   (Ã (Ê (i:=4) nd rfl (Or.inl rfl) (pfn G__law_casks hr (À (pv 0) (À (pfn G__law_led hr (À (pfn G__law_places hr (À (pv 0) (À ë Â))) (À (pv 1) (À Ξ Â)))) Â))))
   (Ã (ß PassesOwn.never rfl (ŷ (by rfl) T.z_range (À (pv 2) Â)) (È (i:=5) nd rfl (Or.inl rfl)) (Ã (ù (ρ PySem.F.plainAttrs_list PySem.F.slot_list_append PySem.F.type_list_append û (pv 3) (À (pv 4) Â)))
   (Æ (Ê (i:=4) nd rfl (Or.inl rfl) (pfn G__law_casks hr (À (pv 0) (À (pfn G__law_led hr (À (pfn G__law_places hr (À (pv 0) (À (pv 4) Â))) (À (pv 1) (À Ξ Â)))) Â)))))))
   (Æ (Ï (pv 3)))))),?_⟩
  obtain ⟨hA,hP,ok,c5,hX,hT,hO,h15⟩:=hh
  have hOs:∀ s ∈ ss,OkS (allN ps) s:=fun s hs=>(hO s hs).1
  have l8:(allN ps).length <= 8:=by unfold allN; rw [ā]; exact ok.len
  have hCL:∀ x ∈ ckN ps,x ∈ allN ps:=fun x hx=>ż hx
  have P0:=ú ss
  have P100:=zE0 hO h15
  let ms:Nat->Str->Rat:=mass (ckN ps) (back ss) (bT ss)
  let mC:Nat->Str->Rat:=fun i y=>if y ∈ ckN ps then ms i y else 0
  refine ⟨sz (by simp),fun pd hpd=>?_⟩
  have td:=Same.upd (o:=.lst []) hpd
  have hpd1:=Á (H:=H) (a:=pd) (o:=.lst [])
  generalize upd H pd (.lst []) = H1 at *
  refine ⟨_,rfl,_,rfl,fun p2 hp2=>?_⟩
  have t2:=Same.upd (o:=.dK []) hp2
  have hp22:=Á (H:=H1) (a:=p2) (o:=.dK [])
  have s02:=td.trans t2
  have hpd2:=t2 _ _ hpd1
  generalize upd H1 p2 (.dK []) = H2 at *
  refine ⟨ah,p2,xs,ps,[],fun _=>none,rfl,SqL.of (s02 _ _ hA),Ð hP s02,ok.len,hp22,RowAt.nil _,fun p3 H3 kv3 hp3 s3 h3 r3=>?_⟩
  have s03:=s02.trans s3
  have cd0:∀ z ∈ allN ps,Cd 1 1 ((fun z=>((fun _=>none:Str->Option Rat) z).getD 0) z):=fun z _=>Cd.zero _ _
  have bd0:=yG2 ok.nd l8 hO h15 (E:=1) (W:=1) (w:=0) (by decide) (by decide) (by decide) (by decide) cd0 true
  refine ⟨_,rfl,p3,as,kv3,ys,ss,allN ps,true,_,rfl,h3,ok.nd,l8,r3,SqL.of (s03 _ _ hX),Ö hT s03,hO,h15,bd0,fun p4 H4 kv4 hp4 s4 h4 r4=>?_⟩
  have s04:=s03.trans s4
  refine ⟨ah,p4,xs,ps,kv4,_,rfl,SqL.of (s04 _ _ hA),Ð hP s04,ok.len,h4,r4,fun p5 H5 kv5 hp5 s5 h5 r5=>?_⟩
  have s05:=s04.trans s5
  have e5:all (ckN ps) (ledB true ss fun z=>((fun _=>none:Str->Option Rat) z).getD 0) = all (ckN ps) (ms 0):=ů fun z hz=>by
   rw [xC6 ok.nd ok.ck hCL hOs (f:=fun z=>((fun _=>none:Str->Option Rat) z).getD 0) (fun _ _=>rfl) z hz]
   have:(sumL (ckN ps) fun n=>((fun _=>none:Str->Option Rat) n).getD 0 * back ss n z) = 0:=ö _ _ fun y _=>ō _
   rw [this,ň]; rfl
  rw [e5] at r5
  have hpd5:=(s3.trans (s4.trans s5)) _ _ hpd2
  have n5:p5 ≠ pd:=(Ç ((s3.trans s4) _ _ hpd2) hp5).symm
  show Ends.nx _ [some (.ref ah),some (.ref as),some (.int (n:Nat)),some (.ref pd),some (.ref p5),none] _
  refine ⟨_,rfl,_,rfl,by omega,by omega,?_⟩
  refine Ż (fun i σ H'=>∃ (v5:Option V) (pT:Addr) (kT:List (Key × V)) (ds:List Addr),σ = [some (.ref ah),some (.ref as),some (.int (n:Nat)),some (.ref pd),some (.ref pT),v5] /\ Same H H' /\ H' pd = some (.lst (ds.map V.ref)) /\ ds.length = i /\ (∀ j d,ds[j]? = some d->d ≠ pd /\ ∃ kv,H' d = some (.dK kv) /\ RowAt H' kv (all (ckN ps) (ms j))) /\ H' pT = some (.dK kT) /\ RowAt H' kT (all (ckN ps) (ms i)) /\ pT ≠ pd /\ ∃ E W,0 < E /\ E <= W /\ W <= 2 ^ (118 + 118 * i) /\ ∀ z ∈ allN ps,Cd E W (mC i z)) ⟨_,p5,kv5,[],rfl,s05,hpd5,rfl,(fun j d e=>nomatch e),h5,r5,n5,12 * Î ss,15000 * (12 * Î ss),by omega,Ŏ _ (by decide),twelve P100 (ą _),fun z _=>?_⟩ ?_ ?_
  ·show Cd _ _ (if z ∈ ckN ps then bT ss z else 0)
   split
   ·exact yK1 ok.nd hO h15 z
   ·exact Cd.zero _ _
  ·rintro i σ H' hi ⟨v5,pT,kT,ds,rfl,s6,hd6,ld,hds,hT6,rT6,nTd,E2,W2,e20,ew2,w2,hcd2⟩
   have hi:i < n:=by simpa using hi
   refine ⟨_,rfl,.inl ⟨rfl,_,SqL.of hd6⟩,_,rfl,pd,_,_,rfl,rfl,hd6,sz (by rw [ā]; omega),?_⟩
   have tu:=Ñ (o:=.lst (ds.map V.ref ++ [.ref pT])) hd6 (fun _ z=>nomatch z)
   have s7:=s6.updD (o:=.lst (ds.map V.ref ++ [.ref pT])) hpd
   have hd7:=Á (H:=H') (a:=pd) (o:=.lst (ds.map V.ref ++ [.ref pT]))
   have hT7:upd H' pd (.lst (ds.map V.ref ++ [.ref pT])) pT = some (.dK kT):=by rw [upd_ne nTd]; exact hT6
   have rT7:=rT6.same fun v r g=>g.tup tu
   have hds7:∀ j d,(ds ++ [pT])[j]? = some d->d ≠ pd /\ ∃ kv,upd H' pd (.lst (ds.map V.ref ++ [.ref pT])) d = some (.dK kv) /\ RowAt (upd H' pd (.lst (ds.map V.ref ++ [.ref pT]))) kv (all (ckN ps) (ms j)):=fun j d e=>by
    rcases zL7 e with e | ⟨e1,rfl⟩
    ·obtain ⟨a2,kv,a3,a4⟩:=hds j d e
     exact ⟨a2,kv,by rw [upd_ne a2]; exact a3,a4.same fun v r g=>g.tup tu⟩
    ·rw [e1,ld]
     exact ⟨nTd,kT,hT7,rT7⟩
   rw [show ds.map V.ref ++ [.ref pT] = (ds ++ [pT]).map V.ref by rw [ė]; rfl] at *
   generalize upd H' pd (.lst ((ds ++ [pT]).map V.ref)) = H7 at *
   have bdT:=yG2 ok.nd l8 hO h15 e20 ew2 w2 (by omega) hcd2 false
   have cdT:=xC5 ok.nd l8 hO h15 ew2 hcd2 false ss.length (ą _)
   rw [Đ] at cdT
   refine ⟨_,rfl,_,rfl,_,rfl,ah,pT,xs,ps,kT,all (ckN ps) (ms i),rfl,SqL.of (s7 _ _ hA),Ð hP s7,ok.len,hT7,rT7,fun p6 H8 kv6 hp6 s8 h8 r8=>?_⟩
   have e8:(fun z=>(all (ckN ps) (ms i) z).getD 0) = mC i:=by
    funext z
    rw [zL9]
   rw [e8] at r8
   have s08:=s7.trans s8
   refine ⟨_,rfl,p6,as,kv6,ys,ss,allN ps,false,mC i,rfl,h8,ok.nd,l8,r8,SqL.of (s08 _ _ hX),Ö hT s08,hO,h15,bdT,fun p7 H9 kv7 hp7 s9 h9 r9=>?_⟩
   have s09:=s08.trans s9
   refine ⟨ah,p7,xs,ps,kv7,ledB false ss (mC i),rfl,SqL.of (s09 _ _ hA),Ð hP s09,ok.len,h9,r9,fun p8 H10 kv8 hp8 s10 h10 r10=>?_⟩
   have s710:=s8.trans (s9.trans s10)
   have e10:∀ z ∈ ckN ps,ledB false ss (mC i) z = ms (i + 1) z:=fun z hz=>yG1 ok.nd ok.ck hCL hOs (bT ss) i z hz
   rw [ů e10] at r10
   have e18:(2:Nat) ^ 18 = 262144:=by decide
   refine ⟨_,p8,kv8,ds ++ [pT],rfl,s7.trans s710,s710 _ _ hd7,by rw [Ĝ,ld]; rfl,fun j d e=>?_,h10,r10,(Ç ((s8.trans s9) _ _ hd7) hp8).symm,E2 * Î ss * 12,2 ^ 18 * (W2 * Î ss),Ľ (Ľ e20 P0) (by decide),?_,?_,fun z hz=>?_⟩
   ·obtain ⟨a2,kv,a3,a4⟩:=hds7 j d e
    exact ⟨a2,kv,s710 _ _ a3,a4.same fun v r g=>g.same s710⟩
   ·have:=Ė (Î ss) ew2
    rw [e18]; omega
   ·have e:118 + 118 * (i + 1) = 18 + (118 + 118 * i + 100):=by omega
    rw [e,ī,ī 2 (118 + 118 * i)]
    exact Nat.mul_le_mul_left _ (ğ w2 P100)
   ·show Cd _ _ (if z ∈ ckN ps then ms (i + 1) z else 0)
    split
    ·rename_i q
     rw [<- e10 z q]; exact cdT z hz
    ·exact Cd.zero _ _
  ·rintro σ H' ⟨v5,pT,kT,ds,rfl,s6,hd6,ld,hds,_⟩
   have em:((n:Nat):Int).toNat = n:=by simp
   rw [em] at ld
   exact ⟨_,rfl,k pd H' ds hpd s6 hd6 ld fun j d e=>(hds j d e).2⟩
noncomputable abbrev zB0:Stmt:=top 58
theorem sc__law_by_age:Ì ["_law_house_here","_law_steps_here","_law_many","_law_due","_law_turn","_law_found","_law_one","_law_other"] ["_law_house_here","_law_steps_here","_law_many"] (Å zB0):=scF
theorem zP2 {ca:Ca} (D:DefAt K mg "_law_by_age" zB0) (T:Txt K mg ca) (G__law_aged:FnAt P w K mg base CX0 5 "_law_aged" ["_law_house_here","_law_steps_here","_law_many"] (yN0 K)) (G_by_age:FnAt P w K mg base CX0 7 "by_age" ["house","steps","many"] (spBy K)) (G__law_fractions:FnAt P w K mg base CX0 3 "_law_fractions" ["_law_found","_law_due"] (yE3)):FnAt P w K mg base CX0 8 "_law_by_age" ["_law_house_here","_law_steps_here","_law_many"] (xJ0 K):=by
 refine D.ok sc__law_by_age (fun vs H Q E h=>?_) (fun _ _ _ _ _ _ us hl=>match us,hl with | [_,_,_],_=>rfl) (fun f cdv A outer s H vs Q E hr h=>?_)
 ·obtain ⟨ah,as,xs,ps,ys,ss,n,rfl,hh,n8,hlk,k⟩:=h; rfl
 ·obtain ⟨ah,as,xs,ps,ys,ss,n,rfl,hh,n8,hlk,k⟩:=h
  have nd:=sc__law_by_age.nd
  refine ⟨_,(Ã (Ê (i:=3) nd rfl (Or.inl rfl) (pfn G__law_aged hr (À (pv 0) (À (pv 1) (À (pv 2) Â)))))
   (Ã (ß PassesOwn.never rfl (ŷ (by rfl) T.z_range (À Ä Â)) (È (i:=4) nd rfl (Or.inl rfl)) (Ã (Ê (i:=5) nd rfl (Or.inl rfl) (pfn G_by_age hr (À (pv 0) (À (pv 1) (À (pv 2) Â)))))
   (Ã (ø (PW.pt (π (Ν (Α (Ô (Ž (K:=K) rfl) (by rfl) T.z_isinstance î (À (pv 5) (À (Ψ (v:=.ty "list") (by rfl) T.z_list γ rfl) Â))))) (ι (Õ yB4 (Ô (í (K:=K) rfl) (by rfl) T.z_len PySem.boot_len (À (pv 5) Â)) (pv 2) (Ù _))))) (Æ (Ï Ξ)) Þ)
   (Ã (ß PassesOwn.never rfl (xB7 (K:=K) rfl (by rfl) T.z_zip (À (pv 5) (À (pv 3) Â))) (Θ rfl (Ò (È (i:=6) nd rfl (Or.inl rfl)) (Ò (È (i:=7) nd rfl (Or.inl rfl)) ÿ))) (Ã (ø (Ν (Α (pfn G__law_fractions hr (À (pv 6) (À (pv 7) Â))))) (Æ (Ï Ξ)) Þ)
   (Æ (ù (Ū (K:=K) rfl PySem.F.plainAttrs_dict PySem.F.slot_dict_clear PySem.F.type_dict_clear yQ8 (pv 6))))))
   (Æ (ù (Ū (K:=K) rfl PySem.F.plainAttrs_list PySem.F.slot_list_clear PySem.F.type_list_clear yY1 (pv 5))))))))
   (Æ (Ï Ξ)))),?_⟩
  refine ⟨_,rfl,_,rfl,_,rfl,ah,as,xs,ps,ys,ss,n,rfl,hh,n8,fun pe H1 es hpe s1 h1 le hes=>?_⟩
  obtain ⟨hA,hP,ok,c5,hX,hT,hO,h15⟩:=hh
  have hh1:∀ {Hx:Hp},Same H Hx->HsV K Hx ah as xs ps ys ss:=fun sx=>⟨sx _ _ hA,Ð hP sx,ok,c5,sx _ _ hX,Ö hT sx,hO,h15⟩
  show Ends.nx _ [some (.ref ah),some (.ref as),some (.int (n:Nat)),some (.ref pe),none,none,none,none] _
  refine ⟨_,rfl,by decide,by decide,?_⟩
  refine Ż (fun i σ H'=>∃ (v4 v5 v6 v7:Option V),σ = [some (.ref ah),some (.ref as),some (.int (n:Nat)),some (.ref pe),v4,v5,v6,v7] /\ Same H1 H') ⟨_,_,_,_,rfl,Same.refl _⟩ ?_ ?_
  ·rintro i σ H' hi ⟨v4,v5,v6,v7,rfl,s2⟩
   refine ⟨_,rfl,_,rfl,_,rfl,ah,as,xs,ps,ys,ss,n,rfl,hh1 (s1.trans s2),n8,(fun ⟨x,hx,q⟩=>absurd (hlk x hx) q),fun _ pf H2 ds hpf s3 h2 ld nd' hds=>?_⟩
   show Ends.nx _ [some (.ref ah),some (.ref as),some (.int (n:Nat)),some (.ref pe),some (.int (0 + (i:Int))),some (.ref pf),v6,v7] _
   have ty:tyS H2 (.ref pf) = some "list":=by show tyH (H2 pf) = _; rw [h2]; rfl
   refine ⟨_,rfl,_,_,_,_,rfl,Φ ty,zK8 (by decide) (by decide),_,rfl,?_⟩
   refine iteF ?_
   refine ⟨_,rfl,_,_,rfl,.inl ⟨_,SqL.of h2,rfl⟩,_,rfl,rfl,_,rfl,?_⟩
   refine ite2 (fun z=>?_) (fun _=>?_)
   ·have z:(!decide (V.int ((ds.map V.ref).length:Nat) = V.int (n:Nat))) = true:=z
    rw [ā,ld] at z; simp at z
   have h12:=s3 _ _ (s2 _ _ h1)
   have ndp:∀ d ∈ ds,H' d = none /\ d ≠ pf /\ ∃ kv,H2 d = some (.dK kv):=fun d hd=>by
    obtain ⟨j,hj,ej⟩:=Ĺ hd
    obtain ⟨a1,a2,kv,a3,_⟩:=hds j d (by rw [Č hj,ej])
    exact ⟨a1,a2,kv,a3⟩
   have npf:pf ∉ ds:=fun e=>(ndp pf e).2.1 rfl
   have nold:∀ c ob,H' c = some ob->c ∉ ds:=fun c ob e q=>by rw [(ndp c q).1] at e; cases e
   have ntup:∀ c m,H2 c = some (.tup m)->c ∉ ds:=fun c m e q=>by
    obtain ⟨_,_,kv,a⟩:=ndp c q
    rw [a] at e; cases e
   refine ⟨_,rfl,_,rfl,pf,pe,_,_,rfl,SqL.of h2,SqL.of h12,?_⟩
   refine xH3 (xs:=ds.map V.ref) (ys:=es.map V.ref) (fun j σ H3=>∃ (v6 v7:Option V),σ = [some (.ref ah),some (.ref as),some (.int (n:Nat)),some (.ref pe),some (.int (0 + (i:Int))),some (.ref pf),v6,v7] /\ ∀ c ob,H2 c = some ob->c ∉ ds.take j->H3 c = some ob) (by rw [ā,ā]; omega) ⟨_,_,rfl,fun c ob e _=>e⟩ ?_ ?_ ?_
   ·rintro j σ H3 hj ⟨v6,v7,rfl,kp⟩
    exact ⟨SqL.of (kp _ _ h2 fun q=>npf (ĵ q)),SqL.of (kp _ _ h12 fun q=>nold _ _ (s2 _ _ h1) (ĵ q))⟩
   ·rintro j x y T σ H3 hx hy ⟨v6,v7,rfl,kp⟩ hT'
    rw [đ] at hx hy
    obtain ⟨d,hd,rfl⟩:=Option.map_eq_some_iff.mp hx
    obtain ⟨e,he,rfl⟩:=Option.map_eq_some_iff.mp hy
    obtain ⟨a1,a2,kd,a3,a4⟩:=hds j d hd
    obtain ⟨ke,b3,b4⟩:=hes j e he
    have e2:=s2 _ _ b3
    have nde:d ≠ e:=fun q=>by rw [q,e2] at a1; cases a1
    have kpT:∀ c m,H2 c = some (.tup m)->H3 c = some (.tup m):=fun c m q=>kp c _ q fun u=>ntup c m q (ĵ u)
    have dj:d ∉ ds.take j:=yY0 nd' hd
    have ej:e ∉ ds.take j:=fun u=>nold _ _ e2 (ĵ u)
    have tT:=Same.upd (o:=.tup [V.ref d,.ref e]) hT'
    have hd3:=tT _ _ (kp _ _ a3 dj)
    have he3:=tT _ _ (kp _ _ (s3 _ _ e2) ej)
    have rd3:=a4.same fun v r g=>(g.tup kpT).same tT
    have re3:=b4.same fun v r g=>(((g.same s2).same s3).tup kpT).same tT
    refine ⟨T,_,rfl,SqT.of Á,rfl,_,_,rfl,_,_,rfl,rfl,?_⟩
    refine ⟨_,rfl,_,rfl,d,e,kd,ke,_,rfl,nde,hd3,he3,rd3,re3,fun H4 s4=>⟨_,rfl,?_⟩⟩
    refine iteF ?_
    have hd4:=s4 _ _ hd3
    refine ⟨_,rfl,.inr (.inr (.inl ⟨rfl,.inl ⟨_,hd4⟩⟩)),d,_,rfl,rfl,hd4,rfl,?_⟩
    refine ⟨_,_,rfl,fun c ob q u=>?_⟩
    rw [Û hd] at u
    have n1:c ≠ d:=fun z=>u (ĩ _ (by rw [z]; exact ă))
    rw [upd_ne n1]
    exact s4 _ _ (tT _ _ (kp c ob q fun z=>u (List.mem_append_left _ z)))
   ·rintro σ H3 ⟨v6,v7,rfl,kp⟩
    have h3:=kp _ _ h2 fun q=>npf (ĵ q)
    refine ⟨_,rfl,.inl ⟨rfl,_,SqL.of h3⟩,pf,_,rfl,rfl,h3,?_⟩
    refine ⟨_,_,_,_,rfl,fun c ob q=>?_⟩
    have q2:=s2 _ _ q
    rw [upd_ne (Ç q2 hpf)]
    exact kp _ _ (s3 _ _ q2) fun u=>nold _ _ q2 (ĵ u)
  ·rintro σ H' ⟨v4,v5,v6,v7,rfl,s2⟩
   exact k _ (s1.trans s2)
noncomputable abbrev zC1:Stmt:=top 59
theorem sc__law_means:Ì ["_law_house_here","_law_steps_here","_law_totals_now","_law_found","_law_ages","_law_name","_law_both_here"] ["_law_house_here","_law_steps_here","_law_totals_now"] (Å zC1):=scF
theorem zS9 {ca:Ca} (D:DefAt K mg "_law_means" zC1) (T:Txt K mg ca) (G_mean_ages:FnAt P w K mg base CX0 8 "mean_ages" ["house","steps"] (yM2 K)) (G__law_fine:FnAt P w K mg base CX0 3 "_law_fine" ["_law_one"] (xB3)) (G__law_times:FnAt P w K mg base CX0 3 "_law_times" ["_law_one","_law_other"] (sp2 4000 (· * ·))) (G__law_plus:FnAt P w K mg base CX0 3 "_law_plus" ["_law_one","_law_other"] (sp2 4000 (· + ·))) (G__law_casks:FnAt P w K mg base CX0 1 "_law_casks" ["_law_house_here","_law_made"] (zH5 K)) (G__law_led:FnAt P w K mg base CX0 4 "_law_led" ["_law_totals","_law_steps_here","_law_brings"] (yM5 K)) (G__law_places:FnAt P w K mg base CX0 1 "_law_places" ["_law_house_here","_law_totals"] (zH4 K)):FnAt P w K mg base CX0 9 "_law_means" ["_law_house_here","_law_steps_here","_law_totals_now"] (yE5 K):=by
 refine D.ok sc__law_means (fun vs H Q E h=>?_) (fun _ _ _ _ _ _ us hl=>match us,hl with | [_,_,_],_=>rfl) (fun f cdv A outer s H vs Q E hr h=>?_)
 ·obtain ⟨ah,as,at',xs,ps,ys,ss,kt,X,rfl,hh,hlk,ht,rt,eX,k⟩:=h; rfl
 ·obtain ⟨ah,as,at',xs,ps,ys,ss,kt,X,rfl,hh,hlk,ht,rt,eX,k⟩:=h
  have nd:=sc__law_means.nd
  refine ⟨_,(Ã (Ê (i:=3) nd rfl (Or.inl rfl) (pfn G_mean_ages hr (À (pv 0) (À (pv 1) Â))))
   (Ã (ø (PW.pt (π (Ν (Α (Ô (Ž (K:=K) rfl) (by rfl) T.z_isinstance î (À (pv 3) (À (Ψ (v:=.ty "dict") (by rfl) T.z_dict zK5 rfl) Â))))) (ι (Õ (zG8 (K:=K) rfl hr) (Ô (zF4 rfl) (by rfl) T.z_sorted zI8 (À (pv 3) Â)) (Ô (zF4 rfl) (by rfl) T.z_sorted zI8 (À (pv 2) Â)) (Ù _))))) (Æ (Ï Ξ)) Þ)
   (Ã (Ê (i:=4) nd rfl (Or.inl rfl) ë)
   (Ã (Ŷ (ß PassesOwn.never rfl (Χ (pv 2)) (È (i:=5) nd rfl (Or.inl rfl)) (Ã (ç (â hr) (pv 4) (pv 5) (Ü (À Ä (À Ä Â))) rfl)
   (Æ (ø (Õ (Τ (K:=K) rfl hr) (å (â hr) (pv 2) (pv 5) (fun _ _=>rfl)) (Ü (À Ä (À Ä Â))) (Ù _)) (Æ (ø (Õ xF6 (å (â hr) (pv 3) (pv 5) (fun _ _=>rfl)) zQ0 (Ù _)) (Æ (Ï Ξ)) Þ)) (Ã (ø (Ν (Α (pfn G__law_fine hr (À (å (â hr) (pv 3) (pv 5) (fun _ _=>rfl)) Â)))) (Æ (Ï Ξ)) Þ)
   (Æ (ç (â hr) (pv 4) (pv 5) (pfn G__law_times hr (À (å (â hr) (pv 3) (pv 5) (fun _ _=>rfl)) (À (å (â hr) (pv 2) (pv 5) (fun _ _=>rfl)) Â))) rfl))))))))
   (Ã (Ê (i:=6) nd rfl (Or.inl rfl) ë)
   (Ã (Ŷ (ß PassesOwn.never rfl (Χ (pv 4)) (È (i:=5) nd rfl (Or.inl rfl)) (Æ (ç (â hr) (pv 6) (pv 5) (pfn G__law_plus hr (À (å (â hr) (pv 4) (pv 5) (fun _ _=>rfl)) (À (å (â hr) (pv 2) (pv 5) (fun _ _=>rfl)) Â))) rfl))))
   (Æ (Ï (Ρ (xK7 (K:=K) rfl hr) (pfn G__law_casks hr (À (pv 0) (À (pfn G__law_led hr (À (pfn G__law_places hr (À (pv 0) (À (pv 6) Â))) (À (pv 1) (À Ξ Â)))) Â))) (pv 4) (Ù _)))))))))),?_⟩
  refine ⟨_,rfl,_,rfl,ah,as,xs,ps,ys,ss,rfl,hh,(fun ⟨x,hx,q⟩=>absurd (hlk x hx) q),fun _ pf H1 kf Cf Xf A hpf s1 hf1 mn1 nCf CRf eXf eA=>?_⟩
  obtain ⟨hA,hP,ok,c5,hX,hT,hO,h15⟩:=hh
  have hOs:∀ s ∈ ss,OkS (allN ps) s:=fun s hs=>(hO s hs).1
  have l8:(allN ps).length <= 8:=by unfold allN; rw [ā]; exact ok.len
  have hCL:∀ x ∈ ckN ps,x ∈ allN ps:=fun x hx=>ż hx
  have G:=ï ok.nd hOs
  have SC:=G.sub ok.ck ok.nd hCL
  have D0:=ú ss
  have D100:=zE0 hO h15
  have eXX:∀ z ∈ ckN ps,Xf z = X z:=yY3 SC hlk eXf eX
  have b0:∀ z ∈ ckN ps,0 <= bT ss z:=fun z _=>xR4 ok.nd hO z
  have X0:∀ z ∈ ckN ps,0 <= X z:=yR5 SC hlk b0 eX
  have eL:ldR (ckN ps) (back ss) Xf = ldR (ckN ps) (back ss) X:=by
   funext z
   exact Ý fun y hy=>by rw [eXX y hy]
  rw [eL] at eA
  have LX0:∀ z ∈ ckN ps,0 <= ldR (ckN ps) (back ss) X z:=fun z hz=>Ų fun y hy=>Ğ (X0 y hy) (SC.nn y hy z)
  have A0:∀ z ∈ ckN ps,0 <= A z:=yR5 SC hlk LX0 eA
  have AZ:=yV3 SC hlk b0 X0 A0 eX eA
  have hW:15000 * (12 * Î ss) <= 2 ^ 118:=twelve D100 (ą _)
  have E120:0 < 12 * Î ss:=by omega
  have E12W:12 * Î ss <= 15000 * (12 * Î ss):=Ŏ _ (by decide)
  obtain ⟨E1,E10,E1W,c1⟩:=zT6 G ok.ck ok.nd hCL hlk D0 eX E120 E12W fun z _=>yK1 ok.nd hO h15 z
  have W1le:=yD6 hW D100 c5
  generalize 15000 * (12 * Î ss) * ((ckN ps).length * Î ss) ^ (ckN ps).length = W1 at *
  have E20:0 < E1 * Î ss:=Ľ E10 D0
  have E2W:E1 * Î ss <= 5 * (W1 * Î ss):=by have:=Ė (Î ss) E1W; omega
  obtain ⟨E3,E30,E3W,c3⟩:=zT6 G ok.ck ok.nd hCL hlk D0 eA E20 E2W fun z _=>yR4 G hCL c5 c1 z
  have W3le:=yD6 (yK3 W1le D100) D100 c5
  generalize 5 * (W1 * Î ss) * ((ckN ps).length * Î ss) ^ (ckN ps).length = W3 at *
  have bX:∀ z ∈ ckN ps,Bd 700 (X z):=fun z hz=>((c1 z hz).bd E10 E1W W1le).mono (by decide)
  have bA:∀ z ∈ ckN ps,Bd 1300 (A z):=fun z hz=>((c3 z hz).bd E30 E3W W3le).mono (by decide)
  have mt:∀ z,z ∈ nms kt ↔ z ∈ ckN ps:=fun z=>(rt.iff z).trans all_some
  have nt:(nms kt).Nodup:=ä rt.nodup rt.keys
  have lt5:(nms kt).length <= 5:=č (Ú nt fun z hz=>(mt z).mp hz) c5
  have lf5:(nms kf).length <= 5:=by rw [mn1.names]; exact č (Ú nCf fun z hz=>(CRf z).mp hz) c5
  have ht1:=s1 _ _ ht
  show Ends.nx _ [some (.ref ah),some (.ref as),some (.ref at'),some (.ref pf),none,none,none] _
  have tyd:tyS H1 (.ref pf) = some "dict":=by show tyH (H1 pf) = _; rw [hf1]; rfl
  refine ⟨_,rfl,_,_,_,_,rfl,Φ tyd,zK8 (by decide) (by decide),_,rfl,?_⟩
  refine iteF ?_
  refine ⟨_,rfl,pf,kf,nms kf,rfl,hf1,zI2 mn1.keys,by omega,fun z1 pm1 st1 l1 hl1=>?_⟩
  have u1:=Same.upd (o:=.lst (z1.map V.str)) hl1
  refine ⟨_,rfl,at',kt,nms kt,rfl,u1 _ _ ht1,zI2 rt.keys,by omega,fun z2 pm2 st2 l2 hl2=>?_⟩
  have u2:=Same.upd (o:=.lst (z2.map V.str)) hl2
  have mf:∀ z,z ∈ nms kf ↔ z ∈ nms kt:=fun z=>by rw [mn1.names,CRf,mt]
  have e12:z1 = z2:=yB1 (pm1.trans (((List.perm_ext_iff_of_nodup (by rw [mn1.names]; exact nCf) nt).mpr mf).trans pm2.symm)) st1 st2
  have lay1:∀ z ∈ z1,Lay z:=fun z hz=>ok.lay z (ż ((mt z).mp ((mf z).mp (pm1.mem_iff.mp hz))))
  have rz1:=zF1 (K:=K) (u2 _ _ (Á (H:=H1) (a:=l1) (o:=.lst (z1.map V.str)))) lay1
  refine ⟨_,_,rz1,zF1 Á (by rw [<- e12]; exact lay1),zD3 _,_,rfl,?_⟩
  rw [<- e12,PySem.SeqAt.eqv_refl _ rz1.lay]
  refine iteF ?_
  have s12:=s1.trans (u1.trans u2)
  have hf2:=(u1.trans u2) _ _ hf1
  have mn2:=mn1.mono fun v r g=>g.same (u1.trans u2)
  rw [e12] at s12 hf2 mn2
  rw [e12]
  generalize upd (upd H1 l1 (.lst (z2.map V.str))) l2 (.lst (z2.map V.str)) = H2 at *
  have ht2:=s12 _ _ ht
  have nft:pf ≠ at':=fun e=>by rw [e,ht] at hpf; cases hpf
  intro pg hpg
  have tg:=Same.upd (o:=.dK []) hpg
  have hg3:=Á (H:=H2) (a:=pg) (o:=.dK [])
  have s13:=s12.trans tg
  have hf3:=tg _ _ hf2
  have mn3:=mn2.mono fun v r g=>g.same tg
  have ngt:pg ≠ at':=fun e=>by rw [e,ht2] at hpg; cases hpg
  have ngf:pg ≠ pf:=fun e=>by rw [e,hf2] at hpg; cases hpg
  have hpg0:=s12.free hpg
  generalize upd H2 pg (.dK []) = H3 at *
  have ht3:=s13 _ _ ht
  have rt3:=rt.same fun v r g=>g.same s13
  show Ends.nx _ [some (.ref ah),some (.ref as),some (.ref at'),some (.ref pf),some (.ref pg),none,none] _
  refine ⟨at',_,ht3,rfl,?_⟩
  refine ⟨_,rfl,at',_,rfl,ht3,rfl,fun o qs hqs=>?_⟩
  have hqs:qs = kt.map fun kv=>(kV kv.1,kv.2):=hqs
  subst hqs
  refine zI4 (fun i σ H4=>∃ (v5:Option V) (kg:List (Key × V)),σ = [some (.ref ah),some (.ref as),some (.ref at'),some (.ref pf),some (.ref pg),v5,none] /\ H4 at' = some (.frz o (.dK kt)) /\ (∀ c ob,H3 c = some ob->c ≠ pg->c ≠ at'->H4 c = some ob) /\ H4 pg = some (.dK kg) /\ RowAt H4 kg (all (nms (kt.take i)) A)) ?_ ?_ ?_ ?_
  ·refine ⟨none,[],rfl,Á,fun c ob e _ n=>by rw [upd_ne n]; exact e,by rw [upd_ne ngt]; exact hg3,?_⟩
   rw [œ]
   show RowAt _ [] (all [] _)
   rw [δ]; exact RowAt.nil _
  ·rintro i σ H4 ⟨_,_,_,h,_⟩
   exact h
  ·rintro i k' v σ H4 hk ⟨v5,kg,rfl,hfz,kp,hg,row⟩
   obtain ⟨kvi,hki,ek⟩:=Ο hk
   have hval:=Ŵ rt.nodup hki
   obtain ⟨z,r,hz,hgz,fr,hnot,hnms⟩:=rt3.at hki
   obtain ⟨rfl,rfl⟩:=Prod.mk.inj ek
   obtain ⟨k0,w0⟩:=kvi
   have hz:k0 = .inr z:=hz
   subst hz
   have hzC:z ∈ ckN ps:=all_some.mp (by rw [hgz]; rfl)
   have er:r = X z:=by
    unfold all at hgz
    rw [if_pos hzC] at hgz
    exact (Option.some.inj hgz).symm
   subst er
   have lk:kg.length <= 5:=by
    have:=row.len' (L:=nms (kt.take i)) fun y hy=>all_some.mp hy
    rw [Ø,ē] at this
    rw [Ø] at lt5
    omega
   have kT:∀ c m,H3 c = some (.tup m)->H4 c = some (.tup m):=fun c m e=>kp c _ e (ê e hg3 (by intro z; cases z)) (ê e ht3 (by intro z; cases z))
   have frx:=fr.tup kT
   have hf4:=kp _ _ hf3 ngf.symm nft
   have mn4:=mn3.mono fun v r g=>g.tup kT
   obtain ⟨wf,ewf,hwf⟩:=mn4.val z ((CRf z).mpr hzC)
   rw [eXX z hzC] at hwf
   refine ⟨sz (by simp),fun p1 hp1'=>?_⟩
   have t3:=Same.upd (o:=.tup [.int 0,.int 1]) hp1'
   have f0:=FrV.newOf (H:=H4) (p:=p1) (t:=0) (b:=1) (r:=0) rfl rfl
   have row3:=row.same fun v r f=>f.same t3
   have hg4:=t3 _ _ hg
   have hfz4:=t3 _ _ hfz
   have fr4:=frx.same t3
   have hf5:=t3 _ _ hf4
   have hwf4:=hwf.imp id fun q=>(⟨q.1,q.2.same t3⟩:X z ≠ 0 /\ FrV (upd H4 p1 (.tup [.int 0,.int 1])) wf (A z / X z))
   have kp4:∀ c ob,H3 c = some ob->c ≠ pg->c ≠ at'->upd H4 p1 (.tup [.int 0,.int 1]) c = some ob:=fun c ob e n1 n2=>t3 _ _ (kp c ob e n1 n2)
   generalize upd H4 p1 (.tup [.int 0,.int 1]) = H5 at *
   refine ⟨_,rfl,_,rfl,pg,_,rfl,DPut.k (k:=.inr z) hg4 (sz (by omega)),?_⟩
   have tu:=Ñ (o:=.dK (putK kg (.inr z) (.ref p1))) hg4 (fun _ z=>nomatch z)
   have row6:=(row3.put (z:=z) f0).same fun v r g=>g.tup tu
   have hg6:=Á (H:=H5) (a:=pg) (o:=.dK (putK kg (.inr z) (.ref p1)))
   have hfz6:upd H5 pg (.dK (putK kg (.inr z) (.ref p1))) at' = some (.frz o (.dK kt)):=by rw [upd_ne ngt.symm]; exact hfz4
   have kp6:∀ c ob,H3 c = some ob->c ≠ pg->c ≠ at'->upd H5 pg (.dK (putK kg (.inr z) (.ref p1))) c = some ob:=fun c ob e n1 n2=>by rw [upd_ne n1]; exact kp4 c ob e n1 n2
   have hf6:upd H5 pg (.dK (putK kg (.inr z) (.ref p1))) pf = some (.dK kf):=by rw [upd_ne ngf.symm]; exact hf5
   have fr6:=fr4.tup tu
   have hwf6:=hwf4.imp id fun q=>(⟨q.1,q.2.tup tu⟩:X z ≠ 0 /\ FrV (upd H5 pg (.dK (putK kg (.inr z) (.ref p1)))) wf (A z / X z))
   have l6:(putK kg (.inr z) (.ref p1)).length <= 6:=č (ð kg (.inr z) (.ref p1)) (by omega)
   generalize upd H5 pg (.dK (putK kg (.inr z) (.ref p1))) = H6 at *
   generalize putK kg (.inr z) (.ref p1) = kg6 at *
   have dgt:∀ {Hx:Hp},Hx at' = some (.frz o (.dK kt))->DGet Hx at' (.str z) (some w0):=fun h=>.inl ⟨kt,.inr z,.inr ⟨o,h⟩,rfl,hval.symm⟩
   have dgf:∀ {Hx:Hp},Hx pf = some (.dK kf)->DGet Hx pf (.str z) (some wf):=fun h=>by
    have q:=DGet.k (k:=.inr z) h
    rw [ewf] at q; exact q
   refine ⟨_,rfl,_,rfl,at',w0,rfl,dgt hfz6,sz (by simp),fun p0 hp0=>?_⟩
   have t0:=Same.upd (o:=.tup [.int 0,.int 1]) hp0
   refine ⟨_,_,(fr6.same t0).rep,θ (SqT.of Á),Β _ _,_,rfl,?_⟩
   rw [eq01]
   have hfz7:=t0 _ _ hfz6
   have hf7:=t0 _ _ hf6
   have hg7:=t0 _ _ hg6
   have row7:=row6.same fun v r g=>g.same t0
   have kp7:∀ c ob,H3 c = some ob->c ≠ pg->c ≠ at'->upd H6 p0 (.tup [.int 0,.int 1]) c = some ob:=fun c ob e n1 n2=>t0 _ _ (kp6 c ob e n1 n2)
   have fr7:=fr6.same t0
   have hwf7:=hwf6.imp id fun q=>(⟨q.1,q.2.same t0⟩:X z ≠ 0 /\ FrV (upd H6 p0 (.tup [.int 0,.int 1])) wf (A z / X z))
   generalize upd H6 p0 (.tup [.int 0,.int 1]) = H7 at *
   refine ite2 (fun h=>?_) (fun h=>?_)
   ·have hx0:X z = 0:=of_decide_eq_true h
    have ew:wf = .non:=by
     rcases hwf7 with q | q
     ·exact q.2
     ·exact absurd hx0 q.1
    subst ew
    refine ⟨_,rfl,_,rfl,pf,_,rfl,dgf hf7,rfl,_,rfl,?_⟩
    refine iteF ?_
    refine ⟨_,kg6,rfl,hfz7,kp7,hg7,?_⟩
    rw [hnms,Γ,AZ z hzC hx0]
    exact row7
   ·have hx0:X z ≠ 0:=fun e=>h (decide_eq_true e)
    have fwf:FrV H7 wf (A z / X z):=by
     rcases hwf7 with q | q
     ·exact absurd q.1 hx0
     ·exact q.2
    have bq:=xO0 (bA z hzC) (bX z hzC) hx0
    have q0:0 <= A z / X z:=by
     rw [Rat.div_def]
     exact Ğ (A0 z hzC) (Rat.le_of_lt (Rat.inv_pos.mpr (Rat.lt_of_le_of_ne (X0 z hzC) hx0.symm)))
    refine ⟨_,rfl,_,rfl,pf,wf,rfl,dgf hf7,wf,_,rfl,fwf,q0,bq.mono (by decide),fun H8 s8=>⟨_,rfl,?_⟩⟩
    refine iteF ?_
    have hg8:=s8 _ _ hg7
    refine ⟨_,rfl,_,rfl,pf,wf,rfl,dgf (s8 _ _ hf7),_,rfl,_,rfl,at',w0,rfl,dgt (s8 _ _ hfz7),_,_,A z / X z,X z,rfl,fwf.same s8,fr7.same s8,bq.mono (by decide),(bX z hzC).mono (by decide),fun w9 H9 s9 f9=>?_⟩
    have f9:FrV H9 w9 (A z / X z * X z):=f9
    rw [yK0 hx0] at f9
    have s89:=s8.trans s9
    have hg9:=s89 _ _ hg7
    refine ⟨_,rfl,_,rfl,pg,_,rfl,DPut.k (k:=.inr z) hg9 (sz (by omega)),?_⟩
    have tu9:=Ñ (o:=.dK (putK kg6 (.inr z) w9)) hg9 (fun _ z=>nomatch z)
    refine ⟨_,putK kg6 (.inr z) w9,rfl,by rw [upd_ne ngt.symm]; exact s89 _ _ hfz7,fun c ob e n1 n2=>by rw [upd_ne n1]; exact s89 _ _ (kp7 c ob e n1 n2),Á,?_⟩
    have e:(fun y=>if y = z then some (A z) else (fun y=>if y = z then some (0:Rat) else all (nms (kt.take i)) A y) y) = all (nms (kt.take (i + 1))) A:=by
     rw [hnms,Γ]
     funext y
     by_cases q:y = z
     ·rw [if_pos q,if_pos q]
     ·rw [if_neg q,if_neg q]
      show (if y = z then _ else _) = _
      rw [if_neg q]
    rw [<- e]
    exact ((row7.same fun v r g=>g.same s89).put (z:=z) f9).same fun v r g=>g.tup tu9
  rintro σ H4 ⟨v5,kg,rfl,hfz,kp,hg,row⟩
  rw [ā,Đ,zJ0 mt] at row
  refine ⟨o,.dK kt,hfz,?_⟩
  have ht5:=Á (H:=H4) (a:=at') (o:=.dK kt)
  have hg5:upd H4 at' (.dK kt) pg = some (.dK kg):=by rw [upd_ne ngt]; exact hg
  have s5:Same H (upd H4 at' (.dK kt)):=fun c ob e=>by
   have e3:=s13 _ _ e
   have n1:c ≠ pg:=Ç e hpg0
   by_cases q:c = at'
   ·subst q; rw [ht] at e; cases e; exact Á
   ·rw [upd_ne q]; exact kp _ _ e3 n1 q
  have row5:=row.same fun v r g=>g.tup (Ñ (o:=.dK kt) hfz (fun _ z=>nomatch z))
  generalize upd H4 at' (.dK kt) = H5 at *
  have rt5:=rt.same fun v r g=>g.same s5
  intro pb hpb
  have tb:=Same.upd (o:=.dK []) hpb
  have hb6:=Á (H:=H5) (a:=pb) (o:=.dK [])
  have s6:=s5.trans tb
  have hg6:=tb _ _ hg5
  have ht6:=tb _ _ ht5
  have row6:=row5.same fun v r g=>g.same tb
  have rt6:=rt5.same fun v r g=>g.same tb
  have nbt:pb ≠ at':=fun e=>by rw [e,ht5] at hpb; cases hpb
  have nbg:pb ≠ pg:=fun e=>by rw [e,hg5] at hpb; cases hpb
  have hpb0:=s5.free hpb
  generalize upd H5 pb (.dK []) = H6 at *
  show Ends.nx _ [some (.ref ah),some (.ref as),some (.ref at'),some (.ref pf),some (.ref pg),v5,some (.ref pb)] _
  have mg':∀ z,z ∈ nms kg ↔ z ∈ ckN ps:=fun z=>(row6.iff z).trans all_some
  have ng:(nms kg).Nodup:=ä row6.nodup row6.keys
  have lg5:(nms kg).length <= 5:=č (Ú ng fun z hz=>(mg' z).mp hz) c5
  let B:Str->Rat:=fun z=>A z + X z
  refine ⟨pg,_,hg6,rfl,?_⟩
  refine ⟨_,rfl,pg,_,rfl,hg6,rfl,fun o2 qs hqs=>?_⟩
  have hqs:qs = kg.map fun kv=>(kV kv.1,kv.2):=hqs
  subst hqs
  refine zI4 (fun i σ H7=>∃ (v5:Option V) (kb:List (Key × V)),σ = [some (.ref ah),some (.ref as),some (.ref at'),some (.ref pf),some (.ref pg),v5,some (.ref pb)] /\ H7 pg = some (.frz o2 (.dK kg)) /\ (∀ c ob,H6 c = some ob->c ≠ pb->c ≠ pg->H7 c = some ob) /\ H7 pb = some (.dK kb) /\ RowAt H7 kb (all (nms (kg.take i)) B)) ?_ ?_ ?_ ?_
  ·refine ⟨_,[],rfl,Á,fun c ob e _ n=>by rw [upd_ne n]; exact e,by rw [upd_ne nbg]; exact hb6,?_⟩
   rw [œ]
   show RowAt _ [] (all [] _)
   rw [δ]; exact RowAt.nil _
  ·rintro i σ H7 ⟨_,_,_,h,_⟩
   exact h
  ·rintro i k' v σ H7 hk ⟨v5,kb,rfl,hfz,kp,hb,row⟩
   obtain ⟨kvi,hki,ek⟩:=Ο hk
   have hval:=Ŵ row6.nodup hki
   obtain ⟨z,r,hz,hgz,fr,hnot,hnms⟩:=row6.at hki
   obtain ⟨rfl,rfl⟩:=Prod.mk.inj ek
   obtain ⟨k0,w0⟩:=kvi
   have hz:k0 = .inr z:=hz
   subst hz
   have hzC:z ∈ ckN ps:=all_some.mp (by rw [hgz]; rfl)
   have er:r = A z:=by
    unfold all at hgz
    rw [if_pos hzC] at hgz
    exact (Option.some.inj hgz).symm
   subst er
   have lk:kb.length <= 5:=by
    have:=row.len' (L:=nms (kg.take i)) fun y hy=>all_some.mp hy
    rw [Ø,ē] at this
    rw [Ø] at lg5
    omega
   have kT:∀ c m,H6 c = some (.tup m)->H7 c = some (.tup m):=fun c m e=>kp c _ e (ê e hb6 (by intro z; cases z)) (ê e hg6 (by intro z; cases z))
   obtain ⟨wx,ewx,fx⟩:=rt6.has z (X z) (by unfold all; rw [if_pos hzC])
   refine ⟨_,rfl,_,rfl,pg,w0,rfl,.inl ⟨kg,.inr z,.inr ⟨o2,hfz⟩,rfl,hval.symm⟩,_,rfl,_,rfl,at',wx,rfl,?_,_,_,A z,X z,rfl,fr.tup kT,fx.tup kT,(bA z hzC).mono (by decide),(bX z hzC).mono (by decide),fun w8 H8 s8 f8=>?_⟩
   ·have q:=DGet.k (k:=.inr z) (kp _ _ ht6 nbt.symm ngt.symm)
    rw [ewx] at q; exact q
   have hb8:=s8 _ _ hb
   refine ⟨_,rfl,_,rfl,pb,_,rfl,DPut.k (k:=.inr z) hb8 (sz (by omega)),?_⟩
   have tu:=Ñ (o:=.dK (putK kb (.inr z) w8)) hb8 (fun _ z=>nomatch z)
   refine ⟨_,putK kb (.inr z) w8,rfl,by rw [upd_ne nbg.symm]; exact s8 _ _ hfz,fun c ob e n1 n2=>by rw [upd_ne n1]; exact s8 _ _ (kp c ob e n1 n2),Á,?_⟩
   rw [hnms,Γ]
   exact ((row.same fun v r g=>g.same s8).put (z:=z) f8).same fun v r g=>g.tup tu
  rintro σ H7 ⟨v5',kb,rfl,hfz,kp,hb,row⟩
  rw [ā,Đ,zJ0 mg'] at row
  refine ⟨o2,.dK kg,hfz,?_⟩
  have hg8:=Á (H:=H7) (a:=pg) (o:=.dK kg)
  have hb8:upd H7 pg (.dK kg) pb = some (.dK kb):=by rw [upd_ne nbg]; exact hb
  have s8:Same H (upd H7 pg (.dK kg)):=fun c ob e=>by
   have e6:=s6 _ _ e
   have n1:c ≠ pb:=Ç e hpb0
   by_cases q:c = pg
   ·subst q; rw [hpg0] at e; cases e
   ·rw [upd_ne q]; exact kp _ _ e6 n1 q
  have row8:=row.same fun v r g=>g.tup (Ñ (o:=.dK kg) hfz (fun _ z=>nomatch z))
  have kT8:∀ c m,H6 c = some (.tup m)->upd H7 pg (.dK kg) c = some (.tup m):=fun c m e=>by
   have n1:c ≠ pg:=ê e hg6 (by intro z; cases z)
   rw [upd_ne n1]; exact kp c _ e (ê e hb6 (by intro z; cases z)) n1
  have rg8:=row6.same fun v r g=>g.tup kT8
  generalize upd H7 pg (.dK kg) = H8 at *
  show Ends.nx _ [some (.ref ah),some (.ref as),some (.ref at'),some (.ref pf),some (.ref pg),v5',some (.ref pb)] _
  let BC:Str->Rat:=fun y=>if y ∈ ckN ps then B y else 0
  refine ⟨_,rfl,_,rfl,_,rfl,ah,pb,xs,ps,kb,all (ckN ps) B,rfl,SqL.of (s8 _ _ hA),Ð hP s8,ok.len,hb8,row8,fun p9 H9 kv9 hp9 s9 h9 r9=>?_⟩
  have e9:(fun z=>(all (ckN ps) B z).getD 0) = BC:=by
   funext z
   rw [zL9]
  rw [e9] at r9
  have s09:=s8.trans s9
  have cB:∀ z ∈ allN ps,Cd (E1 * E3) (W1 * E3 + E1 * W3) (BC z):=fun z _=>by
   show Cd _ _ (if z ∈ ckN ps then A z + X z else 0)
   split
   ·rename_i q
    have a:=(c3 z q).up E1
    have b:=(c1 z q).up E3
    rw [ļ E3,ļ W3] at a
    exact (a.add b).mono (by omega)
   ·exact Cd.zero _ _
  have E130:0 < E1 * E3:=Ľ E10 E30
  have E13W:E1 * E3 <= W1 * E3 + E1 * W3:=č (Ė _ E1W) (Nat.le_add_right _ _)
  have W13:W1 * E3 + E1 * W3 <= 2 ^ 2000:=by
   have h1:=ğ W1le (č E3W W3le)
   have h2:=ğ (č E1W W1le) W3le
   rw [<- ī] at h1 h2
   have e:(2:Nat) ^ 2000 = 2 ^ 1999 + 2 ^ 1999:=by rw [show 2000 = 1999 + 1 from rfl,į,Nat.mul_two]
   rw [e]
   exact Nat.add_le_add (č h1 (ĥ (by decide) (by decide))) (č h2 (ĥ (by decide) (by decide)))
  have bdT:=yG2 ok.nd l8 hO h15 E130 E13W W13 (by decide) cB false
  refine ⟨_,rfl,p9,as,kv9,ys,ss,allN ps,false,BC,rfl,h9,ok.nd,l8,r9,SqL.of (s09 _ _ hX),Ö hT s09,hO,h15,bdT,fun p10 H10 kv10 hp10 s10 h10 r10=>?_⟩
  have s010:=s09.trans s10
  refine ⟨ah,p10,xs,ps,kv10,ledB false ss BC,rfl,SqL.of (s010 _ _ hA),Ð hP s010,ok.len,h10,r10,fun p11 H11 kv11 hp11 s11 h11 r11=>?_⟩
  have s811:=s9.trans (s10.trans s11)
  have e11:∀ z ∈ ckN ps,ledB false ss BC z = A z:=fun z hz=>by
   have:=yG1 ok.nd ok.ck hCL hOs B 0 z hz
   have e1:ledB false ss BC z = mass (ckN ps) (back ss) B (0 + 1) z:=this
   rw [e1,eA z hz]
   show (sumL (ckN ps) fun y=>(A y + X y) * back ss y z) = (sumL (ckN ps) fun y=>A y * back ss y z) + sumL (ckN ps) fun y=>X y * back ss y z
   rw [<- zQ8]
   exact Ý fun y _=>by grind
  rw [ů e11] at r11
  have rg11:=rg8.same fun v r g=>g.same s811
  have hg11:=s811 _ _ hg8
  refine ⟨_,rfl,⟨p11,pg,kv11,kg,rfl,rfl,h11,hg11,r11.len_eq rg11,fun kv hkv=>?_⟩,k _ (s8.trans s811)⟩
  obtain ⟨i,hi,ei⟩:=Ĺ hkv
  obtain ⟨z,r,hz,hgz,fr,_,_⟩:=r11.at (i:=i) (p:=kv) (by rw [Č hi,ei])
  obtain ⟨w,h1,h2⟩:=rg11.has z r hgz
  refine ⟨w,pq r.num r.den,by rw [hz]; exact h1,fr.rep,h2.rep,?_⟩
  simp [pq,PyData.depth,PyData.depthAll]
noncomputable abbrev υ:Stmt:=top 60
theorem sc_law:Ì ["_law_script","_law_house_here","_law_steps_here","_law_many","_law_totals_now","_law_handed"] ["_law_script"] (Å υ):=scF
theorem xL0 {ca:Ca} {f:Addr} {fd:FuncData} (D:Fun K "law" "law" υ f fd) (T:Txt K mg ca) (G__law_drawn:FnAt P w K mg base CX0 6 "_law_drawn" ["_law_script"] (yM7 K)) (G__law_mixed:FnAt P w K mg base CX0 1 "_law_mixed" ["_law_cell"] (zR1)) (G__law_cell_at:FnAt P w K mg base CX0 1 "_law_cell_at" ["_law_script","_law_k"] (yM8 K)) (G__law_closed:FnAt P w K mg base CX0 1 "_law_closed" ["_law_house_here","_law_rows"] (xI9)) (G__law_table:FnAt P w K mg base CX0 5 "_law_table" ["_law_house_here","_law_steps_here"] (xA9 K)) (G_mean_ages:FnAt P w K mg base CX0 8 "mean_ages" ["house","steps"] (yM2 K)) (G_by_age:FnAt P w K mg base CX0 7 "by_age" ["house","steps","many"] (spBy K)) (G_long_run:FnAt P w K mg base CX0 8 "long_run" ["house","steps"] (xB1 K)) (G__law_casks:FnAt P w K mg base CX0 1 "_law_casks" ["_law_house_here","_law_made"] (zH5 K)) (G__law_led:FnAt P w K mg base CX0 4 "_law_led" ["_law_totals","_law_steps_here","_law_brings"] (yM5 K)) (G__law_places:FnAt P w K mg base CX0 1 "_law_places" ["_law_house_here","_law_totals"] (zH4 K)) (G__law_means:FnAt P w K mg base CX0 9 "_law_means" ["_law_house_here","_law_steps_here","_law_totals_now"] (yE5 K)) (G__law_by_age:FnAt P w K mg base CX0 8 "_law_by_age" ["_law_house_here","_law_steps_here","_law_many"] (xJ0 K)):FnOk P w K mg base CX0 10 f fd ["_law_script"] (spLaw K):=by
 refine D.ok sc_law (fun vs H Q E h=>?_) (fun cdv A outer s H vs Q E hr h=>?_)
 ·obtain ⟨a,ns,rfl,hS,hlen,k⟩:=h; rfl
 ·obtain ⟨a,ns,rfl,hS,hlen,k⟩:=h
  have nd:=sc_law.nd
  refine ⟨_,(Ã (yO4 (pfn G__law_drawn hr (À (pv 0) Â)) (xJ8 (K:=K) rfl rfl (Ò (È (i:=1) nd rfl (Or.inl rfl)) (Ò (È (i:=2) nd rfl (Or.inl rfl)) ÿ))))
   (Ã (Ê (i:=3) nd rfl (Or.inl rfl) (Ó ì (pfn G__law_mixed hr (À (pfn G__law_cell_at hr (À (pv 0) (À Ä Â))) Â)) Ä))
   (Ã (ø (Õ (zG8 (K:=K) rfl hr) (pfn G__law_closed hr (À (pv 1) (À (pfn G__law_table hr (À (pv 1) (À (pv 2) Â))) Â))) (ų Â) (Ù _)) (Æ (Ï (zQ1 (Ρ xC2 (pfn G_by_age hr (À (pv 1) (À (pv 2) (À (pv 3) Â)))) zQ0 (Ù _)) (yF5 (Ρ xC2 (pfn G_mean_ages hr (À (pv 1) (À (pv 2) Â))) zQ0 (Ù _)))))) Þ)
   (Ã (Ê (i:=4) nd rfl (Or.inl rfl) (pixT (pfn G_long_run hr (À (pv 1) (À (pv 2) Â))) Ä))
   (Ã (ø (Õ (xK5 (K:=K) rfl hr) (pfn G__law_casks hr (À (pv 1) (À (pfn G__law_led hr (À (pfn G__law_places hr (À (pv 1) (À (pv 4) Â))) (À (pv 2) (À Ξ Â)))) Â))) (pv 4) (Ù _)) (Æ (Ï Ξ)) Þ)
   (Ã (Ê (i:=5) nd rfl (Or.inl rfl) (ų (À (ŭ (zD2 (K:=K) rfl) (by rfl) T.z_list γ (À (pv 1) Â)) (À (ŭ (zD2 (K:=K) rfl) (by rfl) T.z_list γ (À (pv 2) Â)) Â))))
   (Ã (ø (PW.pt (π (Ν (Α (pfn G__law_by_age hr (À (pixL (pv 5) Ä) (À (pixL (pv 5) Ä) (À (pv 3) Â)))))) (ι (Ν (Α (pfn G__law_means hr (À (pixL (pv 5) Ä) (À (pixL (pv 5) Ä) (À (pv 4) Â))))))))) (Æ (Ï Ξ)) Þ)
   (Æ (Ï (Ρ (Τ (K:=K) rfl hr) (pv 5) (ų (À (pv 1) (À (pv 2) Â))) (Ù _))))))))))),?_⟩
  refine ⟨_,rfl,a,ns,rfl,hS,fun p0 H1 ah as xs ps ys ss s1 hp0 hA hP ok hck hc5 hT hY hO h15=>?_⟩
  refine ⟨p0,_,rfl,SqL.of hp0,rfl,_,_,rfl,_,_,rfl,rfl,?_⟩
  have hOs:∀ s ∈ ss,OkS (allN ps) s:=fun s hs=>(hO s hs).1
  have G:=ï ok.nd hOs
  have l8:(allN ps).length <= 8:=by unfold allN; rw [ā]; exact ok.len
  have hCL:∀ x ∈ ckN ps,x ∈ allN ps:=fun x hx=>ż hx
  have hS1:=s1.seq hS
  have hh1:∀ {Hx:Hp},Same H1 Hx->HsV K Hx ah as xs ps ys ss:=fun sx=>⟨sx _ _ hA,Ð hP sx,ok,hc5,sx _ _ hT,Ö hY sx,hO,h15⟩
  refine ⟨_,rfl,a,ns,14,rfl,hS1,by decide,fun c0=>⟨c0,rfl,fun m m0 m1=>⟨_,_,rfl,rfl,(show (9:Int) ≠ 0 by decide),?_⟩⟩⟩
  have q9:=ò (c:=m) (m:=9) (by decide)
  obtain ⟨n0,en⟩:=ķ q9.1
  have n8:n0 <= 8:=by omega
  show Ends.nx _ [some (.ref a),some (.ref ah),some (.ref as),some (.int (m.fmod 9)),none,none] _
  rw [en]
  refine ⟨_,rfl,_,rfl,_,rfl,ah,as,xs,ps,ys,ss,rfl,hA,hP,ok,hT,hY,hO,h15,fun pr H4 rows ad hpr s4 h4 TB0=>?_⟩
  let C:=nms rows
  have CR:∀ z,z ∈ C ↔ z ∈ ckN ps:=fun z=>by
   constructor
   ·intro h
    obtain ⟨kv,h1,h2⟩:=ĕ.mp h
    obtain ⟨y,h3,h4⟩:=TB0.keys kv h1
    rw [h3] at h2
    have h2:y = z:=h2
    rw [<- h2]; exact h4
   ·intro h; exact zG9 (TB0.row z h).1
  have nC:C.Nodup:=ä TB0.nodup fun kv h=>(let ⟨z,e,_⟩:=TB0.keys kv h; ⟨z,e⟩)
  have lC:C.length = (ckN ps).length:=by show (nms rows).length = _; rw [Ø]; exact TB0.len ok.ck
  refine ⟨ah,pr,H1,rows,ad,C,allN ps,back ss,Î ss,rfl,h4,TB0.mem CR,rfl,nC,by omega,ok.nd,l8,(fun x hx=>hCL x ((CR x).mp hx)),G,ok.lay,fun pc H5 zs hpc s5 h5 nz mz sz'=>?_⟩
  have s15:=s4.trans s5
  have mz':∀ x,x ∈ zs ↔ x ∈ ckN ps /\ ¬ Leak (ckN ps) (back ss) x:=fun x=>by
   rw [mz,CR]
   exact ⟨fun h=>⟨h.1,fun l=>h.2 (l.same ok.ck nC fun z=>(CR z).symm)⟩,fun h=>⟨h.1,fun l=>h.2 (l.same nC ok.ck CR)⟩⟩
  refine ⟨sz (by simp),fun l0 hl0=>?_⟩
  have t0:=Same.upd (o:=.lst []) hl0
  have layz:∀ z ∈ zs,Lay z:=fun z hz=>ok.lay z (ż ((mz' z).mp hz).1)
  refine ⟨_,_,zF1 (t0 _ _ h5) layz,zM7 Á,zD3 _,_,rfl,?_⟩
  rw [zE9]
  have s16:=s15.trans t0
  generalize upd H5 l0 (.lst []) = H6 at *
  refine ite2 (fun hz=>?_) (fun hz=>?_)
  ·have hz:(!zs.isEmpty) = true:=hz
   have hx:∃ x ∈ ckN ps,¬ Leak (ckN ps) (back ss) x:=by
    cases e:zs with
    | nil=>rw [e] at hz; cases hz
    | cons z l =>
     have:=(mz' z).mp (by rw [e]; exact ă)
     exact ⟨z,this.1,this.2⟩
   refine ⟨_,rfl,_,rfl,_,rfl,ah,as,xs,ps,ys,ss,n0,rfl,hh1 s16,n8,(fun _ H7 s7=>⟨rfl,_,rfl,?_⟩),(fun hl=>absurd (hl _ hx.choose_spec.1) hx.choose_spec.2)⟩
   refine iteT ?_
   exact ⟨_,rfl,_,rfl,ah,as,xs,ps,ys,ss,rfl,hh1 (s16.trans s7),(fun _ H8 s8=>⟨rfl,k _⟩),(fun hl=>absurd (hl _ hx.choose_spec.1) hx.choose_spec.2)⟩
  have hz:¬ (!zs.isEmpty) = true:=hz
  have hlk:∀ x ∈ ckN ps,Leak (ckN ps) (back ss) x:=fun x hx=>by
   by_cases q:Leak (ckN ps) (back ss) x
   ·exact q
   ·have:=(mz' x).mpr ⟨hx,q⟩
    cases e:zs with
    | nil=>rw [e] at this; cases this
    | cons y l=>rw [e] at hz; exact absurd rfl hz
  show Ends.nx _ [some (.ref a),some (.ref ah),some (.ref as),some (.int (n0:Nat)),none,none] _
  refine ⟨_,rfl,_,rfl,ah,as,xs,ps,ys,ss,rfl,SqL.of (s16 _ _ hA),Ð hP s16,ok,hck,hc5,SqL.of (s16 _ _ hT),Ö hY s16,hO,h15,?_,?_⟩
  ·intro pt H8 l zs2 hpt s8 hl nlp h8 hl8 nz2 mz2 st2 ne2
   exfalso
   cases e:zs2 with
   | nil=>exact ne2 e
   | cons z l =>
    have:=(mz2 z).mp (by rw [e]; exact ă)
    exact this.2 (hlk z this.1)
  intro _ pt H8 pq' pd f r kk kv X hpt s8 h8 hd0 hd8 rX eX bX hq8 fr k1 k2 hle hex hr1 hall
  refine ⟨pt,_,_,_,rfl,rfl,SqT.of h8,rfl,?_⟩
  show Ends.nx _ [some (.ref a),some (.ref ah),some (.ref as),some (.int (n0:Nat)),some (.ref pd),none] _
  have s18:=s16.trans s8
  obtain ⟨E1,W1,E0',EW,W3,hcd⟩:=bX
  let f0:Str->Rat:=fun z=>(all (ckN ps) X z).getD 0
  have f0C:∀ z ∈ ckN ps,f0 z = X z:=fun z hz=>by show (all (ckN ps) X z).getD 0 = _; rw [zL9,if_pos hz]
  have f0N:∀ z,z ∉ ckN ps->f0 z = 0:=fun z hz=>by show (all (ckN ps) X z).getD 0 = _; rw [zL9,if_neg hz]
  have f0cd:∀ n ∈ allN ps,Cd E1 W1 (f0 n):=fun n _=>by
   by_cases q:n ∈ ckN ps
   ·rw [f0C n q]; exact hcd n q
   ·rw [f0N n q]; exact Cd.zero _ _
  refine ⟨_,rfl,_,rfl,_,rfl,ah,pd,xs,ps,kv,all (ckN ps) X,rfl,SqL.of (s18 _ _ hA),Ð hP s18,ok.len,hd8,rX,fun p2 H13 kv2 hp2 s13 h13 r13=>?_⟩
  have s113:=s18.trans s13
  refine ⟨_,rfl,p2,as,kv2,ys,ss,allN ps,true,f0,rfl,h13,ok.nd,l8,r13,SqL.of (s113 _ _ hT),Ö hY s113,hO,h15,yG2 ok.nd l8 hO h15 E0' EW W3 (by decide) f0cd true,fun p3 H14 kv3 hp3 s14 h14 r14=>?_⟩
  have s114:=s113.trans s14
  refine ⟨ah,p3,xs,ps,kv3,ledB true ss f0,rfl,SqL.of (s114 _ _ hA),Ð hP s114,ok.len,h14,r14,fun p4 H15 kv4 hp4 s15' h15' r15=>?_⟩
  have e15:all (ckN ps) (ledB true ss f0) = all (ckN ps) X:=ů (xG6 ok.nd ok.ck hCL hOs eX f0C f0N)
  rw [e15] at r15
  have s815:=s13.trans (s14.trans s15')
  have hd15:=s815 _ _ hd8
  have rX15:=rX.same fun v r g=>g.same s815
  have s115:=s18.trans s815
  refine ⟨_,rfl,⟨p4,pd,kv4,kv,rfl,rfl,h15',hd15,r15.len_eq rX15,fun kvx hkv=>?_⟩,_,rfl,?_⟩
  ·obtain ⟨i,hi,ei⟩:=Ĺ hkv
   obtain ⟨z,r,hz,hgz,fr,_,_⟩:=r15.at (i:=i) (p:=kvx) (by rw [Č hi,ei])
   obtain ⟨w,h1,h2⟩:=rX15.has z r hgz
   refine ⟨w,pq r.num r.den,by rw [hz]; exact h1,fr.rep,h2.rep,?_⟩
   simp [pq,PyData.depth,PyData.depthAll]
  refine iteF ?_
  refine ⟨_,rfl,ah,xs,rfl,.inl (SqL.of (s115 _ _ hA)),fun pa hpa=>?_⟩
  have t4:=Same.upd (o:=.lst xs) hpa
  refine ⟨_,rfl,as,ys,rfl,.inl (SqL.of ((s115.trans t4) _ _ hT)),fun pb hpb=>?_⟩
  have t5:=Same.upd (o:=.lst ys) hpb
  refine ⟨sz (by simp),fun ph hph=>?_⟩
  have t6:=Same.upd (o:=.lst [.ref pa,.ref pb]) hph
  have t46:=t4.trans (t5.trans t6)
  have hpa6:=(t5.trans t6) _ _ (Á (H:=H15) (a:=pa) (o:=.lst xs))
  have hpb6:=t6 _ _ (Á (H:=upd H15 pa (.lst xs)) (a:=pb) (o:=.lst ys))
  have hph6:=Á (H:=upd (upd H15 pa (.lst xs)) pb (.lst ys)) (a:=ph) (o:=.lst [.ref pa,.ref pb])
  generalize upd (upd (upd H15 pa (.lst xs)) pb (.lst ys)) ph (.lst [.ref pa,.ref pb]) = H16 at *
  have s116:=s115.trans t46
  have hh2:∀ {Hx:Hp},Same H16 Hx->HsV K Hx pa pb xs ps ys ss:=fun sx=>⟨sx _ _ hpa6,Ð hP (s116.trans sx),ok,hc5,sx _ _ hpb6,Ö hY (s116.trans sx),hO,h15⟩
  show Ends.nx _ [some (.ref a),some (.ref ah),some (.ref as),some (.int (n0:Nat)),some (.ref pd),some (.ref ph)] _
  refine ⟨_,rfl,ph,_,_,_,rfl,rfl,SqL.of hph6,rfl,_,rfl,ph,_,_,_,rfl,rfl,SqL.of hph6,rfl,_,rfl,pa,pb,xs,ps,ys,ss,n0,rfl,hh2 (Same.refl _),n8,hlk,fun H17 s17=>⟨_,rfl,?_⟩⟩
  refine iteF ?_
  have hph7:=s17 _ _ hph6
  have s1517:=t46.trans s17
  refine ⟨_,rfl,ph,_,_,_,rfl,rfl,SqL.of hph7,rfl,_,rfl,ph,_,_,_,rfl,rfl,SqL.of hph7,rfl,_,rfl,pa,pb,pd,xs,ps,ys,ss,kv,X,rfl,hh2 s17,hlk,s1517 _ _ hd15,rX15.same (fun v r g=>g.same s1517),eX,fun H18 s18'=>⟨_,rfl,?_⟩⟩
  refine iteF ?_
  refine ⟨_,rfl,_,rfl,_,rfl,sz (by simp),fun l4 hl4=>?_⟩
  have t9:=Same.upd (o:=.lst [V.ref ah,V.ref as]) hl4
  have s69:=s17.trans (s18'.trans t9)
  have s19:=s116.trans s69
  have r1:=xB4 (K:=K) ok (s69 _ _ hph6) (s69 _ _ hpa6) (Ð hP s19) (s69 _ _ hpb6) (Ö hY s19) hOs
  have r2:=xB4 (K:=K) (a:=l4) ok Á (s19 _ _ hA) (Ð hP s19) (s19 _ _ hT) (Ö hY s19) hOs
  refine ⟨_,_,r1,r2,yY7 _ _,?_⟩
  rw [PySem.SeqAt.eqv_refl _ r1.lay]
  exact k _
end
end T50
namespace T50
open PySem L2 Tc
theorem all_mk {l:PySem.W.OpenLaw} {w:World} {K:Ā} {h:Heap} {mg:Str->Option Value} {fa:Addr} (X:K.In h) (G:h.Ns mainGlobals mg) (hfa:mg "law" = some (.ref fa))
  {k_NoNumber:Addr}
  {f0:Addr} {oc0 kV0 dc0 pm0 cd0 ct0:Value} {od0 an0:Option Addr} {sl0:Array (Option Value)}
  {f1:Addr} {oc1 kV1 dc1 pm1 cd1 ct1:Value} {od1 an1:Option Addr} {sl1:Array (Option Value)}
  {f2:Addr} {oc2 kV2 dc2 pm2 cd2 ct2:Value} {od2 an2:Option Addr} {sl2:Array (Option Value)}
  {f3:Addr} {oc3 kV3 dc3 pm3 cd3 ct3:Value} {od3 an3:Option Addr} {sl3:Array (Option Value)}
  {f4:Addr} {oc4 kV4 dc4 pm4 cd4 ct4:Value} {od4 an4:Option Addr} {sl4:Array (Option Value)}
  {f5:Addr} {oc5 kV5 dc5 pm5 cd5 ct5:Value} {od5 an5:Option Addr} {sl5:Array (Option Value)}
  {f6:Addr} {oc6 kV6 dc6 pm6 cd6 ct6:Value} {od6 an6:Option Addr} {sl6:Array (Option Value)}
  {f7:Addr} {oc7 kV7 dc7 pm7 cd7 ct7:Value} {od7 an7:Option Addr} {sl7:Array (Option Value)}
  {f8:Addr} {oc8 kV8 dc8 pm8 cd8 ct8:Value} {od8 an8:Option Addr} {sl8:Array (Option Value)}
  {f9:Addr} {oc9 kV9 dc9 pm9 cd9 ct9:Value} {od9 an9:Option Addr} {sl9:Array (Option Value)}
  {f10:Addr} {oc10 kV10 dc10 pm10 cd10 ct10:Value} {od10 an10:Option Addr} {sl10:Array (Option Value)}
  {f11:Addr} {oc11 kV11 dc11 pm11 cd11 ct11:Value} {od11 an11:Option Addr} {sl11:Array (Option Value)}
  {f12:Addr} {oc12 kV12 dc12 pm12 cd12 ct12:Value} {od12 an12:Option Addr} {sl12:Array (Option Value)}
  {f13:Addr} {oc13 kV13 dc13 pm13 cd13 ct13:Value} {od13 an13:Option Addr} {sl13:Array (Option Value)}
  {f14:Addr} {oc14 kV14 dc14 pm14 cd14 ct14:Value} {od14 an14:Option Addr} {sl14:Array (Option Value)}
  {f15:Addr} {oc15 kV15 dc15 pm15 cd15 ct15:Value} {od15 an15:Option Addr} {sl15:Array (Option Value)}
  {f16:Addr} {oc16 kV16 dc16 pm16 cd16 ct16:Value} {od16 an16:Option Addr} {sl16:Array (Option Value)}
  {f17:Addr} {oc17 kV17 dc17 pm17 cd17 ct17:Value} {od17 an17:Option Addr} {sl17:Array (Option Value)}
  {f18:Addr} {oc18 kV18 dc18 pm18 cd18 ct18:Value} {od18 an18:Option Addr} {sl18:Array (Option Value)}
  {f19:Addr} {oc19 kV19 dc19 pm19 cd19 ct19:Value} {od19 an19:Option Addr} {sl19:Array (Option Value)}
  {f20:Addr} {oc20 kV20 dc20 pm20 cd20 ct20:Value} {od20 an20:Option Addr} {sl20:Array (Option Value)}
  {f21:Addr} {oc21 kV21 dc21 pm21 cd21 ct21:Value} {od21 an21:Option Addr} {sl21:Array (Option Value)}
  {f22:Addr} {oc22 kV22 dc22 pm22 cd22 ct22:Value} {od22 an22:Option Addr} {sl22:Array (Option Value)}
  {f23:Addr} {oc23 kV23 dc23 pm23 cd23 ct23:Value} {od23 an23:Option Addr} {sl23:Array (Option Value)}
  {f24:Addr} {oc24 kV24 dc24 pm24 cd24 ct24:Value} {od24 an24:Option Addr} {sl24:Array (Option Value)}
  {f25:Addr} {oc25 kV25 dc25 pm25 cd25 ct25:Value} {od25 an25:Option Addr} {sl25:Array (Option Value)}
  {f26:Addr} {oc26 kV26 dc26 pm26 cd26 ct26:Value} {od26 an26:Option Addr} {sl26:Array (Option Value)}
  {f27:Addr} {oc27 kV27 dc27 pm27 cd27 ct27:Value} {od27 an27:Option Addr} {sl27:Array (Option Value)}
  {f28:Addr} {oc28 kV28 dc28 pm28 cd28 ct28:Value} {od28 an28:Option Addr} {sl28:Array (Option Value)}
  {f29:Addr} {oc29 kV29 dc29 pm29 cd29 ct29:Value} {od29 an29:Option Addr} {sl29:Array (Option Value)}
  {f30:Addr} {oc30 kV30 dc30 pm30 cd30 ct30:Value} {od30 an30:Option Addr} {sl30:Array (Option Value)}
  {f31:Addr} {oc31 kV31 dc31 pm31 cd31 ct31:Value} {od31 an31:Option Addr} {sl31:Array (Option Value)}
  {f32:Addr} {oc32 kV32 dc32 pm32 cd32 ct32:Value} {od32 an32:Option Addr} {sl32:Array (Option Value)}
  {f33:Addr} {oc33 kV33 dc33 pm33 cd33 ct33:Value} {od33 an33:Option Addr} {sl33:Array (Option Value)}
  {f34:Addr} {oc34 kV34 dc34 pm34 cd34 ct34:Value} {od34 an34:Option Addr} {sl34:Array (Option Value)}
  {f35:Addr} {oc35 kV35 dc35 pm35 cd35 ct35:Value} {od35 an35:Option Addr} {sl35:Array (Option Value)}
  {f36:Addr} {oc36 kV36 dc36 pm36 cd36 ct36:Value} {od36 an36:Option Addr} {sl36:Array (Option Value)}
  {f37:Addr} {oc37 kV37 dc37 pm37 cd37 ct37:Value} {od37 an37:Option Addr} {sl37:Array (Option Value)}
  {f38:Addr} {oc38 kV38 dc38 pm38 cd38 ct38:Value} {od38 an38:Option Addr} {sl38:Array (Option Value)}
  {f39:Addr} {oc39 kV39 dc39 pm39 cd39 ct39:Value} {od39 an39:Option Addr} {sl39:Array (Option Value)}
  {f40:Addr} {oc40 kV40 dc40 pm40 cd40 ct40:Value} {od40 an40:Option Addr} {sl40:Array (Option Value)}
  {f41:Addr} {oc41 kV41 dc41 pm41 cd41 ct41:Value} {od41 an41:Option Addr} {sl41:Array (Option Value)}
  {f42:Addr} {oc42 kV42 dc42 pm42 cd42 ct42:Value} {od42 an42:Option Addr} {sl42:Array (Option Value)}
  {f43:Addr} {oc43 kV43 dc43 pm43 cd43 ct43:Value} {od43 an43:Option Addr} {sl43:Array (Option Value)}
  {f44:Addr} {oc44 kV44 dc44 pm44 cd44 ct44:Value} {od44 an44:Option Addr} {sl44:Array (Option Value)}
  {f45:Addr} {oc45 kV45 dc45 pm45 cd45 ct45:Value} {od45 an45:Option Addr} {sl45:Array (Option Value)}
  {f46:Addr} {oc46 kV46 dc46 pm46 cd46 ct46:Value} {od46 an46:Option Addr} {sl46:Array (Option Value)}
  {f47:Addr} {oc47 kV47 dc47 pm47 cd47 ct47:Value} {od47 an47:Option Addr} {sl47:Array (Option Value)}
  {f48:Addr} {oc48 kV48 dc48 pm48 cd48 ct48:Value} {od48 an48:Option Addr} {sl48:Array (Option Value)}
  {f49:Addr} {oc49 kV49 dc49 pm49 cd49 ct49:Value} {od49 an49:Option Addr} {sl49:Array (Option Value)}
  {f50:Addr} {oc50 kV50 dc50 pm50 cd50 ct50:Value} {od50 an50:Option Addr} {sl50:Array (Option Value)}
  {f51:Addr} {oc51 kV51 dc51 pm51 cd51 ct51:Value} {od51 an51:Option Addr} {sl51:Array (Option Value)}
  (a0:Ć K mainGlobals "common_divisor" = some (some (.ref f0))) (l0:K.lookup f0 = some ⟨oc0,od0,.func (Ď "common_divisor" "common_divisor" (Ë zA0) (É zA0) (Å zA0) .none kV0 dc0 pm0 an0 cd0 ct0),sl0⟩) (c0:Ċ K cd0 "common_divisor" = true) (k0:ĉ K (.ref f0) = true)
  (a1:Ć K mainGlobals "plus" = some (some (.ref f1))) (l1:K.lookup f1 = some ⟨oc1,od1,.func (Ď "plus" "plus" (Ë zP6) (É zP6) (Å zP6) .none kV1 dc1 pm1 an1 cd1 ct1),sl1⟩) (c1:Ċ K cd1 "plus" = true) (k1:ĉ K (.ref f1) = true)
  (a2:Ć K mainGlobals "minus" = some (some (.ref f2))) (l2:K.lookup f2 = some ⟨oc2,od2,.func (Ď "minus" "minus" (Ë zJ4) (É zJ4) (Å zJ4) .none kV2 dc2 pm2 an2 cd2 ct2),sl2⟩) (c2:Ċ K cd2 "minus" = true) (k2:ĉ K (.ref f2) = true)
  (a3:Ć K mainGlobals "times" = some (some (.ref f3))) (l3:K.lookup f3 = some ⟨oc3,od3,.func (Ď "times" "times" (Ë zJ2) (É zJ2) (Å zJ2) .none kV3 dc3 pm3 an3 cd3 ct3),sl3⟩) (c3:Ċ K cd3 "times" = true) (k3:ĉ K (.ref f3) = true)
  (a4:Ć K mainGlobals "over" = some (some (.ref f4))) (l4:K.lookup f4 = some ⟨oc4,od4,.func (Ď "over" "over" (Ë zP7) (É zP7) (Å zP7) .none kV4 dc4 pm4 an4 cd4 ct4),sl4⟩) (c4:Ċ K cd4 "over" = true) (k4:ĉ K (.ref f4) = true)
  (a5:Ć K mainGlobals "under" = some (some (.ref f5))) (l5:K.lookup f5 = some ⟨oc5,od5,.func (Ď "under" "under" (Ë zJ1) (É zJ1) (Å zJ1) .none kV5 dc5 pm5 an5 cd5 ct5),sl5⟩) (c5:Ċ K cd5 "under" = true) (k5:ĉ K (.ref f5) = true)
  (a6:Ć K mainGlobals "sum_of" = some (some (.ref f6))) (l6:K.lookup f6 = some ⟨oc6,od6,.func (Ď "sum_of" "sum_of" (Ë zF8) (É zF8) (Å zF8) .none kV6 dc6 pm6 an6 cd6 ct6),sl6⟩) (c6:Ċ K cd6 "sum_of" = true) (k6:ĉ K (.ref f6) = true)
  (a7:Ć K mainGlobals "less_times" = some (some (.ref f7))) (l7:K.lookup f7 = some ⟨oc7,od7,.func (Ď "less_times" "less_times" (Ë zB1) (É zB1) (Å zB1) .none kV7 dc7 pm7 an7 cd7 ct7),sl7⟩) (c7:Ċ K cd7 "less_times" = true) (k7:ĉ K (.ref f7) = true)
  (a8:Ć K mainGlobals "pivoted" = some (some (.ref f8))) (l8:K.lookup f8 = some ⟨oc8,od8,.func (Ď "pivoted" "pivoted" (Ë zE6) (É zE6) (Å zE6) .none kV8 dc8 pm8 an8 cd8 ct8),sl8⟩) (c8:Ċ K cd8 "pivoted" = true) (k8:ĉ K (.ref f8) = true)
  (a9:Ć K mainGlobals "solved" = some (some (.ref f9))) (l9:K.lookup f9 = some ⟨oc9,od9,.func (Ď "solved" "solved" (Ë zF9) (É zF9) (Å zF9) .none kV9 dc9 pm9 an9 cd9 ct9),sl9⟩) (c9:Ċ K cd9 "solved" = true) (k9:ĉ K (.ref f9) = true)
  (a10:Ć K mainGlobals "unmoved" = some (some (.ref f10))) (l10:K.lookup f10 = some ⟨oc10,od10,.func (Ď "unmoved" "unmoved" (Ë zE5) (É zE5) (Å zE5) .none kV10 dc10 pm10 an10 cd10 ct10),sl10⟩) (c10:Ċ K cd10 "unmoved" = true) (k10:ĉ K (.ref f10) = true)
  (a11:Ć K mainGlobals "add_shares" = some (some (.ref f11))) (l11:K.lookup f11 = some ⟨oc11,od11,.func (Ď "add_shares" "add_shares" (Ë zB3) (É zB3) (Å zB3) .none kV11 dc11 pm11 an11 cd11 ct11),sl11⟩) (c11:Ċ K cd11 "add_shares" = true) (k11:ĉ K (.ref f11) = true)
  (a12:Ć K mainGlobals "passed" = some (some (.ref f12))) (l12:K.lookup f12 = some ⟨oc12,od12,.func (Ď "passed" "passed" (Ë zG0) (É zG0) (Å zG0) .none kV12 dc12 pm12 an12 cd12 ct12),sl12⟩) (c12:Ċ K cd12 "passed" = true) (k12:ĉ K (.ref f12) = true)
  (a13:Ć K mainGlobals "table" = some (some (.ref f13))) (l13:K.lookup f13 = some ⟨oc13,od13,.func (Ď "table" "table" (Ë zJ3) (É zJ3) (Å zJ3) .none kV13 dc13 pm13 an13 cd13 ct13),sl13⟩) (c13:Ċ K cd13 "table" = true) (k13:ĉ K (.ref f13) = true)
  (a14:Ć K mainGlobals "brought" = some (some (.ref f14))) (l14:K.lookup f14 = some ⟨oc14,od14,.func (Ď "brought" "brought" (Ë zE7) (É zE7) (Å zE7) .none kV14 dc14 pm14 an14 cd14 ct14),sl14⟩) (c14:Ċ K cd14 "brought" = true) (k14:ĉ K (.ref f14) = true)
  (a15:Ć K mainGlobals "names_of" = some (some (.ref f15))) (l15:K.lookup f15 = some ⟨oc15,od15,.func (Ď "names_of" "names_of" (Ë zD5) (É zD5) (Å zD5) .none kV15 dc15 pm15 an15 cd15 ct15),sl15⟩) (c15:Ċ K cd15 "names_of" = true) (k15:ĉ K (.ref f15) = true)
  (a16:Ć K mainGlobals "casks_of" = some (some (.ref f16))) (l16:K.lookup f16 = some ⟨oc16,od16,.func (Ď "casks_of" "casks_of" (Ë zD7) (É zD7) (Å zD7) .none kV16 dc16 pm16 an16 cd16 ct16),sl16⟩) (c16:Ċ K cd16 "casks_of" = true) (k16:ĉ K (.ref f16) = true)
  (a17:Ć K mainGlobals "only" = some (some (.ref f17))) (l17:K.lookup f17 = some ⟨oc17,od17,.func (Ď "only" "only" (Ë zP8) (É zP8) (Å zP8) .none kV17 dc17 pm17 an17 cd17 ct17),sl17⟩) (c17:Ċ K cd17 "only" = true) (k17:ĉ K (.ref f17) = true)
  (a18:Ć K mainGlobals "casks_table" = some (some (.ref f18))) (l18:K.lookup f18 = some ⟨oc18,od18,.func (Ď "casks_table" "casks_table" (Ë zA6) (É zA6) (Å zA6) .none kV18 dc18 pm18 an18 cd18 ct18),sl18⟩) (c18:Ċ K cd18 "casks_table" = true) (k18:ĉ K (.ref f18) = true)
  (a19:Ć K mainGlobals "brought_totals" = some (some (.ref f19))) (l19:K.lookup f19 = some ⟨oc19,od19,.func (Ď "brought_totals" "brought_totals" (Ë zA1) (É zA1) (Å zA1) .none kV19 dc19 pm19 an19 cd19 ct19),sl19⟩) (c19:Ċ K cd19 "brought_totals" = true) (k19:ĉ K (.ref f19) = true)
  (a20:Ć K mainGlobals "led" = some (some (.ref f20))) (l20:K.lookup f20 = some ⟨oc20,od20,.func (Ď "led" "led" (Ë yI2) (É yI2) (Å yI2) .none kV20 dc20 pm20 an20 cd20 ct20),sl20⟩) (c20:Ċ K cd20 "led" = true) (k20:ĉ K (.ref f20) = true)
  (a21:Ć K mainGlobals "left_alike" = some (some (.ref f21))) (l21:K.lookup f21 = some ⟨oc21,od21,.func (Ď "left_alike" "left_alike" (Ë zB2) (É zB2) (Å zB2) .none kV21 dc21 pm21 an21 cd21 ct21),sl21⟩) (c21:Ċ K cd21 "left_alike" = true) (k21:ĉ K (.ref f21) = true)
  (a22:Ć K mainGlobals "closed_casks" = some (some (.ref f22))) (l22:K.lookup f22 = some ⟨oc22,od22,.func (Ď "closed_casks" "closed_casks" (Ë zA3) (É zA3) (Å zA3) .none kV22 dc22 pm22 an22 cd22 ct22),sl22⟩) (c22:Ċ K cd22 "closed_casks" = true) (k22:ĉ K (.ref f22) = true)
  (a23:Ć K mainGlobals "nearness" = some (some (.ref f23))) (l23:K.lookup f23 = some ⟨oc23,od23,.func (Ď "nearness" "nearness" (Ë zD4) (É zD4) (Å zD4) .none kV23 dc23 pm23 an23 cd23 ct23),sl23⟩) (c23:Ċ K cd23 "nearness" = true) (k23:ĉ K (.ref f23) = true)
  (a24:Ć K mainGlobals "long_run" = some (some (.ref f24))) (l24:K.lookup f24 = some ⟨oc24,od24,.func (Ď "long_run" "long_run" (Ë zD6) (É zD6) (Å zD6) .none kV24 dc24 pm24 an24 cd24 ct24),sl24⟩) (c24:Ċ K cd24 "long_run" = true) (k24:ĉ K (.ref f24) = true)
  (a25:Ć K mainGlobals "by_age" = some (some (.ref f25))) (l25:K.lookup f25 = some ⟨oc25,od25,.func (Ď "by_age" "by_age" (Ë zG1) (É zG1) (Å zG1) .none kV25 dc25 pm25 an25 cd25 ct25),sl25⟩) (c25:Ċ K cd25 "by_age" = true) (k25:ĉ K (.ref f25) = true)
  (a26:Ć K mainGlobals "mean_ages" = some (some (.ref f26))) (l26:K.lookup f26 = some ⟨oc26,od26,.func (Ď "mean_ages" "mean_ages" (Ë zC6) (É zC6) (Å zC6) .none kV26 dc26 pm26 an26 cd26 ct26),sl26⟩) (c26:Ċ K cd26 "mean_ages" = true) (k26:ĉ K (.ref f26) = true)
  (a27:Ć K mainGlobals "_law_cell_at" = some (some (.ref f27))) (l27:K.lookup f27 = some ⟨oc27,od27,.func (Ď "_law_cell_at" "_law_cell_at" (Ë zA5) (É zA5) (Å zA5) .none kV27 dc27 pm27 an27 cd27 ct27),sl27⟩) (c27:Ċ K cd27 "_law_cell_at" = true) (k27:ĉ K (.ref f27) = true)
  (a28:Ć K mainGlobals "_law_whole" = some (some (.ref f28))) (l28:K.lookup f28 = some ⟨oc28,od28,.func (Ď "_law_whole" "_law_whole" (Ë zB4) (É zB4) (Å zB4) .none kV28 dc28 pm28 an28 cd28 ct28),sl28⟩) (c28:Ċ K cd28 "_law_whole" = true) (k28:ĉ K (.ref f28) = true)
  (a29:Ć K mainGlobals "_law_mixed" = some (some (.ref f29))) (l29:K.lookup f29 = some ⟨oc29,od29,.func (Ď "_law_mixed" "_law_mixed" (Ë zC0) (É zC0) (Å zC0) .none kV29 dc29 pm29 an29 cd29 ct29),sl29⟩) (c29:Ċ K cd29 "_law_mixed" = true) (k29:ĉ K (.ref f29) = true)
  (a30:Ć K mainGlobals "_law_divisor" = some (some (.ref f30))) (l30:K.lookup f30 = some ⟨oc30,od30,.func (Ď "_law_divisor" "_law_divisor" (Ë zA4) (É zA4) (Å zA4) .none kV30 dc30 pm30 an30 cd30 ct30),sl30⟩) (c30:Ċ K cd30 "_law_divisor" = true) (k30:ĉ K (.ref f30) = true)
  (a31:Ć K mainGlobals "_law_lowest" = some (some (.ref f31))) (l31:K.lookup f31 = some ⟨oc31,od31,.func (Ď "_law_lowest" "_law_lowest" (Ë zA8) (É zA8) (Å zA8) .none kV31 dc31 pm31 an31 cd31 ct31),sl31⟩) (c31:Ċ K cd31 "_law_lowest" = true) (k31:ĉ K (.ref f31) = true)
  (a32:Ć K mainGlobals "_law_alike" = some (some (.ref f32))) (l32:K.lookup f32 = some ⟨oc32,od32,.func (Ď "_law_alike" "_law_alike" (Ë zC5) (É zC5) (Å zC5) .none kV32 dc32 pm32 an32 cd32 ct32),sl32⟩) (c32:Ċ K cd32 "_law_alike" = true) (k32:ĉ K (.ref f32) = true)
  (a33:Ć K mainGlobals "_law_house" = some (some (.ref f33))) (l33:K.lookup f33 = some ⟨oc33,od33,.func (Ď "_law_house" "_law_house" (Ë zC2) (É zC2) (Å zC2) .none kV33 dc33 pm33 an33 cd33 ct33),sl33⟩) (c33:Ċ K cd33 "_law_house" = true) (k33:ĉ K (.ref f33) = true)
  (a34:Ć K mainGlobals "_law_share" = some (some (.ref f34))) (l34:K.lookup f34 = some ⟨oc34,od34,.func (Ď "_law_share" "_law_share" (Ë zB8) (É zB8) (Å zB8) .none kV34 dc34 pm34 an34 cd34 ct34),sl34⟩) (c34:Ċ K cd34 "_law_share" = true) (k34:ĉ K (.ref f34) = true)
  (a35:Ć K mainGlobals "_law_named" = some (some (.ref f35))) (l35:K.lookup f35 = some ⟨oc35,od35,.func (Ď "_law_named" "_law_named" (Ë zB9) (É zB9) (Å zB9) .none kV35 dc35 pm35 an35 cd35 ct35),sl35⟩) (c35:Ċ K cd35 "_law_named" = true) (k35:ĉ K (.ref f35) = true)
  (a36:Ć K mainGlobals "_law_step" = some (some (.ref f36))) (l36:K.lookup f36 = some ⟨oc36,od36,.func (Ď "_law_step" "_law_step" (Ë zC7) (É zC7) (Å zC7) .none kV36 dc36 pm36 an36 cd36 ct36),sl36⟩) (c36:Ċ K cd36 "_law_step" = true) (k36:ĉ K (.ref f36) = true)
  (a37:Ć K mainGlobals "_law_steps" = some (some (.ref f37))) (l37:K.lookup f37 = some ⟨oc37,od37,.func (Ď "_law_steps" "_law_steps" (Ë zB7) (É zB7) (Å zB7) .none kV37 dc37 pm37 an37 cd37 ct37),sl37⟩) (c37:Ċ K cd37 "_law_steps" = true) (k37:ĉ K (.ref f37) = true)
  (a38:Ć K mainGlobals "_law_drawn" = some (some (.ref f38))) (l38:K.lookup f38 = some ⟨oc38,od38,.func (Ď "_law_drawn" "_law_drawn" (Ë zC3) (É zC3) (Å zC3) .none kV38 dc38 pm38 an38 cd38 ct38),sl38⟩) (c38:Ċ K cd38 "_law_drawn" = true) (k38:ĉ K (.ref f38) = true)
  (a39:Ć K mainGlobals "_law_plus" = some (some (.ref f39))) (l39:K.lookup f39 = some ⟨oc39,od39,.func (Ď "_law_plus" "_law_plus" (Ë zC8) (É zC8) (Å zC8) .none kV39 dc39 pm39 an39 cd39 ct39),sl39⟩) (c39:Ċ K cd39 "_law_plus" = true) (k39:ĉ K (.ref f39) = true)
  (a40:Ć K mainGlobals "_law_times" = some (some (.ref f40))) (l40:K.lookup f40 = some ⟨oc40,od40,.func (Ď "_law_times" "_law_times" (Ë zB5) (É zB5) (Å zB5) .none kV40 dc40 pm40 an40 cd40 ct40),sl40⟩) (c40:Ċ K cd40 "_law_times" = true) (k40:ĉ K (.ref f40) = true)
  (a41:Ć K mainGlobals "_law_led" = some (some (.ref f41))) (l41:K.lookup f41 = some ⟨oc41,od41,.func (Ď "_law_led" "_law_led" (Ë zD8) (É zD8) (Å zD8) .none kV41 dc41 pm41 an41 cd41 ct41),sl41⟩) (c41:Ċ K cd41 "_law_led" = true) (k41:ĉ K (.ref f41) = true)
  (a42:Ć K mainGlobals "_law_places" = some (some (.ref f42))) (l42:K.lookup f42 = some ⟨oc42,od42,.func (Ď "_law_places" "_law_places" (Ë zA7) (É zA7) (Å zA7) .none kV42 dc42 pm42 an42 cd42 ct42),sl42⟩) (c42:Ċ K cd42 "_law_places" = true) (k42:ĉ K (.ref f42) = true)
  (a43:Ć K mainGlobals "_law_casks" = some (some (.ref f43))) (l43:K.lookup f43 = some ⟨oc43,od43,.func (Ď "_law_casks" "_law_casks" (Ë zC4) (É zC4) (Å zC4) .none kV43 dc43 pm43 an43 cd43 ct43),sl43⟩) (c43:Ċ K cd43 "_law_casks" = true) (k43:ĉ K (.ref f43) = true)
  (a44:Ć K mainGlobals "_law_table" = some (some (.ref f44))) (l44:K.lookup f44 = some ⟨oc44,od44,.func (Ď "_law_table" "_law_table" (Ë zB6) (É zB6) (Å zB6) .none kV44 dc44 pm44 an44 cd44 ct44),sl44⟩) (c44:Ċ K cd44 "_law_table" = true) (k44:ĉ K (.ref f44) = true)
  (a45:Ć K mainGlobals "_law_closed" = some (some (.ref f45))) (l45:K.lookup f45 = some ⟨oc45,od45,.func (Ď "_law_closed" "_law_closed" (Ë zA9) (É zA9) (Å zA9) .none kV45 dc45 pm45 an45 cd45 ct45),sl45⟩) (c45:Ċ K cd45 "_law_closed" = true) (k45:ĉ K (.ref f45) = true)
  (a46:Ć K mainGlobals "_law_fractions" = some (some (.ref f46))) (l46:K.lookup f46 = some ⟨oc46,od46,.func (Ď "_law_fractions" "_law_fractions" (Ë zA2) (É zA2) (Å zA2) .none kV46 dc46 pm46 an46 cd46 ct46),sl46⟩) (c46:Ċ K cd46 "_law_fractions" = true) (k46:ĉ K (.ref f46) = true)
  (a47:Ć K mainGlobals "_law_fine" = some (some (.ref f47))) (l47:K.lookup f47 = some ⟨oc47,od47,.func (Ď "_law_fine" "_law_fine" (Ë zC9) (É zC9) (Å zC9) .none kV47 dc47 pm47 an47 cd47 ct47),sl47⟩) (c47:Ċ K cd47 "_law_fine" = true) (k47:ĉ K (.ref f47) = true)
  (a48:Ć K mainGlobals "_law_aged" = some (some (.ref f48))) (l48:K.lookup f48 = some ⟨oc48,od48,.func (Ď "_law_aged" "_law_aged" (Ë zD0) (É zD0) (Å zD0) .none kV48 dc48 pm48 an48 cd48 ct48),sl48⟩) (c48:Ċ K cd48 "_law_aged" = true) (k48:ĉ K (.ref f48) = true)
  (a49:Ć K mainGlobals "_law_by_age" = some (some (.ref f49))) (l49:K.lookup f49 = some ⟨oc49,od49,.func (Ď "_law_by_age" "_law_by_age" (Ë zB0) (É zB0) (Å zB0) .none kV49 dc49 pm49 an49 cd49 ct49),sl49⟩) (c49:Ċ K cd49 "_law_by_age" = true) (k49:ĉ K (.ref f49) = true)
  (a50:Ć K mainGlobals "_law_means" = some (some (.ref f50))) (l50:K.lookup f50 = some ⟨oc50,od50,.func (Ď "_law_means" "_law_means" (Ë zC1) (É zC1) (Å zC1) .none kV50 dc50 pm50 an50 cd50 ct50),sl50⟩) (c50:Ċ K cd50 "_law_means" = true) (k50:ĉ K (.ref f50) = true)
  (a51:Ć K mainGlobals "law" = some (some (.ref f51))) (l51:K.lookup f51 = some ⟨oc51,od51,.func (Ď "law" "law" (Ë υ) (É υ) (Å υ) .none kV51 dc51 pm51 an51 cd51 ct51),sl51⟩) (c51:Ċ K cd51 "law" = true) (k51:ĉ K (.ref f51) = true)
  (z_abs:Ć K mainGlobals "abs" = some none)
  (z_any:Ć K mainGlobals "any" = some none)
  (z_bool:Ć K mainGlobals "bool" = some none)
  (z_dict:Ć K mainGlobals "dict" = some none)
  (z_enumerate:Ć K mainGlobals "enumerate" = some none)
  (z_int:Ć K mainGlobals "int" = some none)
  (z_isinstance:Ć K mainGlobals "isinstance" = some none)
  (z_len:Ć K mainGlobals "len" = some none)
  (z_list:Ć K mainGlobals "list" = some none)
  (z_range:Ć K mainGlobals "range" = some none)
  (z_reversed:Ć K mainGlobals "reversed" = some none)
  (z_sorted:Ć K mainGlobals "sorted" = some none)
  (z_str:Ć K mainGlobals "str" = some none)
  (z_tuple:Ć K mainGlobals "tuple" = some none)
  (z_zip:Ć K mainGlobals "zip" = some none)
  (y_NoNumber:Ć K mainGlobals "NoNumber" = some (some (.ref k_NoNumber)))
  (e_NoNumber:PySem.W.excIn K k_NoNumber [.type "ValueError",.type "Exception",.type "BaseException",.type "object"] "ValueError.__new__" = true)
  (x_NoNumber:ExcK K k_NoNumber)
  (i_NoNumber_NoNumber:PySem.W.kitOne K (.ref k_NoNumber) (.ref k_NoNumber) = some true)
  (m_NoNumber_NoNumber:PySem.W.exmOne K (.ref k_NoNumber) (.ref k_NoNumber) = some true)
 :∃ fd:FuncData,(∀ (s:Shared) (v:Value),BindsTo s fd ⟨[v],[]⟩ [("_law_script",v)]) /\ ∀ base:Heap,K.In base->base.Ns mainGlobals mg->FnOk l.prog w K mg base CX0 10 fa fd ["_law_script"] (spLaw K):=by
 have T:Txt K mg (⟨k_NoNumber⟩:Ca):=⟨ħ X G z_abs,ħ X G z_any,ħ X G z_bool,ħ X G z_dict,ħ X G z_enumerate,ħ X G z_int,ħ X G z_isinstance,ħ X G z_len,ħ X G z_list,ħ X G z_range,ħ X G z_reversed,ħ X G z_sorted,ħ X G z_str,ħ X G z_tuple,ħ X G z_zip,PySem.W.mg_of X G y_NoNumber,e_NoNumber,x_NoNumber,i_NoNumber_NoNumber,m_NoNumber_NoNumber⟩
 have D_common_divisor:DefAt K mg "common_divisor" zA0:=DefAt.mk' X G a0 l0 c0 k0
 have D_plus:DefAt K mg "plus" zP6:=DefAt.mk' X G a1 l1 c1 k1
 have D_minus:DefAt K mg "minus" zJ4:=DefAt.mk' X G a2 l2 c2 k2
 have D_times:DefAt K mg "times" zJ2:=DefAt.mk' X G a3 l3 c3 k3
 have D_over:DefAt K mg "over" zP7:=DefAt.mk' X G a4 l4 c4 k4
 have D_under:DefAt K mg "under" zJ1:=DefAt.mk' X G a5 l5 c5 k5
 have D_sum_of:DefAt K mg "sum_of" zF8:=DefAt.mk' X G a6 l6 c6 k6
 have D_less_times:DefAt K mg "less_times" zB1:=DefAt.mk' X G a7 l7 c7 k7
 have D_pivoted:DefAt K mg "pivoted" zE6:=DefAt.mk' X G a8 l8 c8 k8
 have D_solved:DefAt K mg "solved" zF9:=DefAt.mk' X G a9 l9 c9 k9
 have D_unmoved:DefAt K mg "unmoved" zE5:=DefAt.mk' X G a10 l10 c10 k10
 have D_add_shares:DefAt K mg "add_shares" zB3:=DefAt.mk' X G a11 l11 c11 k11
 have D_passed:DefAt K mg "passed" zG0:=DefAt.mk' X G a12 l12 c12 k12
 have D_table:DefAt K mg "table" zJ3:=DefAt.mk' X G a13 l13 c13 k13
 have D_brought:DefAt K mg "brought" zE7:=DefAt.mk' X G a14 l14 c14 k14
 have D_names_of:DefAt K mg "names_of" zD5:=DefAt.mk' X G a15 l15 c15 k15
 have D_casks_of:DefAt K mg "casks_of" zD7:=DefAt.mk' X G a16 l16 c16 k16
 have D_only:DefAt K mg "only" zP8:=DefAt.mk' X G a17 l17 c17 k17
 have D_casks_table:DefAt K mg "casks_table" zA6:=DefAt.mk' X G a18 l18 c18 k18
 have D_brought_totals:DefAt K mg "brought_totals" zA1:=DefAt.mk' X G a19 l19 c19 k19
 have D_led:DefAt K mg "led" yI2:=DefAt.mk' X G a20 l20 c20 k20
 have D_left_alike:DefAt K mg "left_alike" zB2:=DefAt.mk' X G a21 l21 c21 k21
 have D_closed_casks:DefAt K mg "closed_casks" zA3:=DefAt.mk' X G a22 l22 c22 k22
 have D_nearness:DefAt K mg "nearness" zD4:=DefAt.mk' X G a23 l23 c23 k23
 have D_long_run:DefAt K mg "long_run" zD6:=DefAt.mk' X G a24 l24 c24 k24
 have D_by_age:DefAt K mg "by_age" zG1:=DefAt.mk' X G a25 l25 c25 k25
 have D_mean_ages:DefAt K mg "mean_ages" zC6:=DefAt.mk' X G a26 l26 c26 k26
 have D__law_cell_at:DefAt K mg "_law_cell_at" zA5:=DefAt.mk' X G a27 l27 c27 k27
 have D__law_whole:DefAt K mg "_law_whole" zB4:=DefAt.mk' X G a28 l28 c28 k28
 have D__law_mixed:DefAt K mg "_law_mixed" zC0:=DefAt.mk' X G a29 l29 c29 k29
 have D__law_divisor:DefAt K mg "_law_divisor" zA4:=DefAt.mk' X G a30 l30 c30 k30
 have D__law_lowest:DefAt K mg "_law_lowest" zA8:=DefAt.mk' X G a31 l31 c31 k31
 have D__law_alike:DefAt K mg "_law_alike" zC5:=DefAt.mk' X G a32 l32 c32 k32
 have D__law_house:DefAt K mg "_law_house" zC2:=DefAt.mk' X G a33 l33 c33 k33
 have D__law_share:DefAt K mg "_law_share" zB8:=DefAt.mk' X G a34 l34 c34 k34
 have D__law_named:DefAt K mg "_law_named" zB9:=DefAt.mk' X G a35 l35 c35 k35
 have D__law_step:DefAt K mg "_law_step" zC7:=DefAt.mk' X G a36 l36 c36 k36
 have D__law_steps:DefAt K mg "_law_steps" zB7:=DefAt.mk' X G a37 l37 c37 k37
 have D__law_drawn:DefAt K mg "_law_drawn" zC3:=DefAt.mk' X G a38 l38 c38 k38
 have D__law_plus:DefAt K mg "_law_plus" zC8:=DefAt.mk' X G a39 l39 c39 k39
 have D__law_times:DefAt K mg "_law_times" zB5:=DefAt.mk' X G a40 l40 c40 k40
 have D__law_led:DefAt K mg "_law_led" zD8:=DefAt.mk' X G a41 l41 c41 k41
 have D__law_places:DefAt K mg "_law_places" zA7:=DefAt.mk' X G a42 l42 c42 k42
 have D__law_casks:DefAt K mg "_law_casks" zC4:=DefAt.mk' X G a43 l43 c43 k43
 have D__law_table:DefAt K mg "_law_table" zB6:=DefAt.mk' X G a44 l44 c44 k44
 have D__law_closed:DefAt K mg "_law_closed" zA9:=DefAt.mk' X G a45 l45 c45 k45
 have D__law_fractions:DefAt K mg "_law_fractions" zA2:=DefAt.mk' X G a46 l46 c46 k46
 have D__law_fine:DefAt K mg "_law_fine" zC9:=DefAt.mk' X G a47 l47 c47 k47
 have D__law_aged:DefAt K mg "_law_aged" zD0:=DefAt.mk' X G a48 l48 c48 k48
 have D__law_by_age:DefAt K mg "_law_by_age" zB0:=DefAt.mk' X G a49 l49 c49 k49
 have D__law_means:DefAt K mg "_law_means" zC1:=DefAt.mk' X G a50 l50 c50 k50
 have e:=hfa.symm.trans (PySem.W.mg_of X G a51)
 cases e
 refine ⟨Ď "law" "law" (Ë υ) (É υ) (Å υ) .none kV51 dc51 pm51 an51 cd51 ct51,fun s v=>.of_eq rfl,fun base _ _=>?_⟩
 have G_common_divisor:=zJ7 (P:=l.prog) (w:=w) (base:=base) D_common_divisor T
 have G_plus:=xF8 (P:=l.prog) (w:=w) (base:=base) D_plus T G_common_divisor
 have G_minus:=yX7 (P:=l.prog) (w:=w) (base:=base) D_minus T G_plus
 have G_times:=yX5 (P:=l.prog) (w:=w) (base:=base) D_times T G_common_divisor
 have G_over:=xF9 (P:=l.prog) (w:=w) (base:=base) D_over T G_times
 have G_under:=yX4 (P:=l.prog) (w:=w) (base:=base) D_under T
 have G_sum_of:=yP6 (P:=l.prog) (w:=w) (base:=base) D_sum_of T G_plus
 have G_less_times:=zR9 (P:=l.prog) (w:=w) (base:=base) D_less_times T G_minus G_times
 have G_pivoted:=yJ2 (P:=l.prog) (w:=w) (base:=base) D_pivoted T G_over G_less_times
 have G_solved:=yP7 (P:=l.prog) (w:=w) (base:=base) D_solved T G_pivoted
 have G_unmoved:=yJ1 (P:=l.prog) (w:=w) (base:=base) D_unmoved T
 have G_add_shares:=zS1 (P:=l.prog) (w:=w) (base:=base) D_add_shares T G_plus G_times
 have G_passed:=yP8 (P:=l.prog) (w:=w) (base:=base) D_passed T G_add_shares G_minus
 have G_table:=yX6 (P:=l.prog) (w:=w) (base:=base) D_table T G_unmoved G_passed
 have G_brought:=yJ3 (P:=l.prog) (w:=w) (base:=base) D_brought T G_unmoved G_passed
 have G_names_of:=yB6 (P:=l.prog) (w:=w) (base:=base) D_names_of T
 have G_casks_of:=yB8 (P:=l.prog) (w:=w) (base:=base) D_casks_of T
 have G_only:=xG0 (P:=l.prog) (w:=w) (base:=base) D_only T
 have G_casks_table:=zO8 (P:=l.prog) (w:=w) (base:=base) D_casks_table T G_casks_of G_table G_names_of G_only
 have G_brought_totals:=zJ8 (P:=l.prog) (w:=w) (base:=base) D_brought_totals T G_casks_of G_brought G_names_of G_only G_plus G_times
 have G_led:=xK9 (P:=l.prog) (w:=w) (base:=base) D_led T G_plus G_times
 have G_left_alike:=zS0 (P:=l.prog) (w:=w) (base:=base) D_left_alike T G_minus G_solved
 have G_closed_casks:=zN4 (P:=l.prog) (w:=w) (base:=base) D_closed_casks T G_sum_of
 have G_nearness:=yB5 (P:=l.prog) (w:=w) (base:=base) D_nearness T G_sum_of G_times G_under
 have G_long_run:=yB7 (P:=l.prog) (w:=w) (base:=base) D_long_run T G_casks_table G_closed_casks G_nearness G_left_alike G_brought_totals
 have G_by_age:=yP9 (P:=l.prog) (w:=w) (base:=base) D_by_age T G_casks_table G_closed_casks G_brought_totals G_led
 have G_mean_ages:=zX7 (P:=l.prog) (w:=w) (base:=base) D_mean_ages T G_casks_table G_closed_casks G_left_alike G_brought_totals G_led G_over
 have G__law_cell_at:=zN6 (P:=l.prog) (w:=w) (base:=base) D__law_cell_at T
 have G__law_whole:=zS2 (P:=l.prog) (w:=w) (base:=base) D__law_whole T
 have G__law_mixed:=zS8 (P:=l.prog) (w:=w) (base:=base) D__law_mixed T
 have G__law_divisor:=zN5 (P:=l.prog) (w:=w) (base:=base) D__law_divisor T
 have G__law_lowest:=zP0 (P:=l.prog) (w:=w) (base:=base) D__law_lowest T G__law_divisor
 have G__law_alike:=zT3 (P:=l.prog) (w:=w) (base:=base) D__law_alike T G__law_whole
 have G__law_house:=zT0 (P:=l.prog) (w:=w) (base:=base) D__law_house T
 have G__law_share:=zS6 (P:=l.prog) (w:=w) (base:=base) D__law_share T G__law_lowest
 have G__law_named:=zS7 (P:=l.prog) (w:=w) (base:=base) D__law_named T
 have G__law_step:=zX8 (P:=l.prog) (w:=w) (base:=base) D__law_step T G__law_lowest G__law_share
 have G__law_steps:=zS5 (P:=l.prog) (w:=w) (base:=base) D__law_steps T G__law_named G__law_mixed G__law_step
 have G__law_drawn:=zT1 (P:=l.prog) (w:=w) (base:=base) D__law_drawn T G__law_mixed G__law_cell_at G__law_house G__law_steps
 have G__law_plus:=zX9 (P:=l.prog) (w:=w) (base:=base) D__law_plus T G__law_lowest
 have G__law_times:=zS3 (P:=l.prog) (w:=w) (base:=base) D__law_times T G__law_lowest
 have G__law_led:=yB9 (P:=l.prog) (w:=w) (base:=base) D__law_led T G__law_times G__law_plus
 have G__law_places:=zO9 (P:=l.prog) (w:=w) (base:=base) D__law_places T
 have G__law_casks:=zT2 (P:=l.prog) (w:=w) (base:=base) D__law_casks T
 have G__law_table:=zS4 (P:=l.prog) (w:=w) (base:=base) D__law_table T G__law_casks G__law_places G__law_led
 have G__law_closed:=zP1 (P:=l.prog) (w:=w) (base:=base) D__law_closed T
 have G__law_fractions:=zJ9 (P:=l.prog) (w:=w) (base:=base) D__law_fractions T G__law_alike
 have G__law_fine:=zY0 (P:=l.prog) (w:=w) (base:=base) D__law_fine T G__law_whole G__law_lowest
 have G__law_aged:=zY1 (P:=l.prog) (w:=w) (base:=base) D__law_aged T G__law_casks G__law_led G__law_places
 have G__law_by_age:=zP2 (P:=l.prog) (w:=w) (base:=base) D__law_by_age T G__law_aged G_by_age G__law_fractions
 have G__law_means:=zS9 (P:=l.prog) (w:=w) (base:=base) D__law_means T G_mean_ages G__law_fine G__law_times G__law_plus G__law_casks G__law_led G__law_places
 exact xL0 (xD0 (st:=υ) l51 c51 k51) T G__law_drawn G__law_mixed G__law_cell_at G__law_closed G__law_table G_mean_ages G_by_age G_long_run G__law_casks G__law_led G__law_places G__law_means G__law_by_age
end T50
namespace PySem.W.Fast
def tw2198118677237403228:=0
def tw16153368368355835727:=0
def tw11496929876399603617:=0
def tw8701251260267824818:=0
def tw8234783332839335029:=0
def tw17803848905687678633:=0
def tw1304121084996748431:=0
def tw11706359739019087526:=0
def tw1675602932767731714:=0
def tw15544542903795731321:=0
def tw12352665343807328183:=0
def tw13618150972497809183:=0
def tw9915303672872280426:=0
def tw15320693873438778737:=0
def tw1197163721193164140:=0
def tw9761170351610877945:=0
def tw9373898634654991131:=0
def tw1208951074425474452:=0
def tw12322230742606755706:=0
def tw6821703470609835084:=0
def tw13370811675467689841:=0
def tw4504984813433752384:=0
def tw442973581452491739:=0
def tw4982687106863820082:=0
def tw330083421706494084:=0
def tw3482080864318666666:=0
def tw6845770104386233706:=0
def tw5726500991908140441:=0
def tw1047234828879048274:=0
def tw5177477605065178296:=0
def tw11334752355625948107:=0
def tw12171478008473133164:=0
def tw3035835496473920509:=0
def tw12413014567852995933:=0
def tw954280215492333393:=0
def tw4277869731961677765:=0
def tw15373781011327731624:=0
def tw5899625010868836091:=0
def tw11078977518329999960:=0
def tw5854391592454061310:=0
def tw5274615583900256105:=0
def tw7404327015110775864:=0
def tw6617201645475898509:=0
def tw7297400221314447835:=0
def tw12822644763535868387:=0
def tw5012012312026036722:=0
def tw1541635898353518650:=0
def tw733516358772730065:=0
def tw13248711939083855652:=0
def tw5925398478066291324:=0
def tw4165735423399297072:=0
def tw7556084417811738109:=0
def tw3123238660817639092:=0
def tw10329139405270265974:=0
def tw7928013246010164977:=0
def tw10693258777895702151:=0
def tw4488557271425547404:=0
def tw10437814816563969779:=0
def tw10980153293467383623:=0
def tw8849615508085510372:=0
def tw17082201077572221897:=0
def tw4417868876206704293:=0
def tw395017348364533648:=0
def tw53516928311196191:=0
def tw8412709643779478700:=0
def tw1671770998375777052:=0
def tw7722007486025479250:=0
def tw7237356982340148994:=0
def tw16439981070851395026:=0
def tw13608986759517661021:=0
def tw927289999716880727:=0
def tw7848060441263235643:=0
def tw13067896549509995001:=0
def tw15514981012391970528:=0
def tw10829285943216247285:=0
def tw12783942718149104684:=0
def tw597173656822677643:=0
def tw9172064041802403210:=0
def tw15125616050303827086:=0
def tw14688533225621730870:=0
def tw3039101729881102734:=0
def tw11079677936467807800:=0
def tw3757467323730024840:=0
def tw6456912763253898113:=0
def tw15736029769106005521:=0
def tw15307071946755660015:=0
def tw18146792502522275336:=0
def tw5839487253274124738:=0
def tw4653560749661973906:=0
def tw13921658067495817360:=0
def tw9267885334555256442:=0
def tw13483790720521572631:=0
def tw3115503095751949784:=0
def tw2904736624998978927:=0
def tw9577944156540133394:=0
def tw1501634386888292079:=0
def tw9372617438501816477:=0
def tw15696239319593031723:=0
def tw8219685750470052775:=0
def tw17286169650394341183:=0
def tw7563572124196914263:=0
def tw17246744728626436352:=0
def tw7069660138100794226:=0
def tw16161334833579845869:=0
def tw1333901592733944726:=0
def tw9857302347313941603:=0
def tw4664346978536067552:=0
def tw5367105226788881313:=0
def tw6086075297202896935:=0
def tw9723156237739157853:=0
def tw6402697995514576951:=0
def tw17450954632286077644:=0
def tw13930157103188789533:=0
def tw6389749158703384984:=0
def tw5813365238721638713:=0
def tw8794407810881082633:=0
def tw4379411753498204476:=0
def tw8019151162893170466:=0
def tw2559560250161088762:=0
def tw8461817899642586692:=0
def tw3595727341499735790:=0
def tw3298980013783292249:=0
def tw8089566969158712891:=0
def tw2769407099498126171:=0
def tw11011915540629094230:=0
def tw3028182136878249888:=0
def tw13458055654710838409:=0
def tw7887801825382471304:=0
def tw8950286717469559194:=0
def tw15501060995268437785:=0
def tw16793071252862950889:=0
def tw9402906634635966563:=0
def tw6232651928915177842:=0
def tw7731366544836545215:=0
def tw16194282023947820417:=0
def tw3909044366902042583:=0
def tw17457264004379970977:=0
def tw4412772790439774499:=0
def tw18169537828036847616:=0
def tw5372709531040702638:=0
def tw7876377029011241965:=0
def tw12482915934639538497:=0
def tw648280374176560520:=0
def tw17353866704246308999:=0
def tw13911860562048405661:=0
def tw3423109123387213977:=0
def tw18446407948507486129:=0
def tw12174012858659612117:=0
def tw13515369232563766516:=0
def tw9269588994089973692:=0
def tw16115187828328467827:=0
def tw6332549014934742575:=0
def tw9008677844019624288:=0
def tw15595485669046531699:=0
def tw12343318211117039123:=0
def tw13124461866677493574:=0
def tw6517676810402008887:=0
def tw5191208254935003384:=0
def tw9289567394162203063:=0
def tw18101006864819716295:=0
def tw15435883724704599077:=0
def tw16072019144614567128:=0
def tw11015930699353670659:=0
def tw6270470488487688038:=0
def tw861035832699400054:=0
def tw8023345459476222569:=0
def tw2209896284839819366:=0
def tw2057488030468930967:=0
def tw14194988601542857295:=0
def tw4783618278426174206:=0
def tw2151076316313215628:=0
def tw14510864984931010065:=0
def tw2601373148680128501:=0
def tw14674702343294393332:=0
def tw5514070375500033090:=0
def tw17412830277007944865:=0
def tw11376245367851464125:=0
def tw1309150229678027774:=0
def tw18388912866380722001:=0
def tw12282868367225390431:=0
def tw5726623060601429660:=0
def tw15456615170369001037:=0
def tw14148372867526633370:=0
def tw4233110029778285365:=0
def tw3075157100514799706:=0
def tw6118127368577513410:=0
def tw3478332100848978038:=0
def tw13013177127288424128:=0
def tw7648541203675775134:=0
def tw12382134850684158248:=0
def tw8598351196962942535:=0
def tw14679086322166811799:=0
def tw2871974211546214568:=0
def tw3010592328354144335:=0
def tw9362006257620121355:=0
def tw3358968130168241633:=0
def tw631440912478849924:=0
def tw6437457720694458891:=0
def tw11392042553969687968:=0
def tw2261123969441628977:=0
def tw12905152836503127946:=0
def tw3983080915804059831:=0
def tw6333187918104104882:=0
def tw12484891284152073742:=0
def tw1554248580006435491:=0
def tw11188619530028630547:=0
def tw10972145781217046179:=0
def tw4446852874182105276:=0
def tw5665389061232457969:=0
def tw7269426756089649169:=0
def tw3402880500121290408:=0
def tw15361550007386136128:=0
def tw7770762968699503173:=0
def tw7989402389459148898:=0
def tw6109690192536646596:=0
def tw6270352573630073060:=0
def tw6934658499665595040:=0
def tw18184052297092861445:=0
def tw9700773668619360228:=0
def tw18208012077748506610:=0
def tw17315615758608851735:=0
def tw3089301602927854145:=0
def tw8850744228626843357:=0
def tw9695386930152177102:=0
def tw14908391628584861075:=0
def tw267652539985896094:=0
def tw15512626643610840281:=0
def tw937527853566223772:=0
def tw10462285359330932931:=0
def tw9822339049411068276:=0
def tw16519324521627495959:=0
def tw8124015365123320924:=0
def tw9588602549674172700:=0
def tw8350997038762717168:=0
def tw1364061169252612902:=0
def tw14916595140423925759:=0
def tw1183357455727079658:=0
def tw16739970990702700225:=0
def tw12733882930376878090:=0
def tw7048935716301577692:=0
def tw537878260765004054:=0
def tw13100291815254157588:=0
def tw3645290812019441832:=0
def tw3391154748640378110:=0
def tw5148354267647855650:=0
def tw13493926339854313935:=0
def tw1586546122838770797:=0
def tw10477426228729777007:=0
def tw4190467119546415151:=0
def tw3904727597503830823:=0
def tw17430399948827502892:=0
def tw16833719457306463308:=0
def tw4430225998528933830:=0
def tw9306725620803597977:=0
def tw9896080723902973295:=0
def tw1162577873228701308:=0
def tw12532325123476277785:=0
def tw14534833937283376780:=0
def tw2951836931062033111:=0
def tw7958692542859714672:=0
def tw11281608574832483049:=0
def tw5515622160328036448:=0
def tw16999223038221819095:=0
def tw8907852749033571336:=0
def tw9699227451684693532:=0
def tw15013779762479411513:=0
def tw16015961617431158755:=0
def tw168614717441713970:=0
def tw8245112006230686608:=0
def tw7743427675088237073:=0
def tw1495303421647151363:=0
def tw16398570538034070225:=0
def tw7085254461521211988:=0
def tw651796715752774032:=0
def tw12908943589876631077:=0
def tw1269697421517687762:=0
def tw13144638527024414384:=0
def tw14272202525165318868:=0
def tw4031369073825945073:=0
def tw7945539278202286092:=0
def tw2881857908221398710:=0
def tw9659140745589210766:=0
def tw7978647379448201643:=0
def tw12559225517587879849:=0
def tw6980961726666115654:=0
def tw14525838276493415384:=0
def tw13182367875731922291:=0
def tw2143628753008447383:=0
def tw4356902451201034606:=0
def tw3439830022096706909:=0
def tw15821290964200671619:=0
def tw12628902573357465302:=0
def tw5435337555769900839:=0
def tw2720566031967135457:=0
def tw2727800381814218813:=0
def tw4113799207837752552:=0
def tw922049447556867250:=0
def tw16935449136208179787:=0
def tw14632766991491893135:=0
def tw7616689594367356942:=0
def tw7431091845876834518:=0
def tw1893849807678727379:=0
def tw7197795425676804728:=0
def tw12600043012074466012:=0
def tw8023416625438990160:=0
def tw8770673042305206548:=0
def tw5306829172476102056:=0
def tw6690128171895669081:=0
def tw8421204402369808785:=0
def tw5642116964253962456:=0
def tw3185545639458345197:=0
def tw8721207842347830040:=0
def tw2880206243198263225:=0
def tw547168369052547442:=0
def tw18010201535065141992:=0
def tw9582955269712053008:=0
def tw15180000585385579837:=0
def tw688635919808698967:=0
def tw1822851814675129005:=0
def tw7773316500690148631:=0
def tw5953256336066118467:=0
def tw12390868159738721296:=0
def tw17279032662093569994:=0
def tw1499102819321314007:=0
def tw6856217223919812195:=0
def tw8702682876187386830:=0
def tw15130569785679827344:=0
def tw15753539250968487043:=0
def tw10194496620714635536:=0
def tw17939225992357965429:=0
def tw14372950383624463259:=0
def tw18435211217506805223:=0
def tw16930837848453051976:=0
def tw4153379305769699825:=0
def tw5481179615824798248:=0
def tw5724841465958812293:=0
def tw12268613475610412320:=0
def tw2467857068346325454:=0
def tw15182423066639224663:=0
def tw63258550075239492:=0
def tw12792033311404274992:=0
def tw8877775169986462289:=0
def tw5670641817771168690:=0
end PySem.W.Fast
open PySem PySem.W PyProof.Rows
set_option maxRecDepth 100000 in
set_option maxHeartbeats 0 in
theorem PySem.Challenge.cw_tiercask_k50_whole_ages_holds : PySem.Challenge.rw_tiercask_k50_whole_ages.Holds := by
 w_on; o_law; k_head; (case hw=>w_witness2)
 k_fill
 refine L2.walk_ofK (l:=PySem.Challenge.rw_tiercask_k50_whole_ages) (n:=63) (k:=10) (x:="_law_script") (CX:=L2.CX0) (sp:=Tc.spLaw) rfl (by decide) rfl ⟨rfl,by decide,by decide⟩ (fun w h Y=>PySem.W.kIn_of Y) ?F ?S ?C
 case F =>
  intro w mg fa h KX G hmg
  refine' T50.all_mk KX G hmg ?a0 ?l0 ?c0 ?k0 ?a1 ?l1 ?c1 ?k1 ?a2 ?l2 ?c2 ?k2 ?a3 ?l3 ?c3 ?k3 ?a4 ?l4 ?c4 ?k4 ?a5 ?l5 ?c5 ?k5 ?a6 ?l6 ?c6 ?k6 ?a7 ?l7 ?c7 ?k7 ?a8 ?l8 ?c8 ?k8 ?a9 ?l9 ?c9 ?k9 ?a10 ?l10 ?c10 ?k10 ?a11 ?l11 ?c11 ?k11 ?a12 ?l12 ?c12 ?k12 ?a13 ?l13 ?c13 ?k13 ?a14 ?l14 ?c14 ?k14 ?a15 ?l15 ?c15 ?k15 ?a16 ?l16 ?c16 ?k16 ?a17 ?l17 ?c17 ?k17 ?a18 ?l18 ?c18 ?k18 ?a19 ?l19 ?c19 ?k19 ?a20 ?l20 ?c20 ?k20 ?a21 ?l21 ?c21 ?k21 ?a22 ?l22 ?c22 ?k22 ?a23 ?l23 ?c23 ?k23 ?a24 ?l24 ?c24 ?k24 ?a25 ?l25 ?c25 ?k25 ?a26 ?l26 ?c26 ?k26 ?a27 ?l27 ?c27 ?k27 ?a28 ?l28 ?c28 ?k28 ?a29 ?l29 ?c29 ?k29 ?a30 ?l30 ?c30 ?k30 ?a31 ?l31 ?c31 ?k31 ?a32 ?l32 ?c32 ?k32 ?a33 ?l33 ?c33 ?k33 ?a34 ?l34 ?c34 ?k34 ?a35 ?l35 ?c35 ?k35 ?a36 ?l36 ?c36 ?k36 ?a37 ?l37 ?c37 ?k37 ?a38 ?l38 ?c38 ?k38 ?a39 ?l39 ?c39 ?k39 ?a40 ?l40 ?c40 ?k40 ?a41 ?l41 ?c41 ?k41 ?a42 ?l42 ?c42 ?k42 ?a43 ?l43 ?c43 ?k43 ?a44 ?l44 ?c44 ?k44 ?a45 ?l45 ?c45 ?k45 ?a46 ?l46 ?c46 ?k46 ?a47 ?l47 ?c47 ?k47 ?a48 ?l48 ?c48 ?k48 ?a49 ?l49 ?c49 ?k49 ?a50 ?l50 ?c50 ?k50 ?a51 ?l51 ?c51 ?k51 ?z_abs ?z_any ?z_bool ?z_dict ?z_enumerate ?z_int ?z_isinstance ?z_len ?z_list ?z_range ?z_reversed ?z_sorted ?z_str ?z_tuple ?z_zip ?y_NoNumber ?e_NoNumber ?x_NoNumber ?i_NoNumber_NoNumber ?m_NoNumber_NoNumber
  (case a0=>k_is); (case l0=>k_is); (case c0=>k_is); (case k0=>k_is); (case a1=>k_is); (case l1=>k_is); (case c1=>k_is); (case k1=>k_is)
  (case a2=>k_is); (case l2=>k_is); (case c2=>k_is); (case k2=>k_is); (case a3=>k_is); (case l3=>k_is); (case c3=>k_is); (case k3=>k_is)
  (case a4=>k_is); (case l4=>k_is); (case c4=>k_is); (case k4=>k_is); (case a5=>k_is); (case l5=>k_is); (case c5=>k_is); (case k5=>k_is)
  (case a6=>k_is); (case l6=>k_is); (case c6=>k_is); (case k6=>k_is); (case a7=>k_is); (case l7=>k_is); (case c7=>k_is); (case k7=>k_is)
  (case a8=>k_is); (case l8=>k_is); (case c8=>k_is); (case k8=>k_is); (case a9=>k_is); (case l9=>k_is); (case c9=>k_is); (case k9=>k_is)
  (case a10=>k_is); (case l10=>k_is); (case c10=>k_is); (case k10=>k_is); (case a11=>k_is); (case l11=>k_is); (case c11=>k_is); (case k11=>k_is)
  (case a12=>k_is); (case l12=>k_is); (case c12=>k_is); (case k12=>k_is); (case a13=>k_is); (case l13=>k_is); (case c13=>k_is); (case k13=>k_is)
  (case a14=>k_is); (case l14=>k_is); (case c14=>k_is); (case k14=>k_is); (case a15=>k_is); (case l15=>k_is); (case c15=>k_is); (case k15=>k_is)
  (case a16=>k_is); (case l16=>k_is); (case c16=>k_is); (case k16=>k_is); (case a17=>k_is); (case l17=>k_is); (case c17=>k_is); (case k17=>k_is)
  (case a18=>k_is); (case l18=>k_is); (case c18=>k_is); (case k18=>k_is); (case a19=>k_is); (case l19=>k_is); (case c19=>k_is); (case k19=>k_is)
  (case a20=>k_is); (case l20=>k_is); (case c20=>k_is); (case k20=>k_is); (case a21=>k_is); (case l21=>k_is); (case c21=>k_is); (case k21=>k_is)
  (case a22=>k_is); (case l22=>k_is); (case c22=>k_is); (case k22=>k_is); (case a23=>k_is); (case l23=>k_is); (case c23=>k_is); (case k23=>k_is)
  (case a24=>k_is); (case l24=>k_is); (case c24=>k_is); (case k24=>k_is); (case a25=>k_is); (case l25=>k_is); (case c25=>k_is); (case k25=>k_is)
  (case a26=>k_is); (case l26=>k_is); (case c26=>k_is); (case k26=>k_is); (case a27=>k_is); (case l27=>k_is); (case c27=>k_is); (case k27=>k_is)
  (case a28=>k_is); (case l28=>k_is); (case c28=>k_is); (case k28=>k_is); (case a29=>k_is); (case l29=>k_is); (case c29=>k_is); (case k29=>k_is)
  (case a30=>k_is); (case l30=>k_is); (case c30=>k_is); (case k30=>k_is); (case a31=>k_is); (case l31=>k_is); (case c31=>k_is); (case k31=>k_is)
  (case a32=>k_is); (case l32=>k_is); (case c32=>k_is); (case k32=>k_is); (case a33=>k_is); (case l33=>k_is); (case c33=>k_is); (case k33=>k_is)
  (case a34=>k_is); (case l34=>k_is); (case c34=>k_is); (case k34=>k_is); (case a35=>k_is); (case l35=>k_is); (case c35=>k_is); (case k35=>k_is)
  (case a36=>k_is); (case l36=>k_is); (case c36=>k_is); (case k36=>k_is); (case a37=>k_is); (case l37=>k_is); (case c37=>k_is); (case k37=>k_is)
  (case a38=>k_is); (case l38=>k_is); (case c38=>k_is); (case k38=>k_is); (case a39=>k_is); (case l39=>k_is); (case c39=>k_is); (case k39=>k_is)
  (case a40=>k_is); (case l40=>k_is); (case c40=>k_is); (case k40=>k_is); (case a41=>k_is); (case l41=>k_is); (case c41=>k_is); (case k41=>k_is)
  (case a42=>k_is); (case l42=>k_is); (case c42=>k_is); (case k42=>k_is); (case a43=>k_is); (case l43=>k_is); (case c43=>k_is); (case k43=>k_is)
  (case a44=>k_is); (case l44=>k_is); (case c44=>k_is); (case k44=>k_is); (case a45=>k_is); (case l45=>k_is); (case c45=>k_is); (case k45=>k_is)
  (case a46=>k_is); (case l46=>k_is); (case c46=>k_is); (case k46=>k_is); (case a47=>k_is); (case l47=>k_is); (case c47=>k_is); (case k47=>k_is)
  (case a48=>k_is); (case l48=>k_is); (case c48=>k_is); (case k48=>k_is); (case a49=>k_is); (case l49=>k_is); (case c49=>k_is); (case k49=>k_is)
  (case a50=>k_is); (case l50=>k_is); (case c50=>k_is); (case k50=>k_is); (case a51=>k_is); (case l51=>k_is); (case c51=>k_is); (case k51=>k_is)
  (case z_abs=>k_is); (case z_any=>k_is); (case z_bool=>k_is); (case z_dict=>k_is); (case z_enumerate=>k_is); (case z_int=>k_is); (case z_isinstance=>k_is); (case z_len=>k_is)
  (case z_list=>k_is); (case z_range=>k_is); (case z_reversed=>k_is); (case z_sorted=>k_is); (case z_str=>k_is); (case z_tuple=>k_is); (case z_zip=>k_is); (case y_NoNumber=>k_is)
  (case e_NoNumber=>k_exc)
  (case x_NoNumber=>refine ⟨?_,?_,?_,?_,?_⟩ <;> k_is)
  (case i_NoNumber_NoNumber=>kit_is)
  (case m_NoNumber_NoNumber=>kts_exm)
 case S=>exact fun K H a ns hl hO hS=>⟨a,ns,rfl,hS,hl,fun _=>rfl⟩
 case C=>exact fun H s e s' z=>z

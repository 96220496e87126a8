import PyProof.Rows.All
import Wide.All
import OpenK.AllK
import Wide.FinOn
import Lean
import PyProof.EqAt
import PyProof.EqKinds
import PyProof.TupleCall
import PySem.Challenge.RW_tiercask_k48_whole_bound_of_the_long_run
set_option Elab.async false
set_option linter.all false
set_option maxRecDepth 100000
set_option genSizeOf false
set_option maxHeartbeats 4000000
set_option exponentiation.threshold 100000
namespace L2
open PySem PySem.Spec PyProof.Rows
noncomputable abbrev Key:=Sum Int Str
noncomputable def yW5:Key->Value->Bool
 | .inl k,v=>Value.isInt k v
 | .inr x,v=>Value.isStrOf x v
noncomputable def keyH (w:World):Key->Int
 | .inl k=>hashInt k
 | .inr x=>hashStr w x
theorem zF2:∀ {k:Key} {v:Value},yW5 k v = true->(∃ i t,k = Sum.inl i /\ v = Value.int i t) \/ (∃ x t,k = Sum.inr x /\ v = Value.str x t)
 | .inl i,v,h=>by
  obtain ⟨t,e⟩:=Value.isInt_shape (k:=i) (v:=v) h
  exact .inl ⟨i,t,rfl,e⟩
 | .inr x,v,h=>by
  obtain ⟨t,e⟩:=Value.isStrOf_shape (x:=x) (v:=v) h
  exact .inr ⟨x,t,rfl,e⟩
theorem xC6 (i:Int) (t:Tok):yW5 (.inl i) (.int i t) = true:=by simp [yW5,Value.isInt]
theorem xC5 (x:Str) (t:Tok):yW5 (.inr x) (.str x t) = true:=by simp [yW5,Value.isStrOf]
theorem xV6 (a b:Int):decide ((Sum.inl a:Key) = Sum.inl b) = (a == b):=by
 by_cases e:a = b
 ·subst e; simp
 ·have h:¬ (Sum.inl a:Key) = Sum.inl b:=fun q=>e (Sum.inl.inj q)
  rw [decide_eq_false h]
  exact (beq_eq_false_iff_ne.mpr e).symm
theorem xV3 (a b:Str):decide ((Sum.inr a:Key) = Sum.inr b) = decide (a = b):=by
 by_cases e:a = b
 ·subst e; simp
 ·have h:¬ (Sum.inr a:Key) = Sum.inr b:=fun q=>e (Sum.inr.inj q)
  rw [decide_eq_false h,decide_eq_false e]
theorem xV5 (a:Int) (b:Str):decide ((Sum.inl a:Key) = Sum.inr b) = false:=decide_eq_false (fun q=>nomatch q)
theorem xV4 (a:Str) (b:Int):decide ((Sum.inr a:Key) = Sum.inl b) = false:=decide_eq_false (fun q=>nomatch q)
noncomputable def zD9 (prog:Program) (w:World):PySem.KeyKind prog w Key where
 is:=yW5
 hash:=keyH w
 inj:=fun v a b ha hb=>by
  rcases zF2 ha with ⟨i,t,rfl,rfl⟩ | ⟨x,t,rfl,rfl⟩
  ·rcases zF2 hb with ⟨j,u,rfl,e⟩ | ⟨y,u,rfl,e⟩
   ·injection e with e1 _; rw [e1]
   ·exact nomatch e
  ·rcases zF2 hb with ⟨j,u,rfl,e⟩ | ⟨y,u,rfl,e⟩
   ·exact nomatch e
   ·injection e with e1 _; rw [e1]
 byValue:=fun k v h=>by
  rcases zF2 h with ⟨i,t,rfl,rfl⟩ | ⟨x,t,rfl,rfl⟩ <;> rfl
 pyHash:=fun hv h=>by
  rcases zF2 hv with ⟨i,t,rfl,rfl⟩ | ⟨x,t,rfl,rfl⟩
  ·exact wpAny_pyHash_int h
  ·exact wpAny_pyHash_str h
 eqBool:=fun hu hv h=>by
  rcases zF2 hu with ⟨i,t,rfl,rfl⟩ | ⟨x,t,rfl,rfl⟩
  ·rcases zF2 hv with ⟨j,u,rfl,rfl⟩ | ⟨y,u,rfl,rfl⟩
   ·rw [xV6] at h; exact wpAny_eqBool_int h
   ·rw [xV5] at h; exact SeqAt.EqAt.int_str i t y u _ _ _ _ h
  ·rcases zF2 hv with ⟨j,u,rfl,rfl⟩ | ⟨y,u,rfl,rfl⟩
   ·rw [xV4] at h; exact SeqAt.EqAt.str_int x t j u _ _ _ _ h
   ·rw [xV3] at h; exact wpAny_eqBool_str h
 «strs»:=fun k x t v h=>by
  rcases zF2 h with ⟨i,u,rfl,e⟩ | ⟨y,u,rfl,e⟩
  ·exact nomatch e
  ·injection e with e1 _
   subst e1
   cases v <;> rfl
theorem yN7 (prog:Program) (w:World) (i:Int) (t:Tok):(zD9 prog w).is (.inl i) (.int i t) = true:=xC6 i t
theorem zX7 (prog:Program) (w:World) (x:Str) (t:Tok):(zD9 prog w).is (.inr x) (.str x t) = true:=xC5 x t
end L2
namespace L2
open PySem PySem.Spec PyProof.Rows
inductive V where
 | non | bl (b:Bool) | int (i:Int) | str (x:Str) | byt (b:Array UInt8) | flt (b:UInt64) | ref (a:Addr) | ty (n:String)
 deriving DecidableEq
noncomputable def RelV:V->Value->Prop
 | .non,u=>u = Value.none
 | .bl b,u=>u = Value.bool b
 | .int i,u=>∃ t,u = Value.int i t
 | .str x,u=>∃ t,u = Value.str x t
 | .byt b,u=>∃ t,u = Value.bytes b t
 | .flt b,u=>∃ t,u = Value.float b t
 | .ref a,u=>u = Value.ref a
 | .ty n,u=>u = Value.type n
noncomputable abbrev Vals:List V->List Value->Prop:=Paired RelV
theorem Vals.length {xs:List V} {us:List Value} (r:Vals xs us):xs.length = us.length:=Paired.length r
theorem Vals.get:∀ {xs:List V} {us:List Value} {i:Nat} {x:V},Vals xs us->xs[i]? = some x->∃ u,us[i]? = some u /\ RelV x u
 | _,_,_,_,.nil,e=>by simp at e
 | _,_,0,_,.cons r _,e=>by simp at e; subst e; exact ⟨_,rfl,r⟩
 | _,_,i + 1,x,.cons _ t,e=>by
  obtain ⟨u,h1,h2⟩:=Vals.get (i:=i) (x:=x) t (by simpa using e)
  exact ⟨u,by simpa using h1,h2⟩
theorem Vals.set {x:V} {u:Value} (r:RelV x u):∀ {xs:List V} {us:List Value} (i:Nat),Vals xs us->Vals (xs.set i x) (us.set i u)
 | _,_,_,.nil=>.nil
 | _,_,0,.cons _ t=>.cons r t
 | _,_,i + 1,.cons q t=>.cons q (Vals.set r i t)
theorem Vals.append:∀ {xs ys:List V} {us ws:List Value},Vals xs us->Vals ys ws->Vals (xs ++ ys) (us ++ ws)
 | _,_,_,_,.nil,s=>s
 | _,_,_,_,.cons r t,s=>.cons r (Vals.append t s)
theorem Vals.take:∀ {xs:List V} {us:List Value} (n:Nat),Vals xs us->Vals (xs.take n) (us.take n)
 | _,_,0,_=>.nil
 | _,_,_ + 1,.nil=>.nil
 | _,_,n + 1,.cons r t=>.cons r (Vals.take n t)
theorem Vals.drop:∀ {xs:List V} {us:List Value} (n:Nat),Vals xs us->Vals (xs.drop n) (us.drop n)
 | _,_,0,r=>r
 | _,_,_ + 1,.nil=>.nil
 | _,_,n + 1,.cons _ t=>Vals.drop n t
noncomputable def RelO:Option V->Option Value->Prop
 | some v,some u=>RelV v u
 | none,none=>True
 | _,_=>False
noncomputable def KV {κ:Type}:List (κ × V)->List (κ × Value)->Prop:=Paired fun (p:κ × V) (q:κ × Value)=>p.1 = q.1 /\ RelV p.2 q.2
noncomputable def kV:Key->V
 | .inl i=>.int i
 | .inr x=>.str x
inductive HO where
 | lst (xs:List V)
 | tup (xs:List V)
 | dK (kvs:List (Key × V)) | dT (kvs:List (List Key × V))
 | set (S:Int->Bool) (n:Nat)
 | ins (C dx:Addr) (fs:List (Str × V))
 | own (x:Addr)
 | xd (fs:List (Str × V))
 | met (f x:Addr)
 | rng (lo hi:Int)
 | frz (o:Obj) (u:HO)
 | tbl (ps:Array Value)
 | ext (φ:Heap->Prop)
noncomputable abbrev Hp:=Addr->Option HO
noncomputable def upd (H:Hp) (a:Addr) (o:HO):Hp:=fun b=>if b = a then some o else H b
theorem zA1 {H:Hp} {a:Addr} {o:HO}:upd H a o a = some o:=by unfold upd; rw [if_pos rfl]
theorem upd_ne {H:Hp} {a b:Addr} {o:HO} (h:b ≠ a):upd H a o b = H b:=by unfold upd; rw [if_neg h]
theorem zG3 {H:Hp} {a b:Addr} {o u:HO} (h:H a = some o) (h':H b = some u) (d:o ≠ u):a ≠ b:=by
 intro e; subst e; rw [h] at h'; exact d (Option.some.inj h')
theorem zA8 {H:Hp} {a b:Addr} {o:HO} (h:H a = some o) (h':H b = none):a ≠ b:=by
 intro e; subst e; rw [h] at h'; cases h'
section
variable (P:Program) (w:World)
noncomputable def ObjOk (H:Hp) (h:Heap) (a:Addr):HO->Prop
 | .lst xs=>xs.length <= sizeLine /\ ∃ (its:List Value) (n:Nat),Vals xs its /\ h.get? a = some { cls:=.type "list",data:=.seq its.toArray n }
 | .tup xs=>xs.length <= sizeLine /\ ∃ its:List Value,Vals xs its /\ IsTup h a its.toArray
 | .dK kvs=>kvs.length <= sizeLine /\ (a == sysModules) = false /\ ∃ vs,KV kvs vs /\ h.DictOf (zD9 P w) a vs
 | .dT kvs=>kvs.length <= sizeLine /\ (a == sysModules) = false /\ ∃ xs:List (List Key × Addr × Value),
   Paired (fun (p:List Key × V) (q:List Key × Addr × Value)=>p.1 = q.1 /\ H q.2.1 = some (.tup (p.1.map kV)) /\ RelV p.2 q.2.2) kvs xs /\
   ∃ o es ep,h.get? a = some o /\ o.ExactDict /\ o.data = .dict es ep /\ es.toList = xs.map (entryOfKey (tupleKind (zD9 P w))) /\ (xs.map (·.1)).Nodup
 | .set S n=>h.SetOf (intKind P w) a S n
 | .ins C dx fs=>H dx = some (.own a) /\ fs.length <= 1000 /\ dx ≠ a /\ h.get? a = some (PySem.W.instObj C dx) /\
   ∃ mA,h.Ns1 dx mA /\ (∀ f,RelO (fs.lookup f) (mA f)) /\ PySem.Within mA (fs.map (·.1))
 | .own _=>∃ o,h.get? a = some o
 | .xd fs=>∃ mA,h.Ns1 a mA /\ ∀ f,RelO (fs.lookup f) (mA f)
 | .rng lo hi=>∃ t u v,h.get? a = some { cls:=.type "range",data:=.fields #[.int lo t,.int hi u,.int 1 v] }
 | .frz o u=>h.get? a = some o /\ ObjOk H h a u
 | .tbl ps=>h.get? a = some { cls:=.none,data:=.fields ps }
 | .met f x=>h.get? a = some (PySem.W.methodObj (.ref f) (.ref x))
 | .ext φ=>φ h /\ (∃ o,h.get? a = some o) /\ ∀ h1 h2:Heap,φ h1->(∀ o,h1.get? a = some o->h2.get? a = some o)->φ h2
noncomputable def HOk (H:Hp) (h:Heap):Prop:=∀ a o,H a = some o->ObjOk P w H h a o
end
section
variable {P:Program} {w:World} {H H':Hp} {h h':Heap} {a:Addr} {o:HO}
theorem ObjOk.lt (x:ObjOk P w H h a o):a < h.objs.size:=by
 cases o with
 | lst xs=>obtain ⟨_,_,_,_,e⟩:=x; exact Heap.lt_size e
 | tup xs=>obtain ⟨_,_,_,p⟩:=x; exact p.lt
 | dK kvs=>obtain ⟨_,_,_,_,o,_,_,e,_⟩:=x; exact Heap.lt_size e
 | dT kvs=>obtain ⟨_,_,_,_,o,_,_,e,_⟩:=x; exact Heap.lt_size e
 | set S n=>obtain ⟨o,_,_,_,e,_⟩:=x; exact Heap.lt_size e
 | ins C dx fs=>obtain ⟨_,_,_,e,_⟩:=x; exact Heap.lt_size e
 | own y=>obtain ⟨_,e⟩:=x; exact Heap.lt_size e
 | xd fs=>obtain ⟨_,⟨_,_,_,e,_⟩,_⟩:=x; exact Heap.lt_size e
 | rng lo hi=>obtain ⟨_,_,_,e⟩:=x; exact Heap.lt_size e
 | frz ob u=>obtain ⟨e,_⟩:=x; exact Heap.lt_size e
 | tbl ps=>exact Heap.lt_size (show h.get? a = some _ from x)
 | met f y=>exact Heap.lt_size (show h.get? a = some _ from x)
 | ext φ=>obtain ⟨_,⟨_,e⟩,_⟩:=x; exact Heap.lt_size e
theorem Paired.mapP {α β:Type} {F G:α->β->Prop}:∀ {l₁:List α} {l₂:List β},Paired F l₁ l₂->(∀ a b,F a b->G a b)->Paired G l₁ l₂
 | _,_,.nil,_=>.nil
 | _,_,.cons r t,f=>.cons (f _ _ r) (Paired.mapP t f)
theorem ObjOk.stay (x:ObjOk P w H h a o) (k:∀ b u,(b = a \/ H b = some (.own a))->h.get? b = some u->h'.get? b = some u)
  (ho:∀ b,H b = some (.own a)->H' b = some (.own a)) (ht:∀ b xs,H b = some (.tup xs)->H' b = some (.tup xs)):ObjOk P w H' h' a o:=by
 induction o with
 | lst xs=>obtain ⟨z,its,n,r,e⟩:=x; exact ⟨z,its,n,r,k _ _ (.inl rfl) e⟩
 | tup xs=>obtain ⟨z,its,r,ob,e,c⟩:=x; exact ⟨z,its,r,ob,k _ _ (.inl rfl) e,c⟩
 | dK kvs=>obtain ⟨z,y,vs,r,ob,es,ep,e,c⟩:=x; exact ⟨z,y,vs,r,ob,es,ep,k _ _ (.inl rfl) e,c⟩
 | dT kvs =>
  obtain ⟨z,y,xs,r,ob,es,ep,e,c⟩:=x
  exact ⟨z,y,xs,Paired.mapP r fun p q z=>⟨z.1,ht _ _ z.2.1,z.2.2⟩,ob,es,ep,k _ _ (.inl rfl) e,c⟩
 | set S n=>obtain ⟨ob,es,ep,t,e,c⟩:=x; exact ⟨ob,es,ep,t,k _ _ (.inl rfl) e,c⟩
 | ins C dx fs =>
  obtain ⟨d,z,ne,e,mA,⟨od,es,ep,e2,c⟩,r⟩:=x
  exact ⟨ho _ d,z,ne,k _ _ (.inl rfl) e,mA,⟨od,es,ep,k _ _ (.inr d) e2,c⟩,r⟩
 | own y=>obtain ⟨ob,e⟩:=x; exact ⟨ob,k _ _ (.inl rfl) e⟩
 | xd fs=>obtain ⟨mA,⟨od,es,ep,e,c⟩,r⟩:=x; exact ⟨mA,⟨od,es,ep,k _ _ (.inl rfl) e,c⟩,r⟩
 | rng lo hi=>obtain ⟨t,u,v,e⟩:=x; exact ⟨t,u,v,k _ _ (.inl rfl) e⟩
 | frz ob u ih=>obtain ⟨e,q⟩:=x; exact ⟨k _ _ (.inl rfl) e,ih q⟩
 | tbl ps =>
  have e:h.get? a = some { cls:=.none,data:=.fields ps }:=x
  show h'.get? a = some { cls:=.none,data:=.fields ps }
  exact k a _ (.inl rfl) e
 | met f y =>
  have e:h.get? a = some (PySem.W.methodObj (.ref f) (.ref y)):=x
  show h'.get? a = some (PySem.W.methodObj (.ref f) (.ref y))
  exact k a _ (.inl rfl) e
 | ext φ=>obtain ⟨p,⟨o,e⟩,st⟩:=x; exact ⟨st _ _ p fun o q=>k _ _ (.inl rfl) q,⟨o,k _ _ (.inl rfl) e⟩,st⟩
theorem HOk.lt (x:HOk P w H h) (e:H a = some o):a < h.objs.size:=(x a o e).lt
theorem HOk.fresh (x:HOk P w H h) (e:h.objs.size <= a):H a = none:=by
 cases q:H a with
 | none=>rfl
 | some u=>exact absurd (Nat.lt_of_lt_of_le (x.lt q) e) (Nat.lt_irrefl _)
theorem HOk.kept (x:HOk P w H h) (k:∀ b u,h.get? b = some u->h'.get? b = some u):HOk P w H h':=fun a o e =>
 (x a o e).stay (fun b u _ q=>k b u q) (fun _ q=>q) fun _ _ q=>q
theorem HOk.laid (x:HOk P w H h) (k:∀ b u,h.get? b = some u->h'.get? b = some u) (hp:h.objs.size <= a) (new:ObjOk P w (upd H a o) h' a o):HOk P w (upd H a o) h':=fun b u e=>by
 have hn:=x.fresh hp
 by_cases hb:b = a
 ·subst hb; rw [zA1] at e; cases e; exact new
 ·rw [upd_ne hb] at e
  exact (x b u e).stay (fun c v _ q=>k c v q) (fun c q=>by rw [upd_ne (zA8 q hn)]; exact q) fun c xs q=>by rw [upd_ne (zA8 q hn)]; exact q
end
noncomputable def Rd (H:Hp) (a:Addr) (u:HO):Prop:=H a = some u \/ ∃ o,H a = some (.frz o u)
theorem Rd.ok {P:Program} {w:World} {H:Hp} {h:Heap} {a:Addr} {u:HO} (r:Rd H a u) (x:HOk P w H h):ObjOk P w H h a u:=by
 rcases r with r | ⟨o,r⟩
 ·exact x a u r
 ·obtain ⟨_,q⟩:=x a _ r
  exact q
noncomputable def Mut:Option HO->Prop
 | some (.lst _)=>True
 | some (.dK _)=>True
 | some (.dT _)=>True
 | some (.set _ _)=>True
 | some (.ins _ _ _)=>True
 | some (.ext _)=>True
 | _=>False
section
variable {P:Program} {w:World} {H:Hp} {h h':Heap} {x e:Addr} {o':HO}
theorem HOk.write (ok:HOk P w H h) (mu:Mut (H x)) (he:e = x \/ H e = some (.own x)) (k:∀ b u,b ≠ e->h.get? b = some u->h'.get? b = some u) (heo:∃ u,h'.get? e = some u)
  (new:ObjOk P w (upd H x o') h' x o'):HOk P w (upd H x o') h':=fun b u q=>by
 have nown:∀ c y,H c = some (.own y)->c ≠ x:=fun c y r z=>by subst z; rw [r] at mu; exact mu
 have ntup:∀ c xs,H c = some (.tup xs)->c ≠ x:=fun c xs r z=>by subst z; rw [r] at mu; exact mu
 by_cases hb:b = x
 ·subst hb; rw [zA1] at q; cases q; exact new
 ·rw [upd_ne hb] at q
  by_cases hbe:b = e
  ·have q':H b = some (.own x):=by
    rcases he with z | z
    ·exact absurd (hbe.trans z) hb
    ·rw [hbe]; exact z
   rw [q] at q'; cases q'
   obtain ⟨v,hv⟩:=heo
   exact ⟨v,by rw [hbe]; exact hv⟩
  ·refine (ok b u q).stay (fun c v hc r=>k c v ?_ r) (fun c r=>by rw [upd_ne (nown c b r)]; exact r) fun c xs r=>by rw [upd_ne (ntup c xs r)]; exact r
   rcases hc with rfl | hc
   ·exact hbe
   ·rintro rfl
    rcases he with z | z
    ·exact nown c b hc z
    ·rw [hc] at z; cases z; exact hb rfl
end
structure Un (fs ex:List Addr) (H H':Hp) (h h':Heap):Prop where
 keep:∀ b o,h.get? b = some o->H b = none->b ∉ fs->b ∉ ex->h'.get? b = some o
 slot:∀ b o,h.get? b = some o->H b = none->b ∈ fs->b ∉ ex->∃ sl,h'.get? b = some { o with slots:=sl }
 free:∀ b o,h.get? b = some o->H b = none->b ∉ ex->H' b = none
 there:∀ b o,h.get? b = some o->b ∉ ex->∃ o',h'.get? b = some o'
 tups:∀ b xs,H b = some (.tup xs)->H' b = some (.tup xs)
 frzs:∀ b o u,H b = some (.frz o u)->H' b = some (.frz o u)
 tbls:∀ b ps,H b = some (.tbl ps)->∃ more,H' b = some (.tbl (ps ++ more))
section
variable {fs fs' ex ex':List Addr} {H H1 H2:Hp} {h h1 h2 h':Heap} {a x e:Addr} {o:HO}
theorem Un.any (u:Un fs ex H H1 h h1) {b:Addr} {ob:Obj} (q:h.get? b = some ob) (n:H b = none) (hx:b ∉ ex):∃ sl,h1.get? b = some { ob with slots:=sl }:=by
 by_cases hb:b ∈ fs
 ·exact u.slot b ob q n hb hx
 ·exact ⟨ob.slots,u.keep b ob q n hb hx⟩
theorem Un.kept (k:∀ b u,h.get? b = some u->h'.get? b = some u):Un fs ex H H h h' :=
 ⟨fun b ob q _ _ _=>k b ob q,fun b ob q _ _ _=>⟨ob.slots,k b ob q⟩,fun _ _ _ n _=>n,fun b ob q _=>⟨ob,k b ob q⟩,fun _ _ q=>q,fun _ _ _ q=>q,fun _ ps q=>⟨#[],by rw [q]; simp⟩⟩
theorem Un.refl:Un fs ex H H h h:=Un.kept fun _ _ q=>q
theorem Un.laid (k:∀ b u,h.get? b = some u->h'.get? b = some u) (hp:h.objs.size <= a) (hn:H a = none):Un fs ex H (upd H a o) h h' where
 keep:=fun b u q _ _ _=>k b u q
 slot:=fun b u q _ _ _=>⟨u.slots,k b u q⟩
 free:=fun b u q n _=>by rw [upd_ne (Nat.ne_of_lt (Nat.lt_of_lt_of_le (Heap.lt_size q) hp))]; exact n
 there:=fun b u q _=>⟨u,k b u q⟩
 tups:=fun b xs q=>by rw [upd_ne (zA8 q hn)]; exact q
 frzs:=fun b u xs q=>by rw [upd_ne (zA8 q hn)]; exact q
 tbls:=fun b ps q=>⟨#[],by rw [upd_ne (zA8 q hn),q]; simp⟩
theorem Un.write (mu:Mut (H x)) (he:e = x \/ H e = some (.own x)) (k:∀ b u,b ≠ e->h.get? b = some u->h'.get? b = some u) (heo:∃ u,h'.get? e = some u):Un fs ex H (upd H x o) h h':=by
 have hx:∀ b,H b = none->b ≠ x:=fun b n z=>by subst z; rw [n] at mu; exact mu
 have hb:∀ b,H b = none->b ≠ e:=fun b n z=>by
  subst z
  rcases he with r | r
  ·exact hx b n r
  ·rw [n] at r; cases r
 have hm:∀ b u,H b = some u->¬ Mut (some u)->b ≠ x:=fun b u q nm z=>by subst z; rw [q] at mu; exact nm mu
 refine ⟨fun b u q n _ _=>k b u (hb b n) q,fun b u q n _ _=>⟨u.slots,k b u (hb b n) q⟩,fun b u q n _=>by rw [upd_ne (hx b n)]; exact n,fun b u q _=>?_,
  fun b xs q=>by rw [upd_ne (hm b _ q fun z=>z)]; exact q,fun b u xs q=>by rw [upd_ne (hm b _ q fun z=>z)]; exact q,fun b ps q=>⟨#[],by rw [upd_ne (hm b _ q fun z=>z),q]; simp⟩⟩
 by_cases hbe:b = e
 ·subst hbe; exact heo
 ·exact ⟨u,k b u hbe q⟩
end
noncomputable def trk (h:Heap) (H:Hp):List Addr:=(List.range h.objs.size).filter fun a=>(H a).isSome
noncomputable def hidT (h:Heap) (H:Hp):Heap:=PySem.W.hideAll h (trk h H)
theorem xD3 (h:Heap) (H:Hp):(hidT h H).objs.size = h.objs.size:=PySem.W.hideAll_size _ _
theorem xI8 {h:Heap} {H:Hp} {b:Addr} {o:Obj} (e:h.get? b = some o) (n:H b = none):(hidT h H).get? b = some o :=
 PySem.W.hideAll_get _ e fun hm=>by
  have q:(H b).isSome = true:=(List.mem_filter.mp hm).2
  rw [n] at q; simp at q
theorem xQ2 {h:Heap} {H:Hp} {b:Addr} {o:Obj} (e:(hidT h H).get? b = some o):h.get? b = some o /\ H b = none:=by
 have e':h.get? b = some o:=PySem.W.of_hideAll (trk h H) e
 refine ⟨e',?_⟩
 cases q:H b with
 | none=>rfl
 | some x =>
  have hm:b ∈ trk h H:=List.mem_filter.mpr ⟨List.mem_range.mpr (Heap.lt_size e'),by simp [q]⟩
  have z:(hidT h H).get? b = none:=PySem.W.hideAll_none (trk h H) hm
  rw [z] at e; cases e
noncomputable def yF9 (g h:Heap) (L:Addr):List (Addr × Obj):=(List.range h.objs.size).filterMap fun a=>if a = L \/ (g.get? a).isSome = true then none else (h.get? a).map fun o=>(a,o)
theorem yN8 {g h:Heap} {L a:Addr} {o:Obj} (h1:a ≠ L) (h2:g.get? a = none) (h3:h.get? a = some o):(a,o) ∈ yF9 g h L :=
 List.mem_filterMap.mpr ⟨a,List.mem_range.mpr (Heap.lt_size h3),by simp [h1,h2,h3]⟩
theorem zZ5 {g h:Heap} {L:Addr} {p:Addr × Obj} (hp:p ∈ yF9 g h L):p.1 ≠ L /\ g.get? p.1 = none /\ h.get? p.1 = some p.2:=by
 obtain ⟨b,_,e⟩:=List.mem_filterMap.mp hp
 split at e
 ·cases e
 ·rename_i hn
  cases q:h.get? b with
  | none=>rw [q] at e; simp at e
  | some u =>
   rw [q] at e
   simp only [Option.map_some,Option.some.injEq] at e
   subst e
   refine ⟨fun z=>hn (.inl z),?_,q⟩
   show g.get? b = none
   cases r:g.get? b with
   | none=>rfl
   | some v=>exact (hn (.inr (by simp [r]))).elim
theorem xI2 {g h:Heap} {L:Addr}:News g L h (yF9 g h L):=fun p hp=>let ⟨a,b,c⟩:=zZ5 hp; ⟨c,a,b⟩
end L2
namespace L2
open PySem PySem.Spec PyProof.Rows
structure Mod (K:PySem.W.Frag) (mg:Str->Option Value) (base:Heap):Prop where
 kin:K.In base
 glob:base.Ns mainGlobals mg
 blt:∃ mb,base.Ns builtinsNs mb /\ ∀ x:Str,x ≠ "__name__"->mb x = bootBuiltins x
 nolimit:base.NoLimit
set_option genInjectivity false in
structure Cx where
 prog:Program
 w:World
 K:PySem.W.Frag
 mg:Str->Option Value
 base:Heap
 A:Around
 N:List Str
 s₀:Shared
 H₀:Hp
 env:Env
 outer:List Env
 stack:List Env
 ex:List Addr
 fn:Str->Bool
 calm:Bool
 pn:List (Addr × Obj)
 xe:Value->Shared->Prop
noncomputable def frs (l:List Env):List Addr:=l.filterMap (·.frame)
noncomputable abbrev Cx.fs (X:Cx):List Addr:=frs X.outer
noncomputable def Vis (sc:Scope) (x:Str):Prop:=sc.names.lookup x = some .local \/ sc.names.lookup x = some .cell \/ sc.names.lookup x = some .free
noncomputable def Loc (sc:Scope) (x:Str):Prop:=sc.names.lookup x = some .local \/ sc.names.lookup x = some .cell
noncomputable def Look (env:Env) (h:Heap) (m:Str->Option Value) (x:Str) (u:Value):Prop :=
 (env.kindOf x = some .local /\ m x = some u) \/ ((env.kindOf x = some .cell \/ env.kindOf x = some .free) /\ ∃ c,env.cells.lookup x = some c /\ h.IsCell c (some u))
structure Cx.Ok (X:Cx):Prop where
 mod:Mod X.K X.mg X.base
 kind:X.env.scope.kind = .function
 glob:X.env.globals = mainGlobals
 blt:X.env.builtins = builtinsNs
 above:X.s₀.heap.objs.size <= X.env.locals
 inj:∀ x y c,X.env.cells.lookup x = some c->X.env.cells.lookup y = some c->x = y
 has:∀ x,(X.env.kindOf x = some .cell \/ X.env.kindOf x = some .free)->∃ c,X.env.cells.lookup x = some c
 cab:∀ x c,X.fn x = true->X.env.cells.lookup x = some c->X.s₀.heap.objs.size <= c
 hd:X.calm = true->X.A.handled = none
 frames:X.A.frames = some X.stack
 stk:X.stack = X.outer \/ (X.stack = X.env :: X.outer /\ X.env.frame = some X.env.locals)
 exf:∀ b ∈ X.ex,b ≠ X.env.locals /\ ∀ x c,X.env.cells.lookup x = some c->c ≠ b
 bs:∀ b o,X.base.get? b = some o->X.s₀.heap.get? b = some o /\ X.H₀ b = none
 bsz:X.base.objs.size <= X.s₀.heap.objs.size
 noex:∀ b o,X.base.get? b = some o->b ∉ X.ex
 exfs:∀ b ∈ X.ex,b ∉ X.fs
 funs:X.s₀.heap.FunFrames X.base X.outer
 frf:∀ b ∈ X.fs,X.H₀ b = none
structure Inv (X:Cx) (pins:List (Addr × Obj)) (σ:List (Option V)) (H:Hp) (s:Shared):Prop where
 ok:X.Ok
 os:s.os = X.s₀.os
 bare:AllBare s.gens
 base:Un X.fs X.ex X.H₀ H X.s₀.heap s.heap
 loc:∃ m,s.heap.Ns X.env.locals m /\ ∀ (i:Nat) (x:Str) (v:V),X.N[i]? = some x->σ[i]? = some (some v)->Vis X.env.scope x->∃ u,RelV v u /\ Look X.env s.heap m x u
 cell:∀ x c,X.env.cells.lookup x = some c->∃ v,s.heap.IsCell c v
 free:H X.env.locals = none
 freeC:∀ x c,X.env.cells.lookup x = some c->H c = none
 pin:∀ p ∈ X.pn ++ pins,s.heap.get? p.1 = some p.2 /\ H p.1 = none /\ p.1 ≠ X.env.locals /\ p.1 ∉ X.fs /\ ∀ v,p.2.data ≠ .cell v
 hok:HOk X.prog X.w H s.heap
 len:σ.length = X.N.length
section
variable {X:Cx} {pins:List (Addr × Obj)} {σ:List (Option V)} {H H':Hp} {s:Shared} {h':Heap}
theorem Cx.Ok.nofr (ok:X.Ok) {b:Addr} {o:Obj} (e:X.base.get? b = some o):b ∉ X.fs:=fun hb=>by
 have:=(ok.funs.mem hb).1
 rw [e] at this; cases this
theorem Inv.bs (I:Inv X pins σ H s):∀ b o,X.base.get? b = some o->s.heap.get? b = some o /\ H b = none:=fun b o e =>
 ⟨I.base.keep b o (I.ok.bs b o e).1 (I.ok.bs b o e).2 (I.ok.nofr e) (I.ok.noex b o e),I.base.free b o (I.ok.bs b o e).1 (I.ok.bs b o e).2 (I.ok.noex b o e)⟩
theorem Inv.bk (I:Inv X pins σ H s):∀ b o,X.base.get? b = some o->s.heap.get? b = some o:=fun b o e=>(I.bs b o e).1
theorem Inv.mod (I:Inv X pins σ H s):Mod X.K X.mg X.base:=I.ok.mod
theorem Inv.kIn (I:Inv X pins σ H s):X.K.In s.heap:=I.ok.mod.kin.keeps I.bk
theorem Inv.lt (I:Inv X pins σ H s):X.env.locals < s.heap.objs.size:=let ⟨_,hn,_⟩:=I.loc; hn.lt
theorem Inv.sz (I:Inv X pins σ H s):X.s₀.heap.objs.size <= s.heap.objs.size:=Nat.le_trans I.ok.above (Nat.le_of_lt I.lt)
theorem Inv.nofs (I:Inv X pins σ H s) {a:Addr} (h:s.heap.objs.size <= a):a ∉ X.fs:=fun hb=>by
 obtain ⟨_,o,ho,_⟩:=I.ok.funs.mem hb
 exact absurd (Nat.lt_of_lt_of_le (Heap.lt_size ho) (Nat.le_trans I.sz h)) (Nat.lt_irrefl _)
theorem Inv.cne (I:Inv X pins σ H s):∀ x c,X.env.cells.lookup x = some c->c ≠ X.env.locals:=fun x c e z=>by
 obtain ⟨v,o,ho,hd⟩:=I.cell x c e
 obtain ⟨m,⟨o',es,ep,ho',hd',_⟩,_⟩:=I.loc
 rw [z,ho'] at ho; cases ho; rw [hd'] at hd; cases hd
theorem Inv.funs (I:Inv X pins σ H s):s.heap.FunFrames X.base X.outer:=by
 have all:∀ (l:List Env),(∀ b ∈ frs l,b ∈ X.fs)->X.s₀.heap.FunFrames X.base l->s.heap.FunFrames X.base l:=by
  intro l
  induction l with
  | nil=>intro _ _; trivial
  | cons env r ih =>
   intro hs hl
   obtain ⟨hk,⟨L,o,hf,hn,ho,hd⟩,hr⟩:=hl
   have hL:L ∈ X.fs:=hs L (by unfold frs; rw [List.filterMap_cons,hf]; exact List.mem_cons_self)
   obtain ⟨sl,e⟩:=I.base.slot L o ho (I.ok.frf L hL) hL fun z=>I.ok.exfs L z hL
   exact ⟨hk,⟨L,_,hf,hn,e,hd⟩,ih (fun b hb=>hs b (by unfold frs; rw [List.filterMap_cons,hf]; exact List.mem_cons_of_mem _ hb)) hr⟩
 exact all X.outer (fun _ hb=>hb) I.ok.funs
theorem Inv.stack (I:Inv X pins σ H s):s.heap.FunFrames X.base X.stack:=by
 rcases I.ok.stk with e | ⟨e,hf⟩
 ·rw [e]; exact I.funs
 ·rw [e]
  obtain ⟨m,hn,_⟩:=I.loc
  refine .cons (by rw [I.ok.kind]; decide) hf hn ?_ I.funs
  exact Heap.get?_none_of_le (Nat.le_trans I.ok.bsz I.ok.above)
theorem Inv.stkSub (I:Inv X pins σ H s):∀ b ∈ frs X.stack,b ∈ X.env.locals :: X.fs:=fun b hb=>by
 rcases I.ok.stk with e | ⟨e,hf⟩
 ·rw [e] at hb; exact List.mem_cons_of_mem _ hb
 ·rw [e] at hb
  unfold frs at hb
  rw [List.filterMap_cons,hf] at hb
  exact hb
theorem Inv.stkFree (I:Inv X pins σ H s):∀ b ∈ frs X.stack,H b = none:=fun b hb=>by
 rcases List.mem_cons.mp (I.stkSub b hb) with e | hb
 ·rw [e]; exact I.free
 ·obtain ⟨_,o,ho,_⟩:=I.ok.funs.mem hb
  exact I.base.free b o ho (I.ok.frf b hb) fun z=>I.ok.exfs b z hb
theorem Inv.step {g':Array GenState} {t':Nat} {d':Drawn} {ch:List Addr} (I:Inv X pins σ H s)
  (hch:∀ b ∈ ch,(b ∈ X.ex \/ X.s₀.heap.objs.size <= b) /\ b ≠ X.env.locals /\ (∀ x c,X.env.cells.lookup x = some c->c ≠ b) /\ ∀ p ∈ X.pn ++ pins,p.1 ≠ b)
  (keep:∀ b o,b ≠ X.env.locals->b ∉ X.fs->b ∉ ch->s.heap.get? b = some o->H b = none->h'.get? b = some o)
  (slot:∀ b o,b ≠ X.env.locals->b ∈ X.fs->b ∉ ch->s.heap.get? b = some o->H b = none->∃ sl,h'.get? b = some { o with slots:=sl }) (free:∀ b o,b ∉ ch->s.heap.get? b = some o->H b = none->H' b = none)
  (there:∀ b o,b ∉ ch->s.heap.get? b = some o->∃ o',h'.get? b = some o')
  (tups:∀ b xs,H b = some (.tup xs)->H' b = some (.tup xs)) (frzs:∀ b o u,H b = some (.frz o u)->H' b = some (.frz o u)) (tbls:∀ b ps,H b = some (.tbl ps)->∃ more,H' b = some (.tbl (ps ++ more)))
  (ns:∀ m,s.heap.Ns X.env.locals m->h'.Ns X.env.locals m) (hok:HOk X.prog X.w H' h') (hg:AllBare g') :
  Inv X pins σ H' { s with heap:=h',gens:=g',drawn:=d',toks:=t' }:=by
 have neL:∀ b o,X.s₀.heap.get? b = some o->b ≠ X.env.locals:=fun b o e=>Nat.ne_of_lt (Nat.lt_of_lt_of_le (Heap.lt_size e) I.ok.above)
 have neC:∀ b o,X.s₀.heap.get? b = some o->b ∉ X.ex->b ∉ ch:=fun b o e hx hb=>by
  rcases (hch b hb).1 with z | z
  ·exact hx z
  ·exact absurd (Nat.lt_of_lt_of_le (Heap.lt_size e) z) (Nat.lt_irrefl _)
 have cellK:∀ x c,X.env.cells.lookup x = some c->∀ v,s.heap.IsCell c v->h'.IsCell c v:=fun x c e v ⟨o,ho,hd⟩=>by
  have nch:c ∉ ch:=fun z=>(hch c z).2.2.1 x c e rfl
  by_cases hc:c ∈ X.fs
  ·obtain ⟨sl,q⟩:=slot c o (I.cne x c e) hc nch ho (I.freeC x c e)
   exact ⟨_,q,hd⟩
  ·exact ⟨o,keep c o (I.cne x c e) hc nch ho (I.freeC x c e),hd⟩
 refine ⟨I.ok,I.os,hg,⟨fun b o e n hb hx=>?_,fun b o e n hb hx=>?_,fun b o e n hx=>?_,fun b o e hx=>?_,fun b xs e=>tups b xs (I.base.tups b xs e),fun b o xs e=>frzs b o xs (I.base.frzs b o xs e),fun b ps e=>?_⟩,?_,fun x c e=>?_,?_,fun x c e=>?_,fun p hp=>?_,hok,I.len⟩
 ·exact keep b o (neL b o e) hb (neC b o e hx) (I.base.keep b o e n hb hx) (I.base.free b o e n hx)
 ·obtain ⟨sl,e1⟩:=I.base.slot b o e n hb hx
  obtain ⟨sl',e2⟩:=slot b _ (neL b o e) hb (neC b o e hx) e1 (I.base.free b o e n hx)
  exact ⟨sl',e2⟩
 ·obtain ⟨o',e1⟩:=I.base.there b o e hx
  exact free b o' (neC b o e hx) e1 (I.base.free b o e n hx)
 ·obtain ⟨o',e1⟩:=I.base.there b o e hx
  exact there b o' (neC b o e hx) e1
 ·obtain ⟨m1,e1⟩:=I.base.tbls b ps e
  obtain ⟨m2,e2⟩:=tbls b _ e1
  exact ⟨m1 ++ m2,by rw [e2,Array.append_assoc]⟩
 ·obtain ⟨m,hn,hl⟩:=I.loc
  refine ⟨m,ns m hn,fun i x v e1 e2 e3=>?_⟩
  obtain ⟨u,r,l⟩:=hl i x v e1 e2 e3
  refine ⟨u,r,?_⟩
  rcases l with l | ⟨k,c,e,z⟩
  ·exact .inl l
  ·exact .inr ⟨k,c,e,cellK x c e _ z⟩
 ·obtain ⟨v,z⟩:=I.cell x c e
  exact ⟨v,cellK x c e v z⟩
 ·obtain ⟨m,⟨o,_,_,ho,_⟩,_⟩:=I.loc
  exact free _ o (fun z=>(hch _ z).2.1 rfl) ho I.free
 ·obtain ⟨v,o,ho,hd⟩:=I.cell x c e
  exact free c o (fun z=>(hch c z).2.2.1 x c e rfl) ho (I.freeC x c e)
 ·obtain ⟨e,n,ne,nf,d⟩:=I.pin p hp
  have nch:p.1 ∉ ch:=fun z=>(hch p.1 z).2.2.2 p hp rfl
  exact ⟨keep p.1 p.2 ne nf nch e n,free p.1 p.2 nch e n,ne,nf,d⟩
theorem Inv.un {t':Nat} (I:Inv X pins σ H s) (u:Un X.fs [] H H' s.heap h') (hok:HOk X.prog X.w H' h'):Inv X pins σ H' { s with heap:=h',toks:=t' }:=by
 obtain ⟨m,⟨o,es,ep,ho,r⟩,_⟩:=id I.loc
 obtain ⟨sl,hL⟩:=u.any ho I.free (by simp)
 exact I.step (g':=s.gens) (d':=s.drawn) (ch:=[]) (fun _ z=>nomatch z) (fun b o _ hb _ e n=>u.keep b o e n hb (by simp)) (fun b o _ hb _ e n=>u.slot b o e n hb (by simp)) (fun b o _ e n=>u.free b o e n (by simp)) (fun b o _ e=>u.there b o e (by simp)) u.tups u.frzs u.tbls (fun m' hm=>by
  obtain ⟨o',es',ep',ho',r'⟩:=hm
  rw [ho] at ho'; cases ho'
  exact ⟨_,es',ep',hL,r'⟩) hok I.bare
theorem Inv.call {g':Array GenState} {t':Nat} {d':Drawn} {ch:List Addr} (I:Inv X pins σ H s) (u:Un (frs X.stack) ch H H' s.heap h') (hok:HOk X.prog X.w H' h') (hg:AllBare g')
  (hch:∀ b ∈ ch,(b ∈ X.ex \/ X.s₀.heap.objs.size <= b) /\ b ≠ X.env.locals /\ (∀ x c,X.env.cells.lookup x = some c->c ≠ b) /\ ∀ p ∈ X.pn ++ pins,p.1 ≠ b) :
  Inv X pins σ H' { s with heap:=h',gens:=g',drawn:=d',toks:=t' }:=by
 obtain ⟨m,⟨o,es,ep,ho,r⟩,_⟩:=id I.loc
 obtain ⟨sl,hL⟩:=u.any ho I.free fun z=>(hch _ z).2.1 rfl
 exact I.step (ch:=ch) hch (fun b o hL hb hc e n=>u.keep b o e n (fun z=>(List.mem_cons.mp (I.stkSub b z)).elim hL hb) hc) (fun b o _ _ hc e n=>u.any e n hc) (fun b o hc e n=>u.free b o e n hc) (fun b o hc e=>u.there b o e hc) u.tups u.frzs u.tbls (fun m' hm=>by
  obtain ⟨o',es',ep',ho',r'⟩:=hm
  rw [ho] at ho'; cases ho'
  exact ⟨_,es',ep',hL,r'⟩) hok hg
theorem Inv.turned {t':Nat} {it:Addr} (I:Inv X pins σ H s) (k:∀ b o,b ≠ it->s.heap.get? b = some o->h'.get? b = some o) (hn:H it = none) (hL:it ≠ X.env.locals)
  (h1:it ∈ X.ex \/ X.s₀.heap.objs.size <= it) (h2:∀ x c,X.env.cells.lookup x = some c->c ≠ it) (h3:∀ p ∈ X.pn ++ pins,p.1 ≠ it):Inv X pins σ H { s with heap:=h',toks:=t' }:=by
 have nit:∀ b u,H b = some u->b ≠ it:=fun b u e z=>by rw [z,hn] at e; cases e
 refine I.step (g':=s.gens) (d':=s.drawn) (ch:=[it]) (fun b hb=>?_) (fun b o _ _ hc e _=>k b o (fun z=>hc (by simp [z])) e) (fun b o _ _ hc e _=>⟨o.slots,k b o (fun z=>hc (by simp [z])) e⟩) (fun _ _ _ _ n=>n)
  (fun b o hc e=>⟨o,k b o (fun z=>hc (by simp [z])) e⟩) (fun _ _ e=>e) (fun _ _ _ e=>e) (fun b ps e=>⟨#[],by rw [e]; simp⟩) (fun m hm=>?_) (fun b u e=>?_) I.bare
 ·have e:b = it:=by simpa using hb
  subst e
  exact ⟨h1,hL,h2,h3⟩
 ·obtain ⟨o,es,ep,ho,r⟩:=hm
  exact ⟨o,es,ep,k _ o (Ne.symm hL) ho,r⟩
 ·refine (I.hok b u e).stay (fun c v hc q=>k c v ?_ q) (fun _ q=>q) fun _ _ q=>q
  rcases hc with z | z
  ·rw [z]; exact nit b u e
  ·exact nit c _ z
theorem Inv.tok (I:Inv X pins σ H s) (t:Nat):Inv X pins σ H { s with toks:=t }:=I.un (h':=s.heap) (t':=t) Un.refl I.hok
theorem Inv.kept {t':Nat} (I:Inv X pins σ H s) (k:∀ b u,s.heap.get? b = some u->h'.get? b = some u):Inv X pins σ H { s with heap:=h',toks:=t' }:=I.un (Un.kept k) (I.hok.kept k)
theorem Inv.laid {a:Addr} {o:HO} {t':Nat} (I:Inv X pins σ H s) (k:∀ b u,s.heap.get? b = some u->h'.get? b = some u) (hp:s.heap.objs.size <= a) (new:ObjOk X.prog X.w (upd H a o) h' a o) :
  Inv X pins σ (upd H a o) { s with heap:=h',toks:=t' }:=I.un (Un.laid k hp (I.hok.fresh hp)) (I.hok.laid k hp new)
theorem Inv.write {x e:Addr} {o:HO} {t':Nat} (I:Inv X pins σ H s) (mu:Mut (H x)) (he:e = x \/ H e = some (.own x)) (k:∀ b u,b ≠ e->s.heap.get? b = some u->h'.get? b = some u) (heo:∃ u,h'.get? e = some u)
  (new:ObjOk X.prog X.w (upd H x o) h' x o):Inv X pins σ (upd H x o) { s with heap:=h',toks:=t' }:=I.un (Un.write mu he k heo) (I.hok.write mu he k heo new)
theorem Inv.pins_of {pins':List (Addr × Obj)} (I:Inv X pins σ H s) (h:∀ p ∈ pins',s.heap.get? p.1 = some p.2 /\ H p.1 = none /\ p.1 ≠ X.env.locals /\ p.1 ∉ X.fs /\ ∀ v,p.2.data ≠ .cell v):Inv X pins' σ H s :=
 ⟨I.ok,I.os,I.bare,I.base,I.loc,I.cell,I.free,I.freeC,fun p hp=>(List.mem_append.mp hp).elim (fun z=>I.pin p (List.mem_append_left _ z)) (h p),I.hok,I.len⟩
theorem yS1 {N:List Str} (hN:N.Nodup) {i j:Nat} {x:Str} (a:N[i]? = some x) (b:N[j]? = some x):i = j:=by
 obtain ⟨h1,e1⟩:=List.getElem?_eq_some_iff.mp a
 obtain ⟨h2,e2⟩:=List.getElem?_eq_some_iff.mp b
 exact (List.getElem_inj hN).mp (e1.trans e2.symm)
theorem yG7 {M:Model} {A:Around} {E:Value->Shared->Prop} {i:Nat} {x:Str} {v:V} {u:Value} {Q:Unit->Shared->Prop} (I:Inv X pins σ H s) (hN:X.N.Nodup) (hi:X.N[i]? = some x) (hx:Loc X.env.scope x) (r:RelV v u)
  (h:∀ s',Inv X pins (σ.set i (some v)) H s'->(∃ a,Heap.SameBut a s.heap s'.heap /\ (a = X.env.locals \/ X.env.cells.lookup x = some a))->Q () s') (hf:X.fn x = true \/ X.env.scope.names.lookup x = some .local:=by first | exact .inl rfl | exact .inr rfl | assumption):wpAny M A (storeName X.env x u) Q E s:=by
 obtain ⟨m,hn,hl⟩:=id I.loc
 have hcls:(X.env.scope.kind == .class || (X.env.scope.kind == .module && X.env.locals != X.env.globals)) = false:=by rw [I.ok.kind]; rfl
 have hiσ:i < σ.length:=by rw [I.len]; exact (List.getElem?_eq_some_iff.mp hi).1
 have cne:=I.cne
 have tracked:∀ {a:Addr} {h':Heap},(∃ o,s.heap.get? a = some o /\ H a = none)->Heap.SameBut a s.heap h'->HOk X.prog X.w H h':=fun {a h'} ha hs b ob e=>by
  obtain ⟨_,_,hfree⟩:=ha
  refine (I.hok b ob e).stay (fun c w' hc q=>(hs.2 c ?_).trans q) (fun _ q=>q) fun _ _ q=>q
  rintro rfl
  rcases hc with rfl | hc
  ·rw [hfree] at e; cases e
  ·rw [hfree] at hc; cases hc
 rcases hx with hk | hk
 ·refine wpAny_storeName_local hk hn (fun h' hn' hs=>?_) hcls
  obtain ⟨oL,_,_,hoL,_⟩:=id hn
  refine h _ ⟨I.ok,I.os,I.bare,⟨fun b o e n hb hx=>?_,fun b o e n hb hx=>?_,I.base.free,fun b o e hx=>?_,I.base.tups,I.base.frzs,I.base.tbls⟩,⟨_,hn',fun j y v' e1 e2 e3=>?_⟩,fun y c e=>?_,I.free,I.freeC,fun p hp=>?_,tracked ⟨oL,hoL,I.free⟩ hs,by simpa using I.len⟩ ⟨_,hs,.inl rfl⟩
  ·exact (hs.2 b (Nat.ne_of_lt (Nat.lt_of_lt_of_le (Heap.lt_size e) I.ok.above))).trans (I.base.keep b o e n hb hx)
  ·obtain ⟨sl,e1⟩:=I.base.slot b o e n hb hx
   exact ⟨sl,(hs.2 b (Nat.ne_of_lt (Nat.lt_of_lt_of_le (Heap.lt_size e) I.ok.above))).trans e1⟩
  ·obtain ⟨o',e1⟩:=I.base.there b o e hx
   exact ⟨o',(hs.2 b (Nat.ne_of_lt (Nat.lt_of_lt_of_le (Heap.lt_size e) I.ok.above))).trans e1⟩
  ·by_cases hj:j = i
   ·subst hj
    rw [hi] at e1; cases e1
    rw [List.getElem?_set_self hiσ] at e2
    cases e2
    exact ⟨u,r,.inl ⟨hk,by simp⟩⟩
   ·rw [List.getElem?_set_ne (Ne.symm hj)] at e2
    obtain ⟨u',r',q⟩:=hl j y v' e1 e2 e3
    refine ⟨u',r',?_⟩
    rcases q with ⟨k,e⟩ | ⟨k,c,e,z⟩
    ·refine .inl ⟨k,?_⟩
     have:y ≠ x:=fun e=>hj (yS1 hN e1 (e ▸ hi))
     simp [this,e]
    ·exact .inr ⟨k,c,e,z.sameBut hs (cne y c e)⟩
  ·obtain ⟨w',z⟩:=I.cell y c e
   exact ⟨w',z.sameBut hs (cne y c e)⟩
  ·obtain ⟨e,n,ne,nf,d⟩:=I.pin p hp
   exact ⟨(hs.2 p.1 ne).trans e,n,ne,nf,d⟩
 ·have hfn:X.fn x = true:=by
   rcases hf with z | z
   ·exact z
   ·rw [z] at hk; cases hk
  obtain ⟨c,hc⟩:=I.ok.has x (.inl hk)
  obtain ⟨w',z⟩:=I.cell x c hc
  refine wpAny_storeName_cell I.ok.kind hk hc z (fun h' hc' hs=>?_)
  obtain ⟨oc,hoc,hocd⟩:=id z
  refine h { s with heap:=h' } ⟨I.ok,I.os,I.bare,⟨fun b o e n hb hx=>?_,fun b o e n hb hx=>?_,I.base.free,fun b o e hx=>?_,I.base.tups,I.base.frzs,I.base.tbls⟩,⟨m,hn.sameBut hs (Ne.symm (cne x c hc)),fun j y v' e1 e2 e3=>?_⟩,fun y c' e=>?_,I.free,I.freeC,fun p hp=>?_,tracked ⟨oc,hoc,I.freeC x c hc⟩ hs,by simpa using I.len⟩ ⟨c,hs,.inr hc⟩
  ·exact (hs.2 b (Nat.ne_of_lt (Nat.lt_of_lt_of_le (Heap.lt_size e) (I.ok.cab x c hfn hc)))).trans (I.base.keep b o e n hb hx)
  ·obtain ⟨sl,e1⟩:=I.base.slot b o e n hb hx
   exact ⟨sl,(hs.2 b (Nat.ne_of_lt (Nat.lt_of_lt_of_le (Heap.lt_size e) (I.ok.cab x c hfn hc)))).trans e1⟩
  ·obtain ⟨o',e1⟩:=I.base.there b o e hx
   exact ⟨o',(hs.2 b (Nat.ne_of_lt (Nat.lt_of_lt_of_le (Heap.lt_size e) (I.ok.cab x c hfn hc)))).trans e1⟩
  ·by_cases hj:j = i
   ·subst hj
    rw [hi] at e1; cases e1
    rw [List.getElem?_set_self hiσ] at e2
    cases e2
    exact ⟨u,r,.inr ⟨.inl hk,c,hc,hc'⟩⟩
   ·rw [List.getElem?_set_ne (Ne.symm hj)] at e2
    obtain ⟨u',r',q⟩:=hl j y v' e1 e2 e3
    refine ⟨u',r',?_⟩
    rcases q with q | ⟨k,c',e,z'⟩
    ·exact .inl q
    ·refine .inr ⟨k,c',e,z'.sameBut hs ?_⟩
     rintro rfl
     exact hj (yS1 hN e1 (I.ok.inj _ _ _ e hc ▸ hi))
  ·by_cases hcc:c' = c
   ·subst hcc; exact ⟨_,hc'⟩
   ·obtain ⟨w2,z2⟩:=I.cell y c' e
    exact ⟨w2,z2.sameBut hs hcc⟩
  ·obtain ⟨e,n,ne,nf,d⟩:=I.pin p hp
   refine ⟨(hs.2 p.1 ?_).trans e,n,ne,nf,d⟩
   intro q
   rw [q,hoc] at e
   have q':oc = p.2:=Option.some.inj e
   exact d w' (by rw [<- q']; exact hocd)
theorem zQ8 {M:Model} {A:Around} {E:Value->Shared->Prop} {i:Nat} {x:Str} {v:V} {u:Value} {Q:Unit->Shared->Prop} (I:Inv X pins σ H s) (hN:X.N.Nodup) (hi:X.N[i]? = some x) (hx:Loc X.env.scope x) (r:RelV v u)
  (h:∀ s',Inv X pins (σ.set i (some v)) H s'->Q () s') (hf:X.fn x = true \/ X.env.scope.names.lookup x = some .local:=by first | exact .inl rfl | exact .inr rfl | assumption):wpAny M A (storeName X.env x u) Q E s :=
 yG7 I hN hi hx r (fun s' I' _=>h s' I') hf
theorem Inv.call' {s':Shared} {ch:List Addr} (I:Inv X pins σ H s) (ho:s'.os = s.os) (u:Un (frs X.stack) ch H H' s.heap s'.heap) (hok:HOk X.prog X.w H' s'.heap) (hg:AllBare s'.gens)
  (hch:∀ b ∈ ch,(b ∈ X.ex \/ X.s₀.heap.objs.size <= b) /\ b ≠ X.env.locals /\ (∀ x c,X.env.cells.lookup x = some c->c ≠ b) /\ ∀ p ∈ X.pn ++ pins,p.1 ≠ b):Inv X pins σ H' s':=by
 obtain ⟨h',g',d',t',o'⟩:=s'
 have e:o' = s.os:=ho
 subst e
 exact I.call (g':=g') (t':=t') (d':=d') u hok hg hch
end
noncomputable abbrev XK:=Value->Option Addr->Hp->Prop
noncomputable abbrev St:=List (Option V)
noncomputable abbrev VK:=V->Hp->Prop
noncomputable abbrev TE:=St->Hp->VK->Prop
noncomputable abbrev TT:=St->Hp->(Bool->Hp->Prop)->Prop
noncomputable abbrev TA:=St->Hp->(List V->Hp->Prop)->Prop
set_option genInjectivity false in
structure Ends where
 nx:St->Hp->Prop
 rt:VK
 bk:St->Hp->Prop:=fun _ _=>False
 ct:St->Hp->Prop:=fun _ _=>False
noncomputable abbrev TS:=Ends->St->Hp->Prop
noncomputable def EP (X:Cx) (pins:List (Addr × Obj)) (σ:St) (Q:VK) (u:Value) (s':Shared):Prop:=∃ v H',Inv X pins σ H' s' /\ RelV v u /\ Q v H'
noncomputable def TP (X:Cx) (pins:List (Addr × Obj)) (σ:St) (Q:Bool->Hp->Prop) (b:Bool) (s':Shared):Prop:=∃ H',Inv X pins σ H' s' /\ Q b H'
noncomputable def AP (X:Cx) (pins:List (Addr × Obj)) (σ:St) (Q:List V->Hp->Prop) (us:List Value) (s':Shared):Prop:=∃ vs H',Inv X pins σ H' s' /\ Vals vs us /\ Q vs H'
noncomputable def SP (X:Cx) (pins:List (Addr × Obj)) (D:Ends) (f:Flow) (s':Shared):Prop :=
 match f with
 | .next=>∃ σ' H',Inv X pins σ' H' s' /\ D.nx σ' H'
 | .brk=>∃ σ' H',Inv X pins σ' H' s' /\ D.bk σ' H'
 | .cont=>∃ σ' H',Inv X pins σ' H' s' /\ D.ct σ' H'
 | .ret u=>∃ v σ' H',Inv X pins σ' H' s' /\ RelV v u /\ D.rt v H'
noncomputable def PE (X:Cx) (e:Expr) (t:TE):Prop :=
 ∀ (pins:List (Addr × Obj)) (s:Shared) (σ:St) (H:Hp) (Q:VK),Inv X pins σ H s->t σ H Q->wpAny (model X.prog X.w) X.A (eval e X.env) (EP X pins σ Q) X.xe s
noncomputable def PT (X:Cx) (e:Expr) (t:TT):Prop :=
 ∀ (pins:List (Addr × Obj)) (s:Shared) (σ:St) (H:Hp) (Q:Bool->Hp->Prop),Inv X pins σ H s->t σ H Q->wpAny (model X.prog X.w) X.A (isTrue e X.env (eval e X.env)) (TP X pins σ Q) X.xe s
noncomputable def PW (X:Cx) (e:Expr) (t:TT):Prop :=
 ∀ (whole:Sem Value) (pins:List (Addr × Obj)) (s:Shared) (σ:St) (H:Hp) (Q:Bool->Hp->Prop),Inv X pins σ H s->t σ H Q->wpAny (model X.prog X.w) X.A (isTrue e X.env whole) (TP X pins σ Q) X.xe s
theorem PW.pt {X:Cx} {e:Expr} {t:TT} (h:PW X e t):PT X e t:=h _
noncomputable def PA (X:Cx) (es:List Expr) (t:TA):Prop :=
 ∀ (pos:Pos) (pins:List (Addr × Obj)) (s:Shared) (σ:St) (H:Hp) (Q:List V->Hp->Prop),Inv X pins σ H s->t σ H Q->wpAny (model X.prog X.w) X.A (spliced (backTo pos (starEach es X.env))) (AP X pins σ Q) X.xe s
noncomputable def PS (X:Cx) (st:Stmt) (t:TS):Prop :=
 ∀ (pins:List (Addr × Obj)) (s:Shared) (σ:St) (H:Hp) (D:Ends),Inv X pins σ H s->t D σ H->wpAny (model X.prog X.w) X.A (exec st X.env) (SP X pins D) X.xe s
noncomputable def PSs (X:Cx) (st:List Stmt) (t:TS):Prop :=
 ∀ (pins:List (Addr × Obj)) (s:Shared) (σ:St) (H:Hp) (D:Ends),Inv X pins σ H s->t D σ H->wpAny (model X.prog X.w) X.A (execs st X.env) (SP X pins D) X.xe s
theorem thn {α:Type} {t:Sem α} {Q Q':α->Shared->Prop} {M:Model} {A:Around} {E:Value->Shared->Prop} {s:Shared} (h:wpAny M A t Q E s) (hQ:∀ a s,Q a s->Q' a s):wpAny M A t Q' E s:=wpAny_mono h hQ fun _ _ x=>x
end L2
namespace L2
open PySem PySem.Spec PyProof.Rows
section
variable {X:Cx}
noncomputable def tVar (i:Nat):TE:=fun σ H Q=>∃ v,σ[i]? = some (some v) /\ Q v H
noncomputable def tC (v:V):TE:=fun _ H Q=>Q v H
theorem xU0 {i:Nat} {x:Str} {pos:Pos} (hN:X.N[i]? = some x) (hv:Vis X.env.scope x) (hd:(x == ("__debug__":Str)) = false:=by decide) (hcd:(x == ("__classdict__":Str)) = false:=by decide):PE X (.Name x pos) (tVar i):=by
 intro pins s σ H Q I h
 obtain ⟨v,e,h⟩:=h
 obtain ⟨m,hn,hl⟩:=I.loc
 obtain ⟨u,r,l⟩:=hl i x v hN e hv
 have fin:EP X pins σ Q u s:=⟨v,H,I,r,h⟩
 rcases l with ⟨hk,hm⟩ | ⟨hk,c,hc,hcell⟩
 ·exact wpAny_Name (wpAny_loadName_local I.ok.kind hk hn hm fin) hd
 ·rcases hk with hk | hk
  ·exact wpAny_Name (wpAny_loadName_cell I.ok.kind hk hc hcell fin) hd
  ·exact wpAny_Name (wpAny_loadName_free I.ok.kind hk hc hcell fin hcd) hd
theorem zA2 {i j pos}:PE X (.Constant (.int i) j pos) (tC (.int i)):=fun _ _ _ H _ I h=>wpAny_Constant_int ⟨.int i,H,I.tok _,⟨_,rfl⟩,h⟩
theorem zY9 {b j pos}:PE X (.Constant (.bool b) j pos) (tC (.bl b)):=fun _ _ _ H _ I h=>Constant_bool ⟨.bl b,H,I,rfl,h⟩
theorem zF3 {x j pos}:PE X (.Constant (.str x) j pos) (tC (.str x)):=fun _ _ _ H _ I h=>Calls.Constant_str ⟨.str x,H,I.tok _,⟨_,rfl⟩,h⟩
noncomputable def Gl (X:Cx) (x:Str):Prop:=X.env.kindOf x = some .globalImplicit
theorem xC4 {E:Value->Shared->Prop} {pins:List (Addr × Obj)} {s:Shared} {σ:St} {H:Hp} {x:Str} {u:Value} {pos:Pos} {Q:Value->Shared->Prop} (I:Inv X pins σ H s) (hg:Gl X x) (hm:X.mg x = some u) (h:Q u s)
  (hd:(x == ("__debug__":Str)) = false:=by decide):wpAny (model X.prog X.w) X.A (eval (.Name x pos) X.env) Q E s :=
 Calls.Name_function_global I.ok.kind hg (Calls.loadGlobal_global (by rw [I.ok.glob]; exact I.mod.glob.keeps I.bk) hm h) hd
theorem zQ1 {E:Value->Shared->Prop} {pins:List (Addr × Obj)} {s:Shared} {σ:St} {H:Hp} {x:Str} {u:Value} {pos:Pos} {Q:Value->Shared->Prop} (I:Inv X pins σ H s) (hg:Gl X x) (hm:X.mg x = none) (hv:bootBuiltins x = some u) (h:Q u s)
  (hn:x ≠ "__name__":=by decide) (hd:(x == ("__debug__":Str)) = false:=by decide):wpAny (model X.prog X.w) X.A (eval (.Name x pos) X.env) Q E s:=by
 obtain ⟨mb,h1,h2⟩:=I.mod.blt
 exact Calls.Name_function_global I.ok.kind hg (Calls.loadGlobal_builtin (by rw [I.ok.glob]; exact I.mod.glob.keeps I.bk) hm (by rw [I.ok.blt]; exact h1.keeps I.bk) ((h2 x hn).trans hv) h) hd
theorem zW8 {x:Str} {v:V} {u:Value} {pos:Pos} (hg:Gl X x) (hm:X.mg x = none) (hv:bootBuiltins x = some u) (r:RelV v u) (hn:x ≠ "__name__":=by decide) (hd:(x == ("__debug__":Str)) = false:=by decide):PE X (.Name x pos) (tC v) :=
 fun _ _ _ H _ I h=>zQ1 I hg hm hv ⟨v,H,I,r,h⟩ hn hd
variable {a b:Expr} {ta tb:TE} {pos:Pos}
noncomputable def PC (X:Cx) (op:CmpOp) (a b:Expr) (t:TE):Prop :=
 ∀ (pins:List (Addr × Obj)) (s:Shared) (σ:St) (H:Hp) (Q:VK),Inv X pins σ H s->t σ H Q ->
  wpAny (model X.prog X.w) X.A (eval a X.env) (fun v s₁=>wpAny (model X.prog X.w) X.A (eval b X.env) (fun u s₂=>wpAny (model X.prog X.w) X.A (compareOp op v u) (EP X pins σ Q) X.xe s₂) X.xe s₁) X.xe s
noncomputable def tB (t:TE):TT:=fun σ H Q=>t σ H fun x H1=>∃ c,x = .bl c /\ Q c H1
theorem xU2 {op:CmpOp} {t:TE} (h:PC X op a b t) (h1:behindInMarks op b = false:=by first | exact nobehind _ (by decide) (by decide) | rfl):PE X (.Compare a [op] [b] pos) t:=fun pins s σ H Q I hw=>wpAny_Compare1 (h pins s σ H Q I hw) h1
theorem xA2 {op:CmpOp} {t:TE} (h:PC X op a b t) (h1:behindInMarks op b = false:=by first | exact nobehind _ (by decide) (by decide) | rfl):PT X (.Compare a [op] [b] pos) (tB t):=by
 intro pins s σ H Q I hw
 refine wpAny_isTrue_Compare1 (thn (h pins s σ H _ I hw) fun v s1 h1=>thn h1 fun u s2 h2=>thn h2 fun c s3 ⟨x,H1,I1,r1,q1⟩=>?_) h1
 obtain ⟨d,rfl,q⟩:=q1
 cases r1
 exact wpAny_truthy_bool ⟨H1,I1,q⟩
theorem zU1 {e:Expr} {t:TE} (h:PE X e t) (he:∀ whole,isTrue e X.env whole = (do let v <- whole; standAt e.pos; holding [v] (truthy v)):=by intro _; rfl):PT X e (tB t):=by
 intro pins s σ H Q I hw
 refine isTrue_plain (thn (h pins s σ H _ I hw) fun v s1 ⟨x,H1,I1,r1,q1⟩=>?_) (he _)
 obtain ⟨d,rfl,q⟩:=q1
 cases r1
 exact wpAny_truthy_bool ⟨H1,I1,q⟩
variable {tA tB':TT} {rest:List Expr}
noncomputable def tAnd (t u:TT):TT:=fun σ H Q=>t σ H fun c H1=>if c = true then u σ H1 Q else Q false H1
noncomputable def tOr (t u:TT):TT:=fun σ H Q=>t σ H fun c H1=>if c = true then Q true H1 else u σ H1 Q
noncomputable def tNot (t:TT):TT:=fun σ H Q=>t σ H fun c H1=>Q (!c) H1
theorem xA0 (ha:PT X a tA):PW X (.BoolOp .And [a] pos) tA:=by
 intro wh pins s σ H Q I h
 refine isTrue_and (thn (ha pins s σ H Q I h) fun c s1 e=>?_)
 cases c with
 | true=>exact isTrue_and_nil e
 | false=>exact e
theorem yR5 (ha:PT X a tA):PW X (.BoolOp .Or [a] pos) tA:=by
 intro wh pins s σ H Q I h
 refine isTrue_or (thn (ha pins s σ H Q I h) fun c s1 e=>?_)
 cases c with
 | false=>exact isTrue_or_nil e
 | true=>exact e
theorem xL7 (ha:PT X a tA) (hb:PW X (.BoolOp .And (b :: rest) pos) tB'):PW X (.BoolOp .And (a :: b :: rest) pos) (tAnd tA tB'):=by
 intro wh pins s σ H Q I h
 refine isTrue_and (thn (ha pins s σ H _ I h) fun c s1 ⟨H1,I1,q1⟩=>?_)
 cases c with
 | true=>exact hb wh pins s1 σ H1 Q I1 q1
 | false=>exact ⟨H1,I1,q1⟩
theorem yI1 (ha:PT X a tA) (hb:PW X (.BoolOp .Or (b :: rest) pos) tB'):PW X (.BoolOp .Or (a :: b :: rest) pos) (tOr tA tB'):=by
 intro wh pins s σ H Q I h
 refine isTrue_or (thn (ha pins s σ H _ I h) fun c s1 ⟨H1,I1,q1⟩=>?_)
 cases c with
 | true=>exact ⟨H1,I1,q1⟩
 | false=>exact hb wh pins s1 σ H1 Q I1 q1
theorem yI2 (ha:PT X a tA):PT X (.UnaryOp .Not a pos) (tNot tA):=by
 intro pins s σ H Q I h
 exact isTrue_not (ha pins s σ H (fun c H1=>Q (!c) H1) I h)
noncomputable def xZ2 (ta tb:TE):TE:=fun σ H Q=>ta σ H fun x H1=>∃ c,x = .bl c /\ if c = true then tb σ H1 Q else Q (.bl false) H1
noncomputable def xY7 (ta:TE):TE:=fun σ H Q=>ta σ H fun x H1=>∃ c,x = .bl c /\ Q (.bl (!c)) H1
theorem xM1 {op} {t:TE} (h:PE X a t):PE X (.BoolOp op [a] pos) t:=fun pins s σ H Q I hw=>BoolOp_one (h pins s σ H Q I hw)
theorem xA6 (ha:PE X a ta) (hb:PE X (.BoolOp .And (b :: rest) pos) tb):PE X (.BoolOp .And (a :: b :: rest) pos) (xZ2 ta tb):=by
 intro pins s σ H Q I h
 refine BoolOp_and (thn (ha pins s σ H _ I h) fun v s1 ⟨x,H1,I1,r1,q1⟩=>?_)
 obtain ⟨c,rfl,q1⟩:=q1
 cases r1
 refine wpAny_truthy_bool ?_
 cases c with
 | true=>exact hb pins s1 σ H1 Q I1 q1
 | false=>exact ⟨.bl false,H1,I1,rfl,q1⟩
theorem xU1 (ha:PE X a ta):PE X (.UnaryOp .Not a pos) (xY7 ta):=by
 intro pins s σ H Q I h
 refine UnaryOp_ (thn (ha pins s σ H _ I h) fun v s1 ⟨x,H1,I1,r1,q1⟩=>?_)
 obtain ⟨c,rfl,q1⟩:=q1
 cases r1
 exact not_of (wpAny_truthy_bool ⟨.bl (!c),H1,I1,rfl,q1⟩)
noncomputable def tIf (t:TT) (ta tb:TE):TE:=fun σ H Q=>t σ H fun c H1=>if c = true then ta σ H1 Q else tb σ H1 Q
theorem yS0 {c:Expr} (hc:PT X c tA) (ha:PE X a ta) (hb:PE X b tb):PE X (.IfExp c a b pos) (tIf tA ta tb):=by
 intro pins s σ H Q I h
 refine wpAny_IfExp (thn (hc pins s σ H _ I h) fun d s1 ⟨H1,I1,q1⟩=>?_)
 cases d with
 | true=>exact ha pins s1 σ H1 Q I1 q1
 | false=>exact hb pins s1 σ H1 Q I1 q1
end
end L2
namespace L2
open PySem PySem.Spec PyProof.Rows
noncomputable def SqL (K:PySem.W.Frag) (H:Hp) (a:Addr) (xs:List V):Prop :=
 Rd H a (.lst xs) \/
  ∃ (o:Obj) (its:Array Value) (n:Nat),K.lookup a = some o /\ o.cls = .type "list" /\ o.dict = none /\ o.data = .seq its n /\ its.size <= sizeLine /\ Vals xs its.toList
noncomputable def SqT (K:PySem.W.Frag) (H:Hp) (a:Addr) (xs:List V):Prop :=
 Rd H a (.tup xs) \/
  ∃ (o:Obj) (its:Array Value) (n:Nat),K.lookup a = some o /\ o.cls = .type "tuple" /\ o.data = .seq its n /\ its.size <= sizeLine /\ Vals xs its.toList
noncomputable def absV:Value->Option V
 | .none=>some .non
 | .bool b=>some (.bl b)
 | .int i _=>some (.int i)
 | .str x _=>some (.str x)
 | .bytes b _=>some (.byt b)
 | .float b _=>some (.flt b)
 | .ref a=>some (.ref a)
 | .type n=>some (.ty n)
 | _=>none
theorem RelV.abs {x:V} {u:Value} (r:RelV x u):absV u = some x:=by
 cases x with
 | non=>cases r; rfl
 | bl _=>cases r; rfl
 | int _=>obtain ⟨t,rfl⟩:=r; rfl
 | str _=>obtain ⟨t,rfl⟩:=r; rfl
 | byt _=>obtain ⟨t,rfl⟩:=r; rfl
 | flt _=>obtain ⟨t,rfl⟩:=r; rfl
 | ref _=>cases r; rfl
 | ty _=>cases r; rfl
theorem RelV.inj {x y:V} {u:Value} (r:RelV x u) (q:RelV y u):x = y:=Option.some.inj (r.abs.symm.trans q.abs)
theorem Vals.inj:∀ {xs ys:List V} {us:List Value},Vals xs us->Vals ys us->xs = ys
 | _,_,_,.nil,.nil=>rfl
 | _,_,_,.cons r t,.cons r' t'=>by rw [r.inj r',Vals.inj t t']
section
variable {X:Cx} {pins:List (Addr × Obj)} {σ:St} {H:Hp} {s:Shared} {a:Addr} {xs ys:List V}
theorem SqL.of {K:PySem.W.Frag} (h:H a = some (.lst xs)):SqL K H a xs:=.inl (.inl h)
theorem SqT.of {K:PySem.W.Frag} (h:H a = some (.tup xs)):SqT K H a xs:=.inl (.inl h)
theorem Inv.list (I:Inv X pins σ H s) (h:SqL X.K H a xs):∃ its:List Value,Vals xs its /\ PlainL s.heap a its.toArray /\ xs.length <= sizeLine:=by
 rcases h with h | ⟨o,its,n,hk,hc,hd,hs,hz,r⟩
 ·obtain ⟨z,its,n,r,e⟩:=h.ok I.hok
  exact ⟨its,r,⟨_,n,e,rfl,rfl,rfl⟩,z⟩
 ·refine ⟨its.toList,r,⟨o,n,I.kIn a o hk,hc,hd,by simpa using hs⟩,?_⟩
  have e:=r.length
  simp only [Array.length_toList] at e
  omega
theorem Inv.tuple (I:Inv X pins σ H s) (h:SqT X.K H a xs):∃ its:List Value,Vals xs its /\ IsTup s.heap a its.toArray /\ xs.length <= sizeLine:=by
 rcases h with h | ⟨o,its,n,hk,hc,hs,hz,r⟩
 ·obtain ⟨z,its,r,p⟩:=h.ok I.hok
  exact ⟨its,r,p,z⟩
 ·refine ⟨its.toList,r,⟨o,I.kIn a o hk,hc,n,by simpa using hs⟩,?_⟩
  have e:=r.length
  simp only [Array.length_toList] at e
  omega
theorem Inv.list_inj (I:Inv X pins σ H s) (h:SqL X.K H a xs) (h':SqL X.K H a ys):xs = ys:=by
 obtain ⟨its,r,⟨o,n,e,_,_,d⟩,_⟩:=I.list h
 obtain ⟨its',r',⟨o',n',e',_,_,d'⟩,_⟩:=I.list h'
 rw [e] at e'; cases e'
 rw [d] at d'
 injection d' with d1 _
 have:its = its':=by simpa using congrArg Array.toList d1
 subst this
 exact r.inj r'
end
noncomputable abbrev Cx.wish (X:Cx) (E:Value->Shared->Prop):Cx:={ X with xe:=E }
noncomputable abbrev Cx.nox (X:Cx):Cx:=X.wish fun _ _=>False
theorem Cx.Ok.wish {X:Cx} (ok:X.Ok) (E:Value->Shared->Prop):(X.wish E).Ok :=
 ⟨ok.mod,ok.kind,ok.glob,ok.blt,ok.above,ok.inj,ok.has,ok.cab,ok.hd,ok.frames,ok.stk,ok.exf,ok.bs,ok.bsz,ok.noex,ok.exfs,ok.funs,ok.frf⟩
theorem Cx.Ok.unwish {X:Cx} {E:Value->Shared->Prop} (ok:(X.wish E).Ok):X.Ok :=
 ⟨ok.mod,ok.kind,ok.glob,ok.blt,ok.above,ok.inj,ok.has,ok.cab,ok.hd,ok.frames,ok.stk,ok.exf,ok.bs,ok.bsz,ok.noex,ok.exfs,ok.funs,ok.frf⟩
section
variable {X:Cx} {pins:List (Addr × Obj)} {σ:St} {H:Hp} {s:Shared} {E:Value->Shared->Prop}
theorem Inv.wish (I:Inv X pins σ H s) (E:Value->Shared->Prop):Inv (X.wish E) pins σ H s:=⟨I.ok.wish E,I.os,I.bare,I.base,I.loc,I.cell,I.free,I.freeC,I.pin,I.hok,I.len⟩
theorem Inv.unwish (I:Inv (X.wish E) pins σ H s):Inv X pins σ H s:=⟨I.ok.unwish,I.os,I.bare,I.base,I.loc,I.cell,I.free,I.freeC,I.pin,I.hok,I.len⟩
theorem SP.unwish {D:Ends} {f:Flow} {s':Shared} (h:SP (X.wish E) pins D f s'):SP X pins D f s':=by
 cases f with
 | next=>obtain ⟨σ',H',I,q⟩:=h; exact ⟨σ',H',I.unwish,q⟩
 | brk=>obtain ⟨σ',H',I,q⟩:=h; exact ⟨σ',H',I.unwish,q⟩
 | cont=>obtain ⟨σ',H',I,q⟩:=h; exact ⟨σ',H',I.unwish,q⟩
 | ret u=>obtain ⟨v,σ',H',I,r,q⟩:=h; exact ⟨v,σ',H',I.unwish,r,q⟩
theorem PSs.nox {st:List Stmt} {t:TS} (h:PSs X.nox st t):PSs X st t:=fun pins s σ H D I hw =>
 wpAny_mono (h pins s σ H D (I.wish _) hw) (fun _ _ q=>q.unwish) fun _ _ z=>False.elim z
end
section
variable {X:Cx} {st:Stmt} {rest:List Stmt} {t u:TS} {e:Expr} {te:TE} {pos:Pos}
noncomputable def xY8:TS:=fun D σ H=>D.nx σ H
noncomputable def tSeq (t u:TS):TS:=fun D σ H=>t { D with nx:=u D } σ H
theorem zE1:PSs X [] xY8:=fun _ _ σ H _ I h=>wpAny_execs_nil ⟨σ,H,I,h⟩
theorem zA4 (h1:PS X st t) (h2:PSs X rest u):PSs X (st :: rest) (tSeq t u):=by
 intro pins s σ H D I h
 refine wpAny_execs_cons (thn (h1 pins s σ H { D with nx:=u D } I h) fun f s1 q=>?_)
 cases f with
 | next =>
  obtain ⟨σ',H',I',q⟩:=q
  exact h2 pins s1 σ' H' D I' q
 | ret v=>exact q
 | brk=>exact q
 | cont=>exact q
theorem zA6 (h1:PS X st t):PSs X [st] t:=by
 intro pins s σ H D I h
 refine wpAny_execs_cons (thn (h1 pins s σ H D I h) fun f s1 q=>?_)
 cases f with
 | next=>exact wpAny_execs_nil q
 | ret v=>exact q
 | brk=>exact q
 | cont=>exact q
theorem Inv.quiet {pins:List (Addr × Obj)} {σ:St} {H:Hp} {s:Shared} (I:Inv X pins σ H s):interactive X.env = false:=by simp [interactive,I.ok.kind]
noncomputable def xY9 (te:TE):TS:=fun D σ H=>te σ H fun _ H1=>D.nx σ H1
theorem zK3 (he:PE X e te) (hs:swapsWith e none pos.line X.env = pure false:=by rfl):PS X (.Expr e pos) (xY9 te):=by
 intro pins s σ H D I h
 exact wpAny_Expr_any (thn (he pins s σ H _ I h) fun v s1 ⟨x,H1,I1,r1,q1⟩=>⟨σ,H1,I1,q1⟩) I.quiet hs
noncomputable def tRet (te:TE):TS:=fun D σ H=>te σ H D.rt
theorem zC0 (he:PE X e te):PS X (.Return (some e) pos) (tRet te):=by
 intro pins s σ H D I h
 exact wpAny_Return_some (thn (he pins s σ H _ I h) fun v s1 ⟨x,H1,I1,r1,q1⟩=>⟨x,σ,H1,I1,r1,q1⟩)
noncomputable def tIfS (c:TT) (t u:TS):TS:=fun D σ H=>c σ H fun b H1=>if b = true then t D σ H1 else u D σ H1
theorem zK2 {c:Expr} {a b:List Stmt} {tc:TT} (hc:PT X c tc) (ha:PSs X a t) (hb:PSs X b u):PS X (.If c a b pos) (tIfS tc t u):=by
 intro pins s σ H D I h
 refine wpAny_If (thn (hc pins s σ H _ I h) fun d s1 ⟨H1,I1,q1⟩=>?_)
 cases d with
 | true=>exact ha pins s1 σ H1 D I1 q1
 | false=>exact hb pins s1 σ H1 D I1 q1
end
noncomputable abbrev TG:=V->St->Hp->(St->Hp->Prop)->Prop
noncomputable abbrev TGs:=List V->St->Hp->(St->Hp->Prop)->Prop
noncomputable def PG (X:Cx) (target:Expr) (t:TG):Prop :=
 ∀ (pins:List (Addr × Obj)) (s:Shared) (σ:St) (H:Hp) (v:V) (u:Value) (Q:St->Hp->Prop),Inv X pins σ H s->RelV v u->t v σ H Q ->
  wpAny (model X.prog X.w) X.A (assign target X.env u) (fun _ s'=>∃ σ' H',Inv X pins σ' H' s' /\ Q σ' H') X.xe s
noncomputable def PGs (X:Cx) (ts:List Expr) (t:TGs):Prop :=
 ∀ (pins:List (Addr × Obj)) (s:Shared) (σ:St) (H:Hp) (vs:List V) (us:List Value) (Q:St->Hp->Prop),Inv X pins σ H s->Vals vs us->t vs σ H Q ->
  wpAny (model X.prog X.w) X.A (assignInOrder ((assignEach ts X.env).map (·.2)) us) (fun _ s'=>∃ σ' H',Inv X pins σ' H' s' /\ Q σ' H') X.xe s
noncomputable abbrev TSet:=V->V->V->Hp->(Hp->Prop)->Prop
noncomputable def PSet (X:Cx) (t:TSet):Prop :=
 ∀ (pins:List (Addr × Obj)) (s:Shared) (σ:St) (H:Hp) (o i v:V) (ov iv u:Value) (Q:Hp->Prop),Inv X pins σ H s->RelV o ov->RelV i iv->RelV v u->t o i v H Q ->
  wpAny (model X.prog X.w) X.A (setItem ov iv u) (fun _ s'=>∃ H',Inv X pins σ H' s' /\ Q H') X.xe s
noncomputable abbrev TIp:=V->V->Hp->VK->Prop
noncomputable def PIp (X:Cx) (op:Operator) (t:TIp):Prop :=
 ∀ (pins:List (Addr × Obj)) (s:Shared) (σ:St) (H:Hp) (x y:V) (v u:Value) (Q:VK),Inv X pins σ H s->RelV x v->RelV y u->t x y H Q ->
  wpAny (model X.prog X.w) X.A (inplaceOp op v u) (EP X pins σ Q) X.xe s
section
variable {X:Cx} {pos:Pos}
noncomputable def xQ9 (i:Nat):TG:=fun v σ H Q=>Q (σ.set i (some v)) H
theorem zA9 {i:Nat} {x:Str} (hN:X.N.Nodup) (hi:X.N[i]? = some x) (hx:Loc X.env.scope x) (hf:X.fn x = true \/ X.env.scope.names.lookup x = some .local:=by first | exact .inl rfl | exact .inr rfl | assumption):PG X (.Name x pos) (xQ9 i):=by
 intro pins s σ H v u Q I r h
 exact wpAny_assign_Name (zQ8 I hN hi hx r (fun s' I'=>⟨_,H,I',h⟩) hf)
noncomputable def gNil:TGs:=fun vs σ H Q=>vs = [] /\ Q σ H
noncomputable def wA7 (t:TG) (u:TGs):TGs:=fun vs σ H Q=>∃ v r,vs = v :: r /\ t v σ H fun σ' H'=>u r σ' H' Q
theorem zK4:PGs X [] gNil:=by
 intro pins s σ H vs us Q I r h
 obtain ⟨e,h⟩:=h
 subst e
 cases r
 exact assignInOrder_nil ⟨σ,H,I,h⟩
theorem zC7 {e:Expr} {es:List Expr} {t:TG} {u:TGs} (h1:PG X e t) (h2:PGs X es u)
  (hs:(assignEach (e :: es) X.env).map (·.2) = assign e X.env :: (assignEach es X.env).map (·.2):=by rfl):PGs X (e :: es) (wA7 t u):=by
 intro pins s σ H vs us Q I r h
 obtain ⟨v,vr,e1,h⟩:=h
 subst e1
 cases r with
 | cons r rr =>
  rw [hs]
  refine assignInOrder_cons (thn (h1 pins s σ H _ _ _ I r h) fun _ s1 ⟨σ1,H1,I1,q1⟩=>?_)
  exact h2 pins s1 σ1 H1 _ _ Q I1 rr q1
noncomputable def gTup (K:PySem.W.Frag) (n:Nat) (t:TGs):TG:=fun v σ H Q=>∃ a xs,v = .ref a /\ SqT K H a xs /\ xs.length = n /\ t xs σ H Q
theorem zP9 {es:List Expr} {k:Nat} {t:TGs} {n:Nat} (hc:X.calm = true) (h:PGs X es t)
  (hn:(assignEach es X.env).length = n:=by rfl) (hst:(assignEach es X.env).findIdx? (·.1) = none:=by rfl):PG X (.Tuple es k pos) (gTup X.K n t):=by
 intro pins s σ H v u Q I r hw
 obtain ⟨a,xs,e1,hq,hl,hw⟩:=hw
 subst e1
 cases r
 obtain ⟨its,rv,ht,hz⟩:=I.tuple hq
 refine assign_Tuple_tuple (I.ok.hd hc) ht (by simp [hn,<- hl,rv.length]) hst fun h' hx=>?_
 have I1:Inv X pins σ H { s with heap:=h' }:=I.kept (t':=s.toks) fun b o e=>hx b o (Nat.ne_of_lt (Heap.lt_size e)) e
 exact h pins _ σ H xs _ Q I1 (by simpa using rv) hw
noncomputable def gSub (to ti:TE) (t:TSet):TG:=fun v σ H Q=>to σ H fun o H1=>ti σ H1 fun i H2=>t o i v H2 fun H3=>Q σ H3
theorem xM0 {o i:Expr} {to ti:TE} {t:TSet} (ho:PE X o to) (hi:PE X i ti) (hs:PSet X t)
  (ha:∀ v,assign (.Subscript o i pos) X.env v = (do
   let ov <- holding [v] (eval o X.env)
   let iv <- holding [v,ov] (eval i X.env)
   standAt pos
   holding [v,ov,iv] (setItem ov iv v)
   release [v,ov,iv] []):=by intro _; rfl):PG X (.Subscript o i pos) (gSub to ti t):=by
 intro pins s σ H v u Q I r h
 rw [ha]
 refine wpAny_bind (wpAny_holding (thn (ho pins s σ H _ I h) fun ov s1 ⟨x,H1,I1,r1,q1⟩=>?_))
 refine wpAny_bind (wpAny_holding (thn (hi pins s1 σ H1 _ I1 q1) fun iv s2 ⟨y,H2,I2,r2,q2⟩=>?_))
 refine wpAny_bind (wpAny_standAt (wpAny_bind (wpAny_holding (thn (hs pins s2 σ H2 x y v ov iv u _ I2 r1 r2 r q2) fun _ s3 ⟨H3,I3,q3⟩=>?_))))
 exact wpAny_release ⟨σ,H3,I3,q3⟩
noncomputable def tAsg (te:TE) (g:TG):TS:=fun D σ H=>te σ H fun x H1=>g x σ H1 D.nx
theorem yR6 {tg e:Expr} {te:TE} {g:TG} (he:PE X e te) (hg:PG X tg g) (hs:swapsWithSole [tg] e pos.line X.env = pure false:=by rfl) (hw:swappedStores [tg] e X.env = pure none:=by rfl)
  (h1:(assignEach [tg] X.env).map (·.2) = [assign tg X.env]:=by rfl):PS X (.Assign [tg] e pos) (tAsg te g):=by
 intro pins s σ H D I h
 refine wpAny_Assign_stores (thn (he pins s σ H _ I h) fun v s1 ⟨x,H1,I1,r1,q1⟩=>?_) hs hw
 rw [h1]
 exact thn (hg pins s1 σ H1 x v _ I1 r1 q1) fun _ s2 q=>q
theorem zB1 {i:Nat} {x:Str} {e:Expr} {te:TE} {pos':Pos} (hN:X.N.Nodup) (hi:X.N[i]? = some x) (hx:Loc X.env.scope x) (he:PE X e te) (hs:swapsWith e (some (.Name x pos')) pos.line X.env = pure false:=by rfl) (hf:X.fn x = true \/ X.env.scope.names.lookup x = some .local:=by first | exact .inl rfl | exact .inr rfl | assumption) :
  PS X (.Assign [.Name x pos'] e pos) (tAsg te (xQ9 i)):=by
 intro pins s σ H D I h
 refine wpAny_Assign_Name (thn (he pins s σ H _ I h) fun v s1 ⟨y,H1,I1,r1,q1⟩=>?_) hs
 exact zQ8 I1 hN hi hx r1 (fun s2 I2=>⟨_,H1,I2,q1⟩) hf
noncomputable def tPar (i j:Nat) (ta:TA):TS:=fun D σ H=>ta σ H fun vs H1=>∃ v w,vs = [v,w] /\ D.nx ((σ.set i (some v)).set j (some w)) H1
theorem xT6 {i j:Nat} {x y:Str} {a b:Expr} {ta:TA} {px py pt:Pos} {kt k2 pt2} (hc:X.calm = true) (hN:X.N.Nodup) (hi:X.N[i]? = some x) (hj:X.N[j]? = some y) (hij:i ≠ j)
  (hx:X.env.scope.names.lookup x = some .local) (hy:X.env.scope.names.lookup y = some .local) (ha:PA X [a,b] ta)
  (hw:swappedStores [.Tuple [.Name x px,.Name y py] kt pt] (.Tuple [a,b] k2 pt2) X.env = pure (some [x,y]))
  (hs:swapsWithSole [.Tuple [.Name x px,.Name y py] kt pt] (.Tuple [a,b] k2 pt2) pos.line X.env = pure false:=by rfl) :
  PS X (.Assign [.Tuple [.Name x px,.Name y py] kt pt] (.Tuple [a,b] k2 pt2) pos) (tPar i j ta):=by
 intro pins s σ H D I h
 rw [exec_Assign_arm]
 refine wpAny_bind (wpAny_standAt ?_)
 rw [hs]
 refine wpAny_bind (wpAny_pure ?_)
 rw [if_neg (by decide)]
 refine wpAny_bind (Tuple_ (thn (ha _ pins s σ H _ I h) fun us s1 ⟨vs,H1,I1,r1,q1⟩=>?_))
 obtain ⟨v,w,e1,q1⟩:=q1
 subst e1
 obtain ⟨u1,u2,rfl,rv,rw'⟩:∃ u1 u2,us = [u1,u2] /\ RelV v u1 /\ RelV w u2:=by
  cases r1 with
  | cons p q =>
   cases q with
   | cons p' q' =>
    cases q'
    exact ⟨_,_,rfl,p,p'⟩
 refine wpAny_newObj_type ?_ (by show 2 <= sizeLine; decide)
 have I2:Inv X pins σ H1 { s1 with heap:=s1.heap.push { cls:=.type "tuple",data:=.seq [u1,u2].toArray } }:=I1.kept (t':=s1.toks) fun b o e=>Heap.get?_push_of_some _ e
 rw [hw]
 refine wpAny_bind (wpAny_pure ?_)
 show wpAny (model X.prog X.w) X.A (do rule "assign.swapped-stores"; let items <- unpackItems (.ref s1.heap.objs.size) 2 none; assignInOrder [fun v=>bindName X.env y v,fun v=>bindName X.env x v] items.reverse; pure Flow.next) _ _ _
 refine wpAny_bind (wpAny_rule (wpAny_bind (unpackItems_tuple (items:=#[u1,u2]) (I.ok.hd hc) (IsTup.new s1.heap _) fun h' hx'=>?_)))
 have I3:=I2.kept (h':=h') (t':=s1.toks) fun b o e=>hx' b o (Nat.ne_of_lt (Heap.lt_size e)) e
 show wpAny _ _ (assignInOrder [fun v=>bindName X.env y v,fun v=>bindName X.env x v] [u2,u1] >>= fun _=>pure Flow.next) _ _ _
 refine wpAny_bind (assignInOrder_cons (wpAny_bindName (zQ8 I3 hN hj (.inl hy) rw' (fun s2 I4=>?_) (.inr hy))))
 refine assignInOrder_cons (wpAny_bindName (zQ8 I4 hN hi (.inl hx) rv (fun s3 I5=>assignInOrder_nil (wpAny_pure ?_)) (.inr hx)))
 rw [List.set_comm _ _ (Ne.symm hij)] at I5
 exact ⟨_,H1,I5,q1⟩
noncomputable def tAug (i:Nat) (te:TE) (ti:TIp):TS:=fun D σ H=>∃ x,σ[i]? = some (some x) /\ te σ H fun y H1=>ti x y H1 fun z H2=>D.nx (σ.set i (some z)) H2
theorem xL8 {i:Nat} {x:Str} {e:Expr} {te:TE} {op:Operator} {ti:TIp} {pos':Pos} (hN:X.N.Nodup) (hi:X.N[i]? = some x) (hx:Loc X.env.scope x) (he:PE X e te) (ho:PIp X op ti) (hf:X.fn x = true \/ X.env.scope.names.lookup x = some .local:=by first | exact .inl rfl | exact .inr rfl | assumption) :
  PS X (.AugAssign (.Name x pos') op e pos) (tAug i te ti):=by
 intro pins s σ H D I h
 obtain ⟨v,e1,h⟩:=h
 obtain ⟨m,hn,hl⟩:=I.loc
 have vis:Vis X.env.scope x:=by rcases hx with k | k; exact .inl k; exact .inr (.inl k)
 obtain ⟨u,r,l⟩:=hl i x v hi e1 vis
 refine wpAny_AugAssign_Name ?_
 have go:wpAny (model X.prog X.w) X.A (eval e X.env) (fun w s₂=>wpAny (model X.prog X.w) X.A (inplaceOp op u w) (fun r s₃=>wpAny (model X.prog X.w) X.A (storeName X.env x r) (fun _=>SP X pins D .next) X.xe s₃) X.xe s₂) X.xe s:=by
  refine thn (he pins s σ H _ I h) fun w s1 ⟨y,H1,I1,r1,q1⟩=>?_
  refine thn (ho pins s1 σ H1 v y u w _ I1 r r1 q1) fun z s2 ⟨zv,H2,I2,r2,q2⟩=>?_
  exact zQ8 I2 hN hi hx r2 (fun s3 I3=>⟨_,H2,I3,q2⟩) hf
 rcases l with ⟨hk,hm⟩ | ⟨hk,c,hc,hcell⟩
 ·exact wpAny_loadName_local I.ok.kind hk hn hm go
 ·rcases hk with hk | hk
  ·exact wpAny_loadName_cell I.ok.kind hk hc hcell go
  ·rcases hx with k | k
   ·have:X.env.scope.names.lookup x = some .free:=hk
    rw [k] at this; cases this
   ·have:X.env.scope.names.lookup x = some .free:=hk
    rw [k] at this; cases this
noncomputable def ipI (f:Int->Int->Int):TIp:=fun x y H Q=>∃ i j,x = .int i /\ y = .int j /\ Q (.int (f i j)) H
theorem xM8:PIp X .Add (ipI fun i j=>i + j):=by
 intro pins s σ H x y v u Q I r1 r2 h
 obtain ⟨i,j,e1,e2,q⟩:=h
 subst e1; subst e2
 obtain ⟨t,rfl⟩:=r1
 obtain ⟨t',rfl⟩:=r2
 exact iadd_int ⟨.int _,H,I.tok _,⟨_,rfl⟩,q⟩
end
section
variable {X:Cx} {pos:Pos}
noncomputable def xK7 (c:TT) (tb:TS):TS:=fun D σ H=>∃ W:Nat->St->Hp->Prop,(∃ m,W m σ H) /\ ∀ m σ H,W m σ H ->
 c σ H fun b H1=>if b = true then ∃ N:St->Hp->Prop,(∀ σ' H',N σ' H'->∃ m',m' < m /\ W m' σ' H') /\ tb { D with nx:=N,ct:=N,bk:=D.nx } σ H1 else D.nx σ H1
theorem zU9 {c:Expr} {body:List Stmt} {tc:TT} {tb:TS} (hp:PassesOwn (model X.prog X.w) X.A X.env X.xe) (hc:PT X c tc) (hb:PSs X body tb):PS X (.While c body [] pos) (xK7 tc tb):=by
 intro pins s σ H D I h
 obtain ⟨W,⟨m0,w0⟩,turn⟩:=h
 refine wpAny_While (codeAny_whileLoop (fun n s'=>∃ σ' H',Inv X pins σ' H' s' /\ W n σ' H') ?_ m0 ⟨σ,H,I,w0⟩)
 rintro n s1 ⟨σ1,H1,I1,w1⟩
 refine wpAny_passesOwn hp (thn (hc pins s1 σ1 H1 _ I1 (turn n σ1 H1 w1)) fun b s2 ⟨H2,I2,q2⟩=>?_)
 cases b with
 | true =>
  obtain ⟨N,hN,q2⟩:=q2
  rw [if_pos rfl]
  refine wpAny_passesOwn hp (thn (hb pins s2 σ1 H2 _ I2 q2) fun f s3 q3=>?_)
  cases f with
  | next =>
   obtain ⟨σ3,H3,I3,n3⟩:=q3
   obtain ⟨m',hm,w3⟩:=hN σ3 H3 n3
   exact ⟨m',hm,σ3,H3,I3,w3⟩
  | cont =>
   obtain ⟨σ3,H3,I3,n3⟩:=q3
   obtain ⟨m',hm,w3⟩:=hN σ3 H3 n3
   exact ⟨m',hm,σ3,H3,I3,w3⟩
  | brk=>exact q3
  | ret v=>exact q3
 | false =>
  rw [if_neg Bool.false_ne_true]
  exact wpAny_execs_nil ⟨σ1,H2,I2,q2⟩
end
set_option genInjectivity false in
structure It where
 go:Nat->Hp->Prop
 yld:Nat->Hp->V->Hp->Prop
 stop:Nat->Hp->Prop
noncomputable def FpOk (X:Cx) (pins:List (Addr × Obj)) (H:Hp) (b:Addr):Prop :=
 H b = none /\ b ≠ X.env.locals /\ b ∉ X.fs /\ (b ∈ X.ex \/ X.s₀.heap.objs.size <= b) /\ (∀ x c,X.env.cells.lookup x = some c->c ≠ b) /\ ∀ p ∈ X.pn ++ pins,p.1 ≠ b
theorem Inv.fpOk {X:Cx} {pins:List (Addr × Obj)} {σ:St} {H H':Hp} {s:Shared} {b:Addr} (I:Inv X pins σ H s) (hb:s.heap.objs.size <= b) (hn:H' b = none):FpOk X pins H' b:=by
 refine ⟨hn,Nat.ne_of_gt (Nat.lt_of_lt_of_le I.lt hb),I.nofs hb,.inr (Nat.le_trans I.sz hb),fun x c e z=>?_,fun p hp z=>?_⟩
 ·obtain ⟨v,q⟩:=I.cell x c e
  exact absurd (Nat.lt_of_lt_of_le q.lt (by rw [z]; exact hb)) (Nat.lt_irrefl _)
 ·exact absurd (Nat.lt_of_lt_of_le (Heap.lt_size (I.pin p hp).1) (by rw [z]; exact hb)) (Nat.lt_irrefl _)
structure Turn (P:Program) (w:World) (K:PySem.W.Frag) (tg:Expr) (J:It) (fp:List Addr) (it:Addr) (tn:Nat->Heap->Prop):Prop where
 mem:it ∈ fp
 obj:∀ i h,tn i h->∀ b ∈ fp,∃ o,h.get? b = some o /\ ∀ v,o.data ≠ .cell v
 keep:∀ i h h',tn i h->(∀ b ∈ fp,∀ o,h.get? b = some o->h'.get? b = some o)->tn i h'
 item:∀ (X:Cx),X.prog = P->X.w = w->X.K = K->X.calm = true->∀ (i:Nat) (pins:List (Addr × Obj)) (s:Shared) (σ:St) (H:Hp) (E:Value->Shared->Prop),Inv X pins σ H s->(∀ b ∈ fp,FpOk X pins H b)->tn i s.heap->J.go i H ->
  wpAny (model P w) X.A (pyNext (.ref it)) (fun r s1=>∃ u,r = some u /\
   wpAny (model P w) X.A (letOwnedTupleGo tg (.ref it) u) (fun _ s2=>∃ x H',Inv X pins σ H' s2 /\ RelV x u /\ J.yld i H x H' /\ tn (i + 1) s2.heap /\ ∀ b ∈ fp,H' b = none) E s1) E s
 done:∀ (X:Cx),X.prog = P->X.w = w->X.K = K->X.calm = true->∀ (i:Nat) (pins:List (Addr × Obj)) (s:Shared) (σ:St) (H:Hp) (E:Value->Shared->Prop),Inv X pins σ H s->(∀ b ∈ fp,FpOk X pins H b)->tn i s.heap->J.stop i H ->
  wpAny (model P w) X.A (pyNext (.ref it)) (fun r s1=>r = none /\ Inv X pins σ H s1) E s
 self:∀ (A:Around) (i:Nat) (s:Shared) (Q:Value->Shared->Prop) (E:Value->Shared->Prop),tn i s.heap->Q (.ref it) s->wpAny (model P w) A (pyIter (.ref it)) Q E s
noncomputable abbrev TI:=St->Hp->(It->Hp->Prop)->Prop
noncomputable def PIE (X:Cx) (pins:List (Addr × Obj)) (σ:St) (tg:Expr) (R:It->Hp->Prop) (itv:Value) (s2:Shared):Prop :=
 ∃ (it:Addr) (fp:List Addr) (tn:Nat->Heap->Prop) (J:It) (H':Hp),itv = .ref it /\ Inv X pins σ H' s2 /\ Turn X.prog X.w X.K tg J fp it tn /\ tn 0 s2.heap /\ (∀ b ∈ fp,FpOk X pins H' b) /\ R J H'
noncomputable def PI (X:Cx) (tg iter:Expr) (wi:TI):Prop :=
 ∀ (pins:List (Addr × Obj)) (s:Shared) (σ:St) (H:Hp) (R:It->Hp->Prop),Inv X pins σ H s->wi σ H R ->
  wpAny (model X.prog X.w) X.A (eval iter X.env) (fun v s1=>wpAny (model X.prog X.w) X.A (pyIter v) (PIE X pins σ tg R) X.xe s1) X.xe s
theorem xD4 {M:Model} {A:Around} {E:Value->Shared->Prop} {s:Shared} {tg:Expr} {it:Addr} {u:Value} {o:Obj} {n:String} {vs:Array Value} {Q:Unit->Shared->Prop} (ho:s.heap.get? it = some o) (hc:o.cls = .type n) (hd:o.data = .fields vs)
    (hn:["enumerate","zip","dict_itemiterator","dict_reverseitemiterator","odict_iterator","itertools.zip_longest","itertools.pairwise"].contains n = false) (hQ:Q () s):wpAny M A (letOwnedTupleGo tg (.ref it) u) Q E s:=by
  unfold letOwnedTupleGo
  cases tg <;> first
    | exact wpAny_pure hQ
    | (cases u <;> first
        | exact wpAny_pure hQ
        | (refine wpAny_bind (wpAny_load ho ?_)
           rw [hc,hd]
           show wpAny M A (if (["enumerate","zip","dict_itemiterator","dict_reverseitemiterator","odict_iterator","itertools.zip_longest","itertools.pairwise"].contains n && vs[0]? == some (rawInt _)) = true then _ else _) Q E s
           rw [if_neg (by intro h; rw [hn,Bool.false_and] at h; cases h)]
           exact wpAny_pure hQ))
noncomputable def Itl (K:PySem.W.Frag) (a:Addr):It :=
 ⟨fun i H=>∃ xs x,SqL K H a xs /\ xs[i]? = some x,fun i H x H'=>H' = H /\ ∀ xs,SqL K H a xs->xs[i]? = some x,fun i H=>∃ xs,SqL K H a xs /\ xs.length <= i⟩
noncomputable def Itr (lo:Int) (n:Nat):It:=⟨fun i _=>i < n,fun i H x H'=>H' = H /\ x = .int (lo + i),fun i _=>n <= i⟩
theorem yX1 {P:Program} {w:World} {K:PySem.W.Frag} {tg:Expr} (a it:Addr):Turn P w K tg (Itl K a) [it] it (fun i h=>h.IsListIter it a i) where
 mem:=by simp
 obj:=fun i h st b hb=>by
  have e:b = it:=by simpa using hb
  subst e
  obtain ⟨o,e,c,d⟩:=st
  exact ⟨o,e,fun v z=>by rw [d] at z; cases z⟩
 keep:=fun i h h' st k=>st.at fun o e=>k it (by simp) o e
 item:=by
  intro X hP hw hK hc i pins s σ H E I hf st hg
  subst hP hw hK
  obtain ⟨xs,x,hq,hx⟩:=hg
  obtain ⟨its,rv,p,hz⟩:=I.list hq
  obtain ⟨u,hu,ru⟩:=rv.get hx
  obtain ⟨f0,f1,f2,f3,f4,f5⟩:=hf it (by simp)
  refine wpAny_pyNext_list_item st p.isList (x:=u) (by simpa using hu) fun h' st' sb=>?_
  have I1:Inv X pins σ H { s with heap:=h' }:=I.turned (t':=s.toks) (fun b o hb e=>(sb.2 b hb).trans e) f0 f1 f3 f4 f5
  obtain ⟨o,e,c,d⟩:=id st'
  exact ⟨u,rfl,xD4 (s:={ s with heap:=h' }) e c d (by decide) ⟨x,H,I1,ru,⟨rfl,fun ys hy=>by rw [I.list_inj hy hq]; exact hx⟩,st',fun b hb=>(hf b hb).1⟩⟩
 done:=by
  intro X hP hw hK hc i pins s σ H E I hf st hg
  subst hP hw hK
  obtain ⟨xs,hq,hx⟩:=hg
  obtain ⟨its,rv,p,hz⟩:=I.list hq
  obtain ⟨f0,f1,f2,f3,f4,f5⟩:=hf it (by simp)
  have hl:=rv.length
  exact wpAny_pyNext_list_end (I.ok.hd hc) st p.isList (by simp; omega) fun h' eb=>⟨rfl,I.turned (t':=s.toks) (fun b o hb e=>eb b o hb e) f0 f1 f3 f4 f5⟩
 self:=fun _ _ _ _ _ st h=>wpAny_pyIter_listiter st h
theorem yU9 {P:Program} {w:World} {K:PySem.W.Frag} {tg:Expr} (it:Addr) (lo:Int) (n:Nat):Turn P w K tg (Itr lo n) [it] it (fun i h=>IsRangeIter h it (lo + (i:Nat) * 1) ((n:Int) - (i:Nat)) 1) where
 mem:=by simp
 obj:=fun i h st b hb=>by
  have e:b = it:=by simpa using hb
  subst e
  exact ⟨_,st,fun v z=>by
   have z':Data.fields _ = Data.cell v:=z
   cases z'⟩
 keep:=fun i h h' st k=>k it (by simp) _ st
 item:=by
  intro X hP hw hK hc i pins s σ H E I hf st hg
  subst hP hw hK
  obtain ⟨f0,f1,f2,f3,f4,f5⟩:=hf it (by simp)
  have W:=Walks.range (prog:=X.prog) (w:=X.w) (I.ok.hd hc) it lo 1 n
  refine W.item i s _ _ hg st fun v h' tk hv st' kk=>?_
  obtain ⟨t,rfl⟩:=hv
  have I1:Inv X pins σ H { s with heap:=h',toks:=tk }:=I.turned (fun b o hb e=>kk b o (by simpa using hb) e) f0 f1 f3 f4 f5
  refine ⟨_,rfl,xD4 (s:={ s with heap:=h',toks:=tk }) (n:="range_iterator") st' rfl rfl (by decide) ⟨.int (lo + i),H,I1,⟨t,?_⟩,⟨rfl,rfl⟩,st',fun b hb=>(hf b hb).1⟩⟩
  rw [Int.mul_one]
 done:=by
  intro X hP hw hK hc i pins s σ H E I hf st hg
  subst hP hw hK
  obtain ⟨f0,f1,f2,f3,f4,f5⟩:=hf it (by simp)
  exact wpAny_pyNext_range_end (I.ok.hd hc) st (by have:n <= i:=hg; omega) fun h' eb=>⟨rfl,I.turned (t':=s.toks) (fun b o hb e=>eb b o hb e) f0 f1 f3 f4 f5⟩
 self:=fun _ _ _ _ _ st h=>wpAny_pyIter_rangeiter st h
end L2
namespace L2
open PySem PySem.Spec PyProof.Rows
section
variable {X:Cx} {tg:Expr}
noncomputable def xW0 (K:PySem.W.Frag) (tl:TE):TI:=fun σ H R=>tl σ H fun x H1=>∃ a,x = .ref a /\ (∃ xs,SqL K H1 a xs) /\ R (Itl K a) H1
theorem xP5 {l:Expr} {tl:TE} (hl:PE X l tl):PI X tg l (xW0 X.K tl):=by
 intro pins s σ H R I h
 refine thn (hl pins s σ H _ I h) fun v s1 ⟨x,H1,I1,r1,q1⟩=>?_
 obtain ⟨a,e,⟨xs,hq⟩,q⟩:=q1
 subst e
 cases r1
 obtain ⟨its,rv,p,hz⟩:=I1.list hq
 refine wpAny_pyIter_list p.isList ?_
 refine ⟨s1.heap.objs.size,[s1.heap.objs.size],_,_,H1,rfl,I1.kept (t':=s1.toks) fun b o e=>Heap.get?_push_of_some _ e,yX1 a _,⟨_,Heap.get?_push_size _ rfl,rfl,rfl⟩,fun b hb=>?_,q⟩
 have e:b = s1.heap.objs.size:=by simpa using hb
 subst e
 exact I1.fpOk (Nat.le_refl _) (I1.hok.fresh (Nat.le_refl _))
theorem yR3 {pins:List (Addr × Obj)} {σ:St} {H:Hp} {s:Shared} {R:It->Hp->Prop} {E:Value->Shared->Prop} {lo hi:Int} {t u v:Tok} {tk:Nat} (I:Inv X pins σ H s) (h1:-(2 ^ 62) <= lo) (h2:lo < 2 ^ 62) (h3:-(2 ^ 62) <= hi) (h4:hi < 2 ^ 62)
  (q:R (Itr lo (hi - lo).toNat) H):wpAny (model X.prog X.w) X.A (pyIter (.ref s.heap.objs.size)) (PIE X pins σ tg R) E { s with heap:=s.heap.push { cls:=.type "range",data:=.fields #[.int lo t,.int hi u,.int 1 v] },toks:=tk }:=by
 refine wpAny_pyIter_range (IsRange.new ..) (small_one h1 h2 h3 h4) ?_
 have I1:Inv X pins σ H { s with heap:=s.heap.push { cls:=.type "range",data:=.fields #[.int lo t,.int hi u,.int 1 v] },toks:=tk }:=I.kept fun b o e=>Heap.get?_push_of_some _ e
 refine ⟨(s.heap.push { cls:=.type "range",data:=.fields #[.int lo t,.int hi u,.int 1 v] }).objs.size,[(s.heap.push { cls:=.type "range",data:=.fields #[.int lo t,.int hi u,.int 1 v] }).objs.size],_,_,H,rfl,
  I1.kept (t':=tk) fun b o e=>Heap.get?_push_of_some _ e,yU9 _ lo (hi - lo).toNat,?_,fun b hb=>?_,q⟩
 ·have e1:lo + ((0:Nat):Int) * 1 = lo:=by simp
  have e2:(((hi - lo).toNat:Nat):Int) - ((0:Nat):Int) = Builtin.Range.rangeSize lo hi 1:=by rw [rangeSize_one]; split <;> omega
  show IsRangeIter _ _ (lo + ((0:Nat):Int) * 1) ((((hi - lo).toNat:Nat):Int) - ((0:Nat):Int)) 1
  rw [e1,e2]
  exact Heap.get?_push_size _ rfl
 ·have e:b = (s.heap.push { cls:=.type "range",data:=.fields #[.int lo t,.int hi u,.int 1 v] }).objs.size:=by simpa using hb
  subst e
  exact I1.fpOk (Nat.le_refl _) (I1.hok.fresh (Nat.le_refl _))
noncomputable def wA4 (ta:TA):TI:=fun σ H R=>ta σ H fun vs H1=>∃ j:Int,vs = [.int j] /\ -(2 ^ 62) <= j /\ j < 2 ^ 62 /\ R (Itr 0 j.toNat) H1
noncomputable def wA3 (ta:TA):TI:=fun σ H R=>ta σ H fun vs H1=>∃ i j:Int,vs = [.int i,.int j] /\ (-(2 ^ 62) <= i /\ i < 2 ^ 62 /\ -(2 ^ 62) <= j /\ j < 2 ^ 62) /\ R (Itr i (j - i).toNat) H1
theorem zH3 {a:Expr} {ta:TA} {p pos:Pos} (hg:Gl X "range") (hm:X.mg "range" = none) (ha:PA X [a] ta) (hs:starEach [a] X.env = [(false,eval a X.env)]:=by rfl):PI X tg (.Call (.Name "range" p) [a] [] pos) (wA4 ta):=by
 intro pins s σ H R I h
 refine Call_ (zQ1 I hg hm boot_range (PyProof.Rows.callWith_type1 (thn (ha pos pins s σ H _ I h) fun us s1 ⟨vs,H1,I1,r1,q1⟩=>?_) hs rfl))
 obtain ⟨j,e,q1,q2,q⟩:=q1
 subst e
 cases r1 with
 | cons r rr =>
  cases rr
  obtain ⟨t,rfl⟩:=r
  exact call_range_1 (yR3 I1 (by omega) (by omega) q1 q2 (by simpa using q))
theorem yI4 {a b:Expr} {ta:TA} {p pos:Pos} (hg:Gl X "range") (hm:X.mg "range" = none) (ha:PA X [a,b] ta) (hs:starEach [a,b] X.env = [(false,eval a X.env),(false,eval b X.env)]:=by rfl) (hs2:starEach [b] X.env = [(false,eval b X.env)]:=by rfl) :
  PI X tg (.Call (.Name "range" p) [a,b] [] pos) (wA3 ta):=by
 intro pins s σ H R I h
 refine Call_ (zQ1 I hg hm boot_range (PyProof.Rows.callWith_type1 (thn (ha pos pins s σ H _ I h) fun us s1 ⟨vs,H1,I1,r1,q1⟩=>?_) (by rw [hs,hs2]) (by rw [hs2]; rfl)))
 obtain ⟨i,j,e,⟨q1,q2,q3,q4⟩,q⟩:=q1
 subst e
 cases r1 with
 | cons r rr =>
  cases rr with
  | cons r' rr =>
   cases rr
   obtain ⟨t,rfl⟩:=r
   obtain ⟨t',rfl⟩:=r'
   exact call_range_2 (yR3 I1 q1 q2 q3 q4 q)
noncomputable def tFor (wi:TI) (g:TG) (tb:TS):TS:=fun D σ H=>wi σ H fun J H1=>∃ W:Nat->Nat->St->Hp->Prop,(∃ m,W 0 m σ H1) /\ ∀ i m σ H,W i m σ H ->
 (J.stop i H /\ D.nx σ H) \/ (J.go i H /\ ∃ N:St->Hp->Prop,(∀ σ' H',N σ' H'->∃ m',m' < m /\ W (i + 1) m' σ' H') /\ ∀ x H',J.yld i H x H'->g x σ H' fun σ2 H2=>tb { D with nx:=N,ct:=N,bk:=D.nx } σ2 H2)
noncomputable def yI3 (fp:List Addr) (h:Heap):List (Addr × Obj):=fp.filterMap fun b=>(h.get? b).map fun o=>(b,o)
theorem zP6 {fp:List Addr} {h:Heap} {b:Addr} {o:Obj} (hb:b ∈ fp) (e:h.get? b = some o):(b,o) ∈ yI3 fp h:=List.mem_filterMap.mpr ⟨b,hb,by rw [e]; rfl⟩
theorem xB2 {fp:List Addr} {h:Heap} {p:Addr × Obj} (hp:p ∈ yI3 fp h):p.1 ∈ fp /\ h.get? p.1 = some p.2:=by
 obtain ⟨b,hb,e⟩:=List.mem_filterMap.mp hp
 cases q:h.get? b with
 | none=>rw [q] at e; cases e
 | some o =>
  rw [q] at e
  have e':(b,o) = p:=Option.some.inj e
  subst e'
  exact ⟨hb,q⟩
theorem Inv.pinned {pins:List (Addr × Obj)} {σ:St} {H:Hp} {s:Shared} {fp:List Addr} (I:Inv X pins σ H s) (hf:∀ b ∈ fp,FpOk X pins H b) (ho:∀ b ∈ fp,∃ o,s.heap.get? b = some o /\ ∀ v,o.data ≠ .cell v):Inv X (pins ++ yI3 fp s.heap) σ H s :=
 I.pins_of fun p hp=>(List.mem_append.mp hp).elim (fun z=>I.pin p (List.mem_append_right _ z)) fun z=>by
  obtain ⟨hb,e⟩:=xB2 z
  obtain ⟨f0,f1,f2,_⟩:=hf p.1 hb
  obtain ⟨o,e',d⟩:=ho p.1 hb
  rw [e] at e'; cases e'
  exact ⟨e,f0,f1,f2,d⟩
theorem Inv.unpinned {pins pl:List (Addr × Obj)} {σ:St} {H:Hp} {s:Shared} (I:Inv X (pins ++ pl) σ H s):Inv X pins σ H s:=I.pins_of fun p hp=>I.pin p (List.mem_append_right _ (List.mem_append_left _ hp))
theorem zD6 {iter:Expr} {body:List Stmt} {wi:TI} {g:TG} {tb:TS} {pos:Pos} (hp:PassesOwn (model X.prog X.w) X.A X.env X.xe) (hc:X.calm = true) (hi:PI X tg iter wi) (hg:PG X tg g) (hb:PSs X body tb)
  (hs:∀ x,foldedSetIterable iter X.env x = pure x:=by intro _; rfl):PS X (.For tg iter body [] pos) (tFor wi g tb):=by
 intro pins s σ H D I h
 refine wpAny_For (thn (hi pins s σ H _ I h) fun v s1 h1=>thn h1 fun itv s2 h2=>?_) hs
 obtain ⟨it,fp,tn,J,H2,e,I2,T,st2,f2,W,⟨m0,w0⟩,turn⟩:=h2
 subst e
 have stat:∀ {H':Hp},(∀ b ∈ fp,H' b = none)->∀ b ∈ fp,FpOk X pins H' b:=fun hn b hb=>⟨hn b hb,(f2 b hb).2⟩
 refine codeAny_forLoop_any (fun n s'=>∃ i σ' H',Inv X pins σ' H' s' /\ tn i s'.heap /\ (∀ b ∈ fp,H' b = none) /\ W i n σ' H') ?_ m0 ⟨0,σ,H2,I2,st2,fun b hb=>(f2 b hb).1,w0⟩
 rintro n s3 ⟨i,σ3,H3,I3,st3,fr3,w3⟩
 rcases turn i n σ3 H3 w3 with ⟨stop,qn⟩ | ⟨go,N,hN,step⟩
 ·refine wpAny_passesOwn hp (thn (T.done X rfl rfl rfl hc i pins s3 σ3 H3 X.xe I3 (stat fr3) st3 stop) fun r s4 ⟨hr,I4⟩=>?_)
  subst hr
  exact wpAny_execs_nil ⟨σ3,H3,I4,qn⟩
 ·refine wpAny_passesOwn hp (thn (T.item X rfl rfl rfl hc i pins s3 σ3 H3 X.xe I3 (stat fr3) st3 go) fun r s4 ⟨u,hr,h4⟩=>?_)
  subst hr
  refine wpAny_passesOwn hp (thn h4 fun _ s5 ⟨x,H5,I5,r5,y5,st5,fr5⟩=>?_)
  have I5':=I5.pinned (stat fr5) (T.obj _ _ st5)
  refine wpAny_passesOwn hp (thn (hg _ s5 σ3 H5 x u _ I5' r5 (step x H5 y5)) fun _ s6 ⟨σ6,H6,I6,q6⟩=>?_)
  refine wpAny_passesOwn hp (thn (hb _ s6 σ6 H6 _ I6 q6) fun f s7 q7=>?_)
  have again:∀ {σ7:St} {H7:Hp},Inv X (pins ++ yI3 fp s5.heap) σ7 H7 s7->N σ7 H7->∃ m,m < n /\ ∃ i σ' H',Inv X pins σ' H' s7 /\ tn i s7.heap /\ (∀ b ∈ fp,H' b = none) /\ W i m σ' H':=fun {σ7 H7} I7 n7=>by
   obtain ⟨m',hm,w7⟩:=hN σ7 H7 n7
   refine ⟨m',hm,i + 1,σ7,H7,I7.unpinned,T.keep _ _ _ st5 fun b hb o e=>(I7.pin (b,o) (List.mem_append_right _ (List.mem_append_right _ (zP6 hb e)))).1,fun b hb=>?_,w7⟩
   obtain ⟨o,e,d⟩:=T.obj _ _ st5 b hb
   exact (I7.pin (b,o) (List.mem_append_right _ (List.mem_append_right _ (zP6 hb e)))).2.1
  cases f with
  | next=>obtain ⟨σ7,H7,I7,n7⟩:=q7; exact again I7 n7
  | cont=>obtain ⟨σ7,H7,I7,n7⟩:=q7; exact again I7 n7
  | brk=>obtain ⟨σ7,H7,I7,q7⟩:=q7; exact ⟨σ7,H7,I7.unpinned,q7⟩
  | ret v=>obtain ⟨x7,σ7,H7,I7,r7,q7⟩:=q7; exact ⟨x7,σ7,H7,I7.unpinned,r7,q7⟩
end
theorem zF7 {K:PySem.W.Frag} {a:Addr} {xs:List V} {g:TG} {tb:TS} {D:Ends} {σ:St} {H:Hp} (Pv:Nat->St->Hp->Prop) (h0:Pv 0 σ H) (hl:∀ i σ H,i <= xs.length->Pv i σ H->SqL K H a xs)
  (hs:∀ i x σ H,xs[i]? = some x->Pv i σ H->g x σ H fun σ2 H2=>tb { D with nx:=Pv (i + 1),ct:=Pv (i + 1),bk:=D.nx } σ2 H2) (hd:∀ σ H,Pv xs.length σ H->D.nx σ H) :
  ∃ W:Nat->Nat->St->Hp->Prop,(∃ m,W 0 m σ H) /\ ∀ i m σ H,W i m σ H ->
   ((Itl K a).stop i H /\ D.nx σ H) \/ ((Itl K a).go i H /\ ∃ N:St->Hp->Prop,(∀ σ' H',N σ' H'->∃ m',m' < m /\ W (i + 1) m' σ' H') /\ ∀ x H',(Itl K a).yld i H x H'->g x σ H' fun σ2 H2=>tb { D with nx:=N,ct:=N,bk:=D.nx } σ2 H2):=by
 refine ⟨fun i m σ H=>m = xs.length - i /\ i <= xs.length /\ Pv i σ H,⟨xs.length,by simp,Nat.zero_le _,h0⟩,?_⟩
 rintro i m σ H ⟨rfl,hi,p⟩
 have q:=hl i σ H hi p
 by_cases hlt:i < xs.length
 ·refine .inr ⟨⟨xs,xs[i],q,by simp [hlt]⟩,Pv (i + 1),fun σ' H' p'=>⟨xs.length - (i + 1),by omega,rfl,hlt,p'⟩,fun x H' y=>?_⟩
  obtain ⟨e,y⟩:=y
  subst e
  exact hs i x σ _ (y xs q) p
 ·have e:i = xs.length:=by omega
  subst e
  exact .inl ⟨⟨xs,q,Nat.le_refl _⟩,hd σ H p⟩
theorem zH4 {lo:Int} {n:Nat} {g:TG} {tb:TS} {D:Ends} {σ:St} {H:Hp} (Pv:Nat->St->Hp->Prop) (h0:Pv 0 σ H)
  (hs:∀ i σ H,i < n->Pv i σ H->g (.int (lo + i)) σ H fun σ2 H2=>tb { D with nx:=Pv (i + 1),ct:=Pv (i + 1),bk:=D.nx } σ2 H2) (hd:∀ σ H,Pv n σ H->D.nx σ H) :
  ∃ W:Nat->Nat->St->Hp->Prop,(∃ m,W 0 m σ H) /\ ∀ i m σ H,W i m σ H ->
   ((Itr lo n).stop i H /\ D.nx σ H) \/ ((Itr lo n).go i H /\ ∃ N:St->Hp->Prop,(∀ σ' H',N σ' H'->∃ m',m' < m /\ W (i + 1) m' σ' H') /\ ∀ x H',(Itr lo n).yld i H x H'->g x σ H' fun σ2 H2=>tb { D with nx:=N,ct:=N,bk:=D.nx } σ2 H2):=by
 refine ⟨fun i m σ H=>m = n - i /\ i <= n /\ Pv i σ H,⟨n,by simp,Nat.zero_le _,h0⟩,?_⟩
 rintro i m σ H ⟨rfl,hi,p⟩
 by_cases hlt:i < n
 ·refine .inr ⟨hlt,Pv (i + 1),fun σ' H' p'=>⟨n - (i + 1),by omega,rfl,hlt,p'⟩,fun x H' y=>?_⟩
  obtain ⟨e,y⟩:=y
  subst e y
  exact hs i σ _ hlt p
 ·have e:i = n:=by omega
  subst e
  exact .inl ⟨Nat.le_refl _,hd σ H p⟩
theorem zU5 {c:TT} {tb:TS} {D:Ends} {σ:St} {H:Hp} (Pv:St->Hp->Prop) (μ:St->Hp->Nat) (h0:Pv σ H)
  (hs:∀ σ H,Pv σ H->c σ H fun b H1=>if b = true then tb { D with nx:=fun σ' H'=>Pv σ' H' /\ μ σ' H' < μ σ H,ct:=fun σ' H'=>Pv σ' H' /\ μ σ' H' < μ σ H,bk:=D.nx } σ H1 else D.nx σ H1)
  (mono:∀ σ H Q Q',(∀ b H1,Q b H1->Q' b H1)->c σ H Q->c σ H Q'):xK7 c tb D σ H:=by
 refine ⟨fun m σ H=>m = μ σ H /\ Pv σ H,⟨_,rfl,h0⟩,?_⟩
 rintro m σ H ⟨rfl,p⟩
 refine mono σ H _ _ (fun b H1 q=>?_) (hs σ H p)
 cases b with
 | true=>exact ⟨_,fun σ' H' ⟨p',l⟩=>⟨_,l,rfl,p'⟩,q⟩
 | false=>exact q
end L2
namespace L2
open PySem PySem.Spec PyProof.Rows
noncomputable abbrev R2:=V->V->Hp->VK->Prop
noncomputable def OpR (X:Cx) (f:Value->Value->Sem Value) (r:R2):Prop :=
 ∀ (pins:List (Addr × Obj)) (s:Shared) (σ:St) (H:Hp) (x y:V) (v u:Value) (Q:VK),Inv X pins σ H s->RelV x v->RelV y u->r x y H Q ->
  wpAny (model X.prog X.w) X.A (f v u) (EP X pins σ Q) X.xe s
noncomputable def zO3 (X:Cx) (f:Value) (r:List V->Hp->VK->Prop):Prop :=
 ∀ (pins:List (Addr × Obj)) (s:Shared) (σ:St) (H:Hp) (xs:List V) (us:List Value) (Q:VK),Inv X pins σ H s->Vals xs us->r xs H Q ->
  wpAny (model X.prog X.w) X.A (call f us) (EP X pins σ Q) X.xe s
noncomputable def tOp (r:R2) (ta tb:TE):TE:=fun σ H Q=>ta σ H fun x H1=>tb σ H1 fun y H2=>r x y H2 Q
noncomputable def rI (C:Int->Int->Prop) (g:Int->Int->V):R2:=fun x y H Q=>∃ i j,x = .int i /\ y = .int j /\ C i j /\ Q (g i j) H
noncomputable def rI0 (g:Int->Int->V):R2:=fun x y H Q=>∃ i j,x = .int i /\ y = .int j /\ Q (g i j) H
section
variable {X:Cx} {a b c:Expr} {ta tb tc:TE} {pos:Pos}
theorem binT (ha:PE X a ta) (hb:PE X b tb) {pins:List (Addr × Obj)} {s:Shared} {σ:St} {H:Hp} {R:V->V->Hp->Prop} (I:Inv X pins σ H s)
  (h:ta σ H fun x H1=>tb σ H1 fun y H2=>R x y H2) {Q:Value->Shared->Prop} {f:Value->Value->Sem Value}
  (hf:∀ v u s2 x y H2,Inv X pins σ H2 s2->RelV x v->RelV y u->R x y H2->wpAny (model X.prog X.w) X.A (f v u) Q X.xe s2) :
  wpAny (model X.prog X.w) X.A (eval a X.env) (fun v s₁=>wpAny (model X.prog X.w) X.A (eval b X.env) (fun u s₂=>wpAny (model X.prog X.w) X.A (f v u) Q X.xe s₂) X.xe s₁) X.xe s:=by
 refine thn (ha pins s σ H _ I h) fun v s1 ⟨x,H1,I1,r1,q1⟩=>?_
 refine thn (hb pins s1 σ H1 _ I1 q1) fun u s2 ⟨y,H2,I2,r2,q2⟩=>?_
 exact hf v u s2 x y H2 I2 r1 r2 q2
theorem zB6 {op:Operator} {r:R2} (ho:OpR X (binaryOp op) r) (ha:PE X a ta) (hb:PE X b tb):PE X (.BinOp a op b pos) (tOp r ta tb):=by
 intro pins s σ H Q I h
 exact wpAny_BinOp (binT ha hb I h fun v u s2 x y H2 I2 rx ry q=>ho pins s2 σ H2 x y v u Q I2 rx ry q)
theorem opI {f:Value->Value->Sem Value} {C:Int->Int->Prop} {g:Int->Int->Int}
  (rule:∀ (i j:Int) (t u:Tok) (s:Shared) (Q:Value->Shared->Prop) (E:Value->Shared->Prop),C i j->Q (.int (g i j) s.toks) { s with toks:=s.toks + 1 }->wpAny (model X.prog X.w) X.A (f (.int i t) (.int j u)) Q E s) :
  OpR X f (rI C fun i j=>.int (g i j)):=by
 intro pins s σ H x y v u Q I rx ry h
 obtain ⟨i,j,rfl,rfl,hc,q⟩:=h
 obtain ⟨t,rfl⟩:=rx
 obtain ⟨t',rfl⟩:=ry
 exact rule i j t t' s _ _ hc ⟨.int (g i j),H,I.tok _,⟨_,rfl⟩,q⟩
theorem opI0 {f:Value->Value->Sem Value} {g:Int->Int->Int}
  (rule:∀ (i j:Int) (t u:Tok) (s:Shared) (Q:Value->Shared->Prop) (E:Value->Shared->Prop),Q (.int (g i j) s.toks) { s with toks:=s.toks + 1 }->wpAny (model X.prog X.w) X.A (f (.int i t) (.int j u)) Q E s) :
  OpR X f (rI0 fun i j=>.int (g i j)):=by
 intro pins s σ H x y v u Q I rx ry h
 obtain ⟨i,j,rfl,rfl,q⟩:=h
 obtain ⟨t,rfl⟩:=rx
 obtain ⟨t',rfl⟩:=ry
 exact rule i j t t' s _ _ ⟨.int (g i j),H,I.tok _,⟨_,rfl⟩,q⟩
theorem opB0 {f:Value->Value->Sem Value} {g:Int->Int->Bool}
  (rule:∀ (i j:Int) (t u:Tok) (s:Shared) (Q:Value->Shared->Prop) (E:Value->Shared->Prop),Q (.bool (g i j)) s->wpAny (model X.prog X.w) X.A (f (.int i t) (.int j u)) Q E s) :
  OpR X f (rI0 fun i j=>.bl (g i j)):=by
 intro pins s σ H x y v u Q I rx ry h
 obtain ⟨i,j,rfl,rfl,q⟩:=h
 obtain ⟨t,rfl⟩:=rx
 obtain ⟨t',rfl⟩:=ry
 exact rule i j t t' s _ _ ⟨.bl (g i j),H,I,rfl,q⟩
noncomputable def CPow (i j:Int):Prop:=0 <= j /\ j <= 1000000 /\ i.natAbs < 2 ^ 64
theorem zJ1:OpR X (binaryOp .Add) (rI0 fun i j=>.int (i + j)):=opI0 fun _ _ _ _ _ _ _ q=>add_int q
theorem yI6:OpR X (binaryOp .Sub) (rI0 fun i j=>.int (i - j)):=opI0 fun _ _ _ _ _ _ _ q=>sub_int q
theorem zE0:OpR X (binaryOp .Mod) (rI (fun _ j=>j ≠ 0) fun i j=>.int (i.fmod j)):=opI fun _ _ _ _ _ _ _ hc q=>mod_int' hc q
theorem yI7:OpR X (binaryOp .Pow) (rI CPow fun i j=>.int (i ^ j.toNat)):=opI fun _ _ _ _ _ _ _ hc q=>pow_int_small hc.1 hc.2.1 hc.2.2 q
end
noncomputable def scal:V->V->Bool
 | .non,.non=>true | .non,.int _=>true | .int _,.non=>true | .non,.bl _=>true | .bl _,.non=>true | .non,.str _=>true | .str _,.non=>true
 | .int _,.int _=>true | .bl _,.bl _=>true | .str _,.str _=>true | .byt _,.byt _=>true
 | .int _,.str _=>true | .str _,.int _=>true | .bl _,.str _=>true | .str _,.bl _=>true
 | _,_=>false
noncomputable def rEq:R2:=fun x y H Q=>scal x y = true /\ Q (.bl (decide (x = y))) H
noncomputable def rNe:R2:=fun x y H Q=>scal x y = true /\ Q (.bl (!decide (x = y))) H
theorem xE7 {i j:Int}:decide (V.int i = V.int j) = (i == j):=by
 rw [Bool.eq_iff_iff]
 simp
theorem xN3 {i j:Bool}:decide (V.bl i = V.bl j) = (i == j):=by
 rw [Bool.eq_iff_iff]
 simp
theorem xE6 {i j:Str}:decide (V.str i = V.str j) = (i == j):=by
 rw [Bool.eq_iff_iff]
 simp
theorem xE8 {i j:Array UInt8}:decide (V.byt i = V.byt j) = (i.toList == j.toList):=by
 rw [Bool.eq_iff_iff]
 cases i
 cases j
 simp
section
variable {X:Cx} {a b c:Expr} {ta tb tc:TE} {pos:Pos}
theorem zE4 {pins:List (Addr × Obj)} {σ:St} {H:Hp} {s:Shared} {Q:VK} {k k':Bool} (I:Inv X pins σ H s) (q:Q (.bl k) H) (e:k = k'):EP X pins σ Q (.bool k') s:=by
 subst e
 exact ⟨.bl k,H,I,rfl,q⟩
theorem zT0:OpR X (compareOp .Eq) rEq:=by
 intro pins s σ H x y v u Q I rx ry h
 obtain ⟨hs,q⟩:=h
 cases x with
 | non =>
  cases rx
  cases y with
  | non=>cases ry; exact PySem.EqNone.eq_none_none (zE4 I q (by simp))
  | bl j=>cases ry; exact PySem.EqNone.eq_none_bool (zE4 I q (by simp))
  | int j=>obtain ⟨t',rfl⟩:=ry; exact PySem.EqNone.eq_none_int (zE4 I q (by simp))
  | str j=>obtain ⟨t',rfl⟩:=ry; exact PySem.EqNone.eq_none_str (zE4 I q (by simp))
  | _=>exact absurd (show false = true from hs) Bool.false_ne_true
 | bl i =>
  cases rx
  cases y with
  | non=>cases ry; exact PySem.EqNone.eq_bool_none (zE4 I q (by simp))
  | bl j=>cases ry; exact eq_bool (zE4 I q xN3)
  | str j=>obtain ⟨t',rfl⟩:=ry; exact PySem.EqMixed.eq_bool_str (zE4 I q (by simp))
  | _=>exact absurd (show false = true from hs) Bool.false_ne_true
 | int i =>
  obtain ⟨t,rfl⟩:=rx
  cases y with
  | non=>cases ry; exact PySem.EqNone.eq_int_none (zE4 I q (by simp))
  | int j=>obtain ⟨t',rfl⟩:=ry; exact eq_int (zE4 I q xE7)
  | str j=>obtain ⟨t',rfl⟩:=ry; exact PySem.EqMixed.eq_int_str (zE4 I q (by simp))
  | _=>exact absurd (show false = true from hs) Bool.false_ne_true
 | str i =>
  obtain ⟨t,rfl⟩:=rx
  cases y with
  | non=>cases ry; exact PySem.EqNone.eq_str_none (zE4 I q (by simp))
  | bl j=>cases ry; exact PySem.EqMixed.eq_str_bool (zE4 I q (by simp))
  | int j=>obtain ⟨t',rfl⟩:=ry; exact PySem.EqMixed.eq_str_int (zE4 I q (by simp))
  | str j=>obtain ⟨t',rfl⟩:=ry; exact eq_str (zE4 I q xE6)
  | _=>exact absurd (show false = true from hs) Bool.false_ne_true
 | byt i =>
  obtain ⟨t,rfl⟩:=rx
  cases y with
  | byt j=>obtain ⟨t',rfl⟩:=ry; exact PySem.W.eq_bytes (zE4 I q xE8)
  | _=>exact absurd (show false = true from hs) Bool.false_ne_true
 | _=>cases y <;> exact absurd (show false = true from hs) Bool.false_ne_true
theorem yV7:OpR X (compareOp .NotEq) rNe:=by
 intro pins s σ H x y v u Q I rx ry h
 obtain ⟨hs,q⟩:=h
 cases x with
 | non =>
  cases rx
  cases y with
  | non=>cases ry; exact PySem.EqNone.ne_none_none (zE4 I q (by simp))
  | bl j=>cases ry; exact PySem.EqNone.ne_none_bool (zE4 I q (by simp))
  | int j=>obtain ⟨t',rfl⟩:=ry; exact PySem.EqNone.ne_none_int (zE4 I q (by simp))
  | str j=>obtain ⟨t',rfl⟩:=ry; exact PySem.EqNone.ne_none_str (zE4 I q (by simp))
  | _=>exact absurd (show false = true from hs) Bool.false_ne_true
 | bl i =>
  cases rx
  cases y with
  | non=>cases ry; exact PySem.EqNone.ne_bool_none (zE4 I q (by simp))
  | bl j=>cases ry; exact ne_bool (zE4 I q (congrArg not xN3))
  | str j=>obtain ⟨t',rfl⟩:=ry; exact PySem.EqMixed.ne_bool_str (zE4 I q (by simp))
  | _=>exact absurd (show false = true from hs) Bool.false_ne_true
 | int i =>
  obtain ⟨t,rfl⟩:=rx
  cases y with
  | non=>cases ry; exact PySem.EqNone.ne_int_none (zE4 I q (by simp))
  | int j=>obtain ⟨t',rfl⟩:=ry; exact ne_int (zE4 I q (congrArg not xE7))
  | str j=>obtain ⟨t',rfl⟩:=ry; exact PySem.EqMixed.ne_int_str (zE4 I q (by simp))
  | _=>exact absurd (show false = true from hs) Bool.false_ne_true
 | str i =>
  obtain ⟨t,rfl⟩:=rx
  cases y with
  | non=>cases ry; exact PySem.EqNone.ne_str_none (zE4 I q (by simp))
  | bl j=>cases ry; exact PySem.EqMixed.ne_str_bool (zE4 I q (by simp))
  | int j=>obtain ⟨t',rfl⟩:=ry; exact PySem.EqMixed.ne_str_int (zE4 I q (by simp))
  | str j=>obtain ⟨t',rfl⟩:=ry; exact ne_str (zE4 I q (congrArg not xE6))
  | _=>exact absurd (show false = true from hs) Bool.false_ne_true
 | byt i =>
  obtain ⟨t,rfl⟩:=rx
  cases y with
  | byt j=>obtain ⟨t',rfl⟩:=ry; exact PySem.W.ne_bytes (zE4 I q (congrArg not xE8))
  | _=>exact absurd (show false = true from hs) Bool.false_ne_true
 | _=>cases y <;> exact absurd (show false = true from hs) Bool.false_ne_true
theorem xH5:OpR X (compareOp .Lt) (rI0 fun i j=>.bl (decide (i < j))):=opB0 fun _ _ _ _ _ _ _ q=>lt_int q
theorem xZ7:OpR X (compareOp .LtE) (rI0 fun i j=>.bl (decide (i <= j))):=opB0 fun _ _ _ _ _ _ _ q=>le_int q
theorem xH6:OpR X (compareOp .Gt) (rI0 fun i j=>.bl (decide (j < i))):=opB0 fun _ _ _ _ _ _ _ q=>gt_int q
theorem xZ8:OpR X (compareOp .GtE) (rI0 fun i j=>.bl (decide (j <= i))):=opB0 fun _ _ _ _ _ _ _ q=>ge_int q
theorem zD3 (b:Expr) {op:CmpOp} (h:op ≠ .In:=by decide) (h2:op ≠ .NotIn:=by decide):behindInMarks op b = false:=by
 have e1:(op == CmpOp.In) = false:=by cases op <;> first | rfl | exact absurd rfl h
 have e2:(op == CmpOp.NotIn) = false:=by cases op <;> first | rfl | exact absurd rfl h2
 cases b <;> simp [behindInMarks,e1,e2]
theorem yM8 {op:CmpOp} {r:R2} (ho:OpR X (compareOp op) r) (ha:PE X a ta) (hb:PE X b tb) (hm:behindInMarks op b = false):PE X (.Compare a [op] [b] pos) (tOp r ta tb):=by
 intro pins s σ H Q I h
 exact wpAny_Compare1 (binT ha hb I h fun v u s2 x y H2 I2 rx ry q=>ho pins s2 σ H2 x y v u Q I2 rx ry q) hm
noncomputable def xY5 (t:TE):TT:=fun σ H Q=>t σ H fun x H'=>∃ k,x = .bl k /\ Q k H'
theorem zC1 {op:CmpOp} {r:R2} (ho:OpR X (compareOp op) r) (ha:PE X a ta) (hb:PE X b tb) (hm:behindInMarks op b = false):PT X (.Compare a [op] [b] pos) (xY5 (tOp r ta tb)):=by
 intro pins s σ H Q I h
 refine wpAny_isTrue_Compare1 (thn (ha pins s σ H _ I h) fun v s1 ⟨x,H1,I1,r1,q1⟩=>thn (hb pins s1 σ H1 _ I1 q1) fun u s2 ⟨y,H2,I2,r2,q2⟩ =>
  thn (ho pins s2 σ H2 x y v u _ I2 r1 r2 q2) fun c s3 ⟨z,H3,I3,r3,k,e,q3⟩=>?_) hm
 subst e
 cases r3
 exact wpAny_truthy_bool ⟨H3,I3,q3⟩
theorem yJ3:(sizeLine:Nat) < 2 ^ 63:=by rw [sizeLine_eq]; decide
theorem yV8:OpR X (binaryOp .Add) (fun x y H Q=>∃ i j,x = .str i /\ y = .str j /\ i.length + j.length <= sizeLine /\ Q (.str (i ++ j)) H):=by
 intro pins s σ H x y v u Q I rx ry h
 obtain ⟨i,j,rfl,rfl,hz,q⟩:=h
 obtain ⟨t,rfl⟩:=rx
 obtain ⟨t',rfl⟩:=ry
 exact add_str (fun t' tk=>⟨.str (i ++ j),H,I.tok _,⟨_,rfl⟩,q⟩) hz
theorem zU3 {x:V} {us:List Value} (r:Vals [x] us):∃ u,us = [u] /\ RelV x u:=by
 cases r with
 | cons r1 r2=>cases r2; exact ⟨_,rfl,r1⟩
theorem xO0 {x y:V} {us:List Value} (r:Vals [x,y] us):∃ u w',us = [u,w'] /\ RelV x u /\ RelV y w':=by
 cases r with
 | cons r1 r2 =>
  cases r2 with
  | cons r3 r4=>cases r4; exact ⟨_,_,rfl,r1,r3⟩
theorem yU2:zO3 X (.builtin "abs") (fun xs H Q=>∃ i,xs = [.int i] /\ Q (.int (if i < 0 then -i else i)) H):=by
 intro pins s σ H xs us Q I r h
 obtain ⟨i,rfl,q⟩:=h
 obtain ⟨u,rfl,t,rfl⟩:=zU3 r
 exact call_abs_int fun u tk=>⟨.int (if i < 0 then -i else i),H,I.tok _,⟨_,rfl⟩,q⟩
noncomputable def LenV (K:PySem.W.Frag) (x:V) (H:Hp) (n:Nat):Prop :=
 match x with
 | .str y=>y.length <= sizeLine /\ n = y.length
 | .byt y=>y.size <= sizeLine /\ n = y.size
 | .ref p=>(∃ xs,SqL K H p xs /\ n = xs.length) \/ ∃ xs,SqT K H p xs /\ n = xs.length
 | _=>False
theorem xJ7:zO3 X (.builtin "len") (fun xs H Q=>∃ x n,xs = [x] /\ LenV X.K x H n /\ Q (.int n) H):=by
 intro pins s σ H xs us Q I r h
 obtain ⟨x,n,rfl,e,q⟩:=h
 obtain ⟨u,rfl,rx⟩:=zU3 r
 have hl:=yJ3
 have hs:sizeLine = 16777216:=sizeLine_eq
 cases x with
 | str y =>
  obtain ⟨t,rfl⟩:=rx
  obtain ⟨hy,e'⟩:y.length <= sizeLine /\ n = y.length:=e
  subst e'
  exact len_str (by omega) ⟨.int _,H,I.tok _,⟨_,rfl⟩,q⟩
 | byt y =>
  obtain ⟨t,rfl⟩:=rx
  obtain ⟨hy,e'⟩:y.size <= sizeLine /\ n = y.size:=e
  subst e'
  exact PySem.W.len_bytes (by omega) ⟨.int _,H,I.tok _,⟨_,rfl⟩,q⟩
 | ref p =>
  cases rx
  have e':(∃ xs,SqL X.K H p xs /\ n = xs.length) \/ ∃ xs,SqT X.K H p xs /\ n = xs.length:=e
  rcases e' with ⟨xs,hx,e'⟩ | ⟨xs,hx,e'⟩
  ·subst e'
   obtain ⟨its,r',pl,hz⟩:=I.list hx
   have hlen:=r'.length
   exact Calls.call_len_list pl.isList (by simp only [List.size_toArray]; omega) ⟨.int xs.length,H,I.tok _,⟨_,by simp only [List.size_toArray]; rw [hlen]⟩,q⟩
  ·subst e'
   obtain ⟨its,r',pl,hz⟩:=I.tuple hx
   have hlen:=r'.length
   exact len_tuple pl (by simp only [List.size_toArray]; omega) ⟨.int xs.length,H,I.tok _,⟨_,by simp only [List.size_toArray]; rw [hlen]⟩,q⟩
 | _=>exact (show False from e).elim
end
end L2
namespace L2
open PySem PySem.Spec PyProof.Rows
structure ObjM (h:Heap) (x dx C:Addr) (mA:Str->Option Value):Prop where
 obj:h.get? x = some (PySem.W.instObj C dx)
 ns:h.Ns1 dx mA
 ne:dx ≠ x
theorem xC1 {h:Heap} {dx:Addr} {mA:Str->Option Value} (n:h.Ns1 dx mA):∃ od,h.get? dx = some od /\ ∀ name,PySem.W.lookIn name od = some (mA name):=by
 obtain ⟨o,es,ep,ho,hd,hk,_,hm⟩:=n
 refine ⟨o,ho,fun name=>?_⟩
 have e:=hm name
 unfold nsFind findBy at e
 rw [<- Array.find?_toList] at e
 unfold PySem.W.lookIn
 rw [hd]
 dsimp only
 split
 ·rename_i y q
  rw [q] at e
  exact congrArg some e
 ·rename_i q
  rw [q] at e
  have a:es.toList.any (·.refKey) = false:=by
   rw [List.any_eq_false]
   intro y hy
   obtain ⟨z,t,hkey⟩:=hk y (Array.mem_toList_iff.mp hy)
   simp [DictEntry.refKey,hkey]
  have a':¬ es.toList.any (·.refKey) = true:=by rw [a]; exact Bool.false_ne_true
  rw [if_neg a']
  exact congrArg some e
theorem ObjM.look {h:Heap} {x dx C:Addr} {mA:Str->Option Value} (I:ObjM h x dx C mA):∃ od,PySem.W.InstAt h x (PySem.W.instObj C dx) C (some od) /\ ∀ name,PySem.W.lookIn name od = some (mA name) :=
 let ⟨od,ho,hl⟩:=xC1 I.ns
 ⟨od,⟨I.obj,rfl,rfl,ho⟩,hl⟩
section
variable {prog:Program} {w:World} {A:Around} {E:Value->Shared->Prop} {s:Shared} {K:PySem.W.Frag} {x dx C f:Addr} {mA:Str->Option Value} {name:Str} {v:Value}
end
theorem RelO.some_of {v:V} {o:Option Value} (r:RelO (some v) o):∃ u,o = some u /\ RelV v u:=by
 cases o with
 | none=>exact (show False from r).elim
 | some u=>exact ⟨u,rfl,r⟩
section
variable {P:Program} {w:World} {H H':Hp} {h h':Heap} {a C dx:Addr} {fs fs':List (Str × V)}
theorem xQ8 (hok:HOk P w H h) (e:H a = some (.ins C dx fs)):∃ mA,ObjM h a dx C mA /\ (∀ f,RelO (fs.lookup f) (mA f)) /\ PySem.Within mA (fs.map (·.1)) /\ fs.length <= 1000 /\ H dx = some (.own a):=by
 obtain ⟨d,z,ne,ob,mA,n,r,q⟩:=(show ObjOk P w H h a (.ins C dx fs) from hok a _ e)
 exact ⟨mA,⟨ob,n,ne⟩,r,q,z,d⟩
end
structure Cls (K:PySem.W.Frag) (C:Addr):Prop where
 pg:PySem.W.plainGet K C Str.empty = true
 hd:PySem.W.hasDictIn K C = true
 po:PySem.W.plainOver K C = true
 sa:PySem.W.findIn K (.ref C) "__setattr__" = some (some (.builtin "object.__setattr__"))
theorem Cls.get {K:PySem.W.Frag} {C:Addr} (c:Cls K C) (f:Str):PySem.W.plainGet K C f = true:=c.pg
section
variable {X:Cx} {pins:List (Addr × Obj)} {σ:St} {H:Hp} {s:Shared} {a C dx:Addr} {fs:List (Str × V)} {f:Str} {v:V} {A:Around} {E:Value->Shared->Prop}
end
section
variable {X:Cx} {o e value:Expr} {f:Str} {pos pos' tpos:Pos} {ta tv:TE}
end
section
variable {X:Cx} {pins:List (Addr × Obj)} {σ:St} {H:Hp} {s:Shared} {A:Around} {E:Value->Shared->Prop} {Q:Value->Shared->Prop} {c:Value} {b:Bool}
inductive TyOf (K:PySem.W.Frag) (H:Hp):V->Value->Prop where
 | non:TyOf K H .non (.type "NoneType")
 | bl (x:Bool):TyOf K H (.bl x) (.type "bool")
 | int (i:Int):TyOf K H (.int i) (.type "int")
 | str (x:Str):TyOf K H (.str x) (.type "str")
 | flt (x:UInt64):TyOf K H (.flt x) (.type "float")
 | lst {a:Addr} {xs:List V} (e:H a = some (.lst xs)):TyOf K H (.ref a) (.type "list")
 | frz {a:Addr} {o:Obj} {xs:List V} (e:H a = some (.frz o (.lst xs))):TyOf K H (.ref a) (.type "list")
 | tup {a:Addr} {xs:List V} (e:H a = some (.tup xs)):TyOf K H (.ref a) (.type "tuple")
 | dK {a:Addr} {kvs:List (Key × V)} (e:H a = some (.dK kvs)):TyOf K H (.ref a) (.type "dict")
 | dT {a:Addr} {kvs:List (List Key × V)} (e:H a = some (.dT kvs)):TyOf K H (.ref a) (.type "dict")
 | ins {a C dx:Addr} {fs:List (Str × V)} (e:H a = some (.ins C dx fs)) (cl:Cls K C) (ha:PySem.W.findIn K (.ref C) "__class__" = some (some (.builtin "object.__class__")))
   (hn:PySem.W.specialIn K (.builtin "object.__class__") "__get__" = some (some (.builtin "getset_descriptor.__get__"))) (htk:PySem.W.takesIn K (.builtin "object.__class__") = some true)
   (hm:PySem.W.mroIn K C (.type "object") = some true):TyOf K H (.ref a) (.ref C)
theorem xC9 {x:V} {u t:Value} (I:Inv X pins σ H s) (rx:RelV x u) (ty:TyOf X.K H x t) (e:PySem.W.kitOne X.K t c = some b) (h:∀ tk,Q (.bool b) { s with toks:=tk }) :
  wpAny (model X.prog X.w) A (call (.builtin "isinstance") [u,c]) Q E s:=by
 cases ty with
 | non=>cases (show u = Value.none from rx); exact PySem.W.kia_one PySem.W.kitx_none I.kIn True.intro e (fun z=>nomatch z) h
 | bl y=>cases (show u = Value.bool y from rx); exact PySem.W.kia_one PySem.W.kitx_bool I.kIn True.intro e (fun z=>nomatch z) h
 | int i=>obtain ⟨t,q⟩:=(show ∃ t,u = Value.int i t from rx); cases q; exact PySem.W.kia_one PySem.W.kitx_int I.kIn True.intro e (fun z=>nomatch z) h
 | str y=>obtain ⟨t,q⟩:=(show ∃ t,u = Value.str y t from rx); cases q; exact PySem.W.kia_one PySem.W.kitx_str I.kIn True.intro e (fun z=>nomatch z) h
 | flt y=>obtain ⟨t,q⟩:=(show ∃ t,u = Value.float y t from rx); cases q; exact PySem.W.kia_one PySem.W.kitx_float I.kIn True.intro e (fun z=>nomatch z) h
 | @lst a xs ea =>
  cases (show u = Value.ref a from rx)
  obtain ⟨_,_,n,_,h1⟩:=(show ObjOk X.prog X.w H s.heap a (.lst xs) from I.hok a _ ea)
  exact PySem.W.kia_one PySem.W.kitx_list I.kIn ⟨_,h1,rfl⟩ e (fun z=>nomatch z) h
 | @frz a ob xs ea =>
  cases (show u = Value.ref a from rx)
  obtain ⟨_,_,_,n,_,h1⟩:=(show ObjOk X.prog X.w H s.heap a (.frz ob (.lst xs)) from I.hok a _ ea)
  exact PySem.W.kia_one PySem.W.kitx_list I.kIn ⟨_,h1,rfl⟩ e (fun z=>nomatch z) h
 | @tup a xs ea =>
  cases (show u = Value.ref a from rx)
  obtain ⟨_,_,_,p⟩:=(show ObjOk X.prog X.w H s.heap a (.tup xs) from I.hok a _ ea)
  obtain ⟨o,h1,h2,_⟩:=p
  exact PySem.W.kia_one PySem.W.kitx_tuple I.kIn ⟨o,h1,h2⟩ e (fun z=>nomatch z) h
 | @dK a kvs ea =>
  cases (show u = Value.ref a from rx)
  obtain ⟨_,_,vs,_,p⟩:=(show ObjOk X.prog X.w H s.heap a (.dK kvs) from I.hok a _ ea)
  obtain ⟨o,es,ep,h1,h2,_⟩:=p
  exact PySem.W.kia_one PySem.W.kitx_dict I.kIn ⟨o,h1,h2.1⟩ e (fun z=>nomatch z) h
 | @dT a kvs ea =>
  cases (show u = Value.ref a from rx)
  obtain ⟨_,_,xs,_,o,es,ep,h1,h2,_⟩:=(show ObjOk X.prog X.w H s.heap a (.dT kvs) from I.hok a _ ea)
  exact PySem.W.kia_one PySem.W.kitx_dict I.kIn ⟨o,h1,h2.1⟩ e (fun z=>nomatch z) h
 | @ins a C dx fs ea cl ha hn htk hm =>
  cases (show u = Value.ref a from rx)
  obtain ⟨mA,O,_⟩:=xQ8 I.hok ea
  obtain ⟨od,J,_⟩:=O.look
  exact PySem.W.kia_one (PySem.W.kitx_own (cl.get _) cl.hd ha hn htk hm) I.kIn J e (fun z=>nomatch z) h
end
end L2
namespace L2
open PySem PySem.Spec PyProof.Rows
structure Room (k:Nat) (A:Around):Prop where
 hd:A.handled = none
 dp:A.depth + 3 * k + 5 < recursionLimit
 un:A.units + 16 * k + 200 < cLine
theorem Room.mono {j k:Nat} {A:Around} (r:Room k A) (h:j <= k):Room j A:=⟨r.hd,by have:=r.dp; omega,by have:=r.un; omega⟩
theorem Room.deeper {k:Nat} {A:Around} (r:Room (k + 1) A) (env:Env):Room k (A.deeper env) :=
 ⟨r.hd,by have:=r.dp; show A.depth + 1 + 3 * k + 5 < _; omega,by have:=r.un; show A.units + 3 + 16 * k + 200 < _; omega⟩
theorem Room.depth {k:Nat} {A:Around} (r:Room k A):A.depth < recursionLimit:=by have:=r.dp; omega
theorem Room.units {k:Nat} {A:Around} (r:Room k A):A.units + 64 < cLine:=by have:=r.un; omega
noncomputable def tNil:TA:=fun _ H Q=>Q [] H
noncomputable def xO3 (ta:TE) (tr:TA):TA:=fun σ H Q=>ta σ H fun x H1=>tr σ H1 fun xs H2=>Q (x :: xs) H2
section
variable {X:Cx} {e:Expr} {es:List Expr} {te:TE} {t:TA} {pos:Pos}
theorem zA3:PA X [] tNil:=fun _ _ _ _ H Q I h=>Calls.spliced_nil ⟨[],H,I,.nil,h⟩
theorem zA0 (ha:PE X e te) (hr:PA X es t) (hs:starEach (e :: es) X.env = (false,eval e X.env) :: starEach es X.env:=by rfl):PA X (e :: es) (xO3 te t):=by
 intro pos pins s σ H Q I h
 rw [hs]
 show wpAny _ _ (spliced ((false,eval e X.env) :: backTo pos (starEach es X.env))) _ _ s
 refine Calls.spliced_cons (thn (ha pins s σ H _ I h) fun u s1 ⟨x,H1,I1,r1,q1⟩=>?_)
 exact thn (hr pos pins s1 σ H1 _ I1 q1) fun us s2 ⟨xs,H2,I2,r2,q2⟩=>⟨x :: xs,H2,I2,.cons r1 r2,q2⟩
noncomputable def tTup (t:TA):TE:=fun σ H Q=>t σ H fun xs H1=>xs.length <= sizeLine /\ ∀ p,H1 p = none->Q (.ref p) (upd H1 p (.tup xs))
noncomputable def tLst (t:TA):TE:=fun σ H Q=>t σ H fun xs H1=>xs.length <= sizeLine /\ ∀ p,H1 p = none->Q (.ref p) (upd H1 p (.lst xs))
theorem zC3 {x1} (h:PA X es t):PE X (.Tuple es x1 pos) (tTup t):=by
 intro pins s σ H Q I hq
 refine wpAny_Tuple_spliced (thn (h pos pins s σ H _ I hq) fun us s1 ⟨xs,H1,I1,r,z,q⟩=>⟨by rw [<- r.length]; exact z,?_⟩)
 have hf:H1 s1.heap.objs.size = none:=I1.hok.fresh (Nat.le_refl _)
 refine ⟨.ref s1.heap.objs.size,upd H1 s1.heap.objs.size (.tup xs),I1.laid (t':=s1.toks) (fun b u e=>Heap.get?_push_of_some _ e) (Nat.le_refl _) ?_,rfl,q _ hf⟩
 exact ⟨z,us,r,⟨_,Heap.get?_push_size _ rfl,rfl,_,rfl⟩⟩
theorem zK8 (h:PA X es t):PE X (.List es pos) (tLst t):=by
 intro pins s σ H Q I hq
 refine wpAny_List_spliced (thn (h pos pins s σ H _ I hq) fun us s1 ⟨xs,H1,I1,r,z,q⟩=>⟨by rw [<- r.length]; exact z,?_⟩)
 have hf:H1 s1.heap.objs.size = none:=I1.hok.fresh (Nat.le_refl _)
 refine ⟨.ref s1.heap.objs.size,upd H1 s1.heap.objs.size (.lst xs),I1.laid (t':=s1.toks) (fun b u e=>Heap.get?_push_of_some _ e) (Nat.le_refl _) ?_,rfl,q _ hf⟩
 exact ⟨z,us,0,r,Heap.get?_push_size _ rfl⟩
end
noncomputable abbrev Sp:=List V->Hp->VK->XK->Prop
noncomputable abbrev CXT:=List Env->Hp->Shared->XK->Value->Shared->Prop
structure Env0 (P:Program) (w:World) (K:PySem.W.Frag) (mg:Str->Option Value) (base:Heap) (A:Around) (outer:List Env) (s:Shared) (H:Hp):Prop where
 frames:A.frames = some outer
 mod:Mod K mg base
 bs:∀ b o,base.get? b = some o->s.heap.get? b = some o /\ H b = none
 bsz:base.objs.size <= s.heap.objs.size
 funs:s.heap.FunFrames base outer
 frf:∀ b ∈ frs outer,H b = none
 hok:HOk P w H s.heap
 bare:AllBare s.gens
noncomputable def CE (outer:List Env) (P:Program) (w:World) (H:Hp) (s:Shared) (Q:VK) (u:Value) (s':Shared):Prop :=
 ∃ v H',s'.os = s.os /\ AllBare s'.gens /\ Un (frs outer) [] H H' s.heap s'.heap /\ HOk P w H' s'.heap /\ RelV v u /\ Q v H'
noncomputable def CR (CX:CXT) (outer:List Env) (P:Program) (w:World) (H:Hp) (s:Shared) (Q:VK) (E:XK) (r:Result) (s':Shared):Prop :=
 match r with
 | .ok (.ret u)=>CE outer P w H s Q u s'
 | .ok _=>False
 | .error e=>CX outer H s E e s'
structure FnOk (P:Program) (w:World) (K:PySem.W.Frag) (mg:Str->Option Value) (base:Heap) (CX:CXT) (k:Nat) (f:Addr) (fd:FuncData) (ps:List Str) (sp:Sp):Prop where
 len:∀ vs H Q E,sp vs H Q E->vs.length = ps.length
 run:∀ (A:Around) (outer:List Env) (s:Shared) (H:Hp) (args:Args) (us:List Value) (vs:List V) (Q:VK) (E:XK),Room k A->Env0 P w K mg base A outer s H->BindsTo s fd args (ps.zip us)->Vals vs us->sp vs H Q E ->
  codeAny (model P w) A (.call (.ref f) args) (CR CX outer P w H s Q E) s
section
variable {X:Cx} {pins:List (Addr × Obj)} {σ:St} {H:Hp} {s s':Shared}
theorem Inv.env0 (I:Inv X pins σ H s):Env0 X.prog X.w X.K X.mg X.base X.A X.stack s H :=
 ⟨I.ok.frames,I.ok.mod,I.bs,Nat.le_trans I.ok.bsz I.sz,I.stack,I.stkFree,I.hok,I.bare⟩
theorem Inv.after {Q:VK} {u:Value} (I:Inv X pins σ H s) (h:CE X.stack X.prog X.w H s Q u s'):EP X pins σ Q u s':=by
 obtain ⟨v,H',os,bare,un,hok,r,q⟩:=h
 obtain ⟨hh,g,d,t,os'⟩:=s'
 obtain rfl:os' = s.os:=os
 exact ⟨v,H',I.call (h':=hh) (g':=g) (d':=d) (t':=t) (ch:=[]) un hok bare (fun b z=>absurd z (by simp)),r,q⟩
end
noncomputable def xS7 (sp:Sp) (dvs:List V) (E:XK) (t:TA):TE:=fun σ H Q=>t σ H fun vs H1=>sp (vs ++ dvs) H1 Q E
noncomputable def Binds (K:PySem.W.Frag) (fd:FuncData) (ps:List Str) (ds:List Value):Prop :=
 ∀ (s:Shared) (us:List Value),K.In s.heap->(us ++ ds).length = ps.length->BindsTo s fd ⟨us,[]⟩ (ps.zip (us ++ ds))
theorem Binds.all {K:PySem.W.Frag} {fd:FuncData} {ps:List Str} (h:∀ us:List Value,us.length = ps.length->bindArgs fd ⟨us,[]⟩ = pure (ps.zip us)):Binds K fd ps []:=fun s us _ hl=>by
 rw [List.append_nil] at hl ⊢
 exact .of_eq (h us hl)
noncomputable def yL7 (CX:CXT) (X:Cx) (E:XK):Prop:=∀ (pins:List (Addr × Obj)) (σ:St) (H:Hp) (s:Shared) (e:Value) (s':Shared),Inv X pins σ H s->CX X.stack H s E e s'->X.xe e s'
section
variable {X:Cx} {CX:CXT} {k:Nat} {f C:Addr} {fd:FuncData} {ps:List Str} {sp:Sp} {dvs:List V} {ds:List Value} {E:XK} {x m:Str} {p pos apos:Pos} {e o:Expr} {es:List Expr} {ta:TE} {t:TA}
theorem xT1 {pins:List (Addr × Obj)} {σ:St} {H:Hp} {s:Shared} {Q:VK} {us:List Value} {vs:List V} (F:FnOk X.prog X.w X.K X.mg X.base CX k f fd ps sp) (hr:Room k X.A) (hb:Binds X.K fd ps ds) (hd:Vals dvs ds) (hx:yL7 CX X E)
  (I:Inv X pins σ H s) (r:Vals vs us) (h:sp (vs ++ dvs) H Q E):wpAny (model X.prog X.w) X.A (call (.ref f) us) (EP X pins σ Q) X.xe s:=by
 have r2:Vals (vs ++ dvs) (us ++ ds):=r.append hd
 have hl:(us ++ ds).length = ps.length:=by rw [<- r2.length]; exact F.len _ _ _ _ h
 refine wpAny_call (codeAny_mono (F.run X.A X.stack s H ⟨us,[]⟩ (us ++ ds) (vs ++ dvs) Q E hr I.env0 (hb s us I.kIn hl) r2 h) fun r s' hq=>?_)
 cases r with
 | error e=>exact hx pins σ H s e s' I hq
 | ok fl =>
  cases fl with
  | ret u=>exact I.after hq
  | next=>exact False.elim hq
  | brk=>exact False.elim hq
  | cont=>exact False.elim hq
theorem xP7 (F:FnOk X.prog X.w X.K X.mg X.base CX k f fd ps sp) (hr:Room k X.A) (hg:Gl X x) (hm:X.mg x = some (.ref f)) (hk:PySem.W.keepIn X.K (.ref f) = true) (hb:Binds X.K fd ps ds) (hd:Vals dvs ds) (hx:yL7 CX X E)
  (ha:PA X (e :: es) t) (hdb:(x == ("__debug__":Str)) = false:=by decide) (he:starEach (e :: es) X.env = (false,eval e X.env) :: starEach es X.env:=by rfl) (hpl:(backTo pos (starEach es X.env)).any (·.1) = false:=by rfl) :
  PE X (.Call (.Name x p) (e :: es) [] pos) (xS7 sp dvs E t):=by
 intro pins s σ H Q I h
 refine wpAny_Call_Name_kw (xC4 I hg hm ?_ hdb)
 refine PySem.W.callWith_K (h₀:=X.base) I.ok.mod.kin hk (thn (ha pos pins s σ H _ I h) fun us s1 ⟨vs,H1,I1,r,q⟩=>⟨I1.kIn,?_⟩) he hpl
 exact xT1 F hr hb hd hx I1 r q
end
section
variable {X:Cx} {CX:CXT} {k:Nat} {f C:Addr} {fd:FuncData} {ps ks:List Str} {sp:Sp} {E:XK} {x m:Str} {p pos apos kpos:Pos} {e o:Expr} {es:List Expr} {kws:List Keyword} {te ta:TE} {t tk:TA} {nm:Option Str}
variable {g:List Value->List Value->List Value} {gV:List V->List V->List V}
end
structure zB5 (N P:List Str) (sc:Scope):Prop where
 kind:sc.kind = .function
 co:sc.isCoroutine = false
 gen:sc.isGenerator = false
 nd:N.Nodup
 pre:N.take P.length = P
 par:∀ x ∈ P,sc.names.lookup x = some .local \/ sc.names.lookup x = some .cell
 nofree:∀ y ∈ sc.names,y.2 ≠ .free
theorem yK9 {kindOf:Str->Option NameKind} {x:Str}:∀ {binds:List (Str × Value)} {m:Str->Option Value},(∀ v,(x,v) ∉ binds)->bindL kindOf binds m x = m x
 | [],_,_=>rfl
 | (n,v) :: r,m,h=>by
  unfold bindL
  rw [yK9 fun w hw=>h w (List.mem_cons_of_mem _ hw)]
  split
  ·have:x ≠ n:=by rintro rfl; exact h v List.mem_cons_self
   simp [this]
  ·rfl
theorem yL1 {kindOf:Str->Option NameKind} {x:Str}:∀ {binds:List (Str × Value)} {m:Str->Option Value},(∀ v,(x,v) ∉ binds)->bindC kindOf binds m x = m x
 | [],_,_=>rfl
 | (n,v) :: r,m,h=>by
  unfold bindC
  rw [yL1 fun w hw=>h w (List.mem_cons_of_mem _ hw)]
  split
  ·rfl
  ·have:x ≠ n:=by rintro rfl; exact h v List.mem_cons_self
   simp [this]
theorem yL0 {kindOf:Str->Option NameKind} {x:Str} {v:Value}:∀ {P:List Str} {vs:List Value} {i:Nat} {m:Str->Option Value},P.Nodup->P[i]? = some x->vs[i]? = some v->kindOf x = some .local ->
  bindL kindOf (P.zip vs) m x = some v
 | [],_,_,_,_,h,_,_=>by simp at h
 | _ :: _,[],_,_,_,_,h,_=>by simp at h
 | p :: P,w :: vs,0,m,nd,h1,h2,hk=>by
  simp at h1 h2; subst h1; subst h2
  show bindL kindOf ((p,w) :: P.zip vs) m p = _
  unfold bindL
  rw [yK9 fun v hv=>(List.nodup_cons.mp nd).1 (List.of_mem_zip hv).1,if_pos hk]
  simp
 | p :: P,w :: vs,i + 1,m,nd,h1,h2,hk=>by
  show bindL kindOf ((p,w) :: P.zip vs) m x = _
  unfold bindL
  exact yL0 (i:=i) (List.nodup_cons.mp nd).2 (by simpa using h1) (by simpa using h2) hk
theorem yL2 {kindOf:Str->Option NameKind} {x:Str} {v:Value}:∀ {P:List Str} {vs:List Value} {i:Nat} {m:Str->Option Value},P.Nodup->P[i]? = some x->vs[i]? = some v->kindOf x ≠ some .local ->
  bindC kindOf (P.zip vs) m x = some v
 | [],_,_,_,_,h,_,_=>by simp at h
 | _ :: _,[],_,_,_,_,h,_=>by simp at h
 | p :: P,w :: vs,0,m,nd,h1,h2,hk=>by
  simp at h1 h2; subst h1; subst h2
  show bindC kindOf ((p,w) :: P.zip vs) m p = _
  unfold bindC
  rw [yL1 fun v hv=>(List.nodup_cons.mp nd).1 (List.of_mem_zip hv).1,if_neg hk]
  simp
 | p :: P,w :: vs,i + 1,m,nd,h1,h2,hk=>by
  show bindC kindOf ((p,w) :: P.zip vs) m x = _
  unfold bindC
  exact yL2 (i:=i) (List.nodup_cons.mp nd).2 (by simpa using h1) (by simpa using h2) hk
noncomputable def start (N:List Str) (vs:List V):St:=vs.map some ++ List.replicate (N.length - vs.length) none
noncomputable def cxOf (CX:CXT) (P:Program) (w:World) (K:PySem.W.Frag) (mg:Str->Option Value) (base:Heap) (N:List Str) (qual:Str) (scope:Scope) (f:Addr) (cd:Value) (A:Around) (outer:List Env) (s:Shared) (H:Hp) (E:XK):Cx where
 prog:=P
 w:=w
 K:=K
 mg:=mg
 base:=base
 A:=A.deeper (envOfC qual scope s.heap.objs.size f cd)
 N:=N
 s₀:=s
 H₀:=H
 env:=envOfC qual scope s.heap.objs.size f cd
 outer:=outer
 stack:=envOfC qual scope s.heap.objs.size f cd :: outer
 ex:=[]
 calm:=true
 fn:=fun _=>true
 pn:=[]
 xe:=fun e s'=>wpAny (model P w) (A.deeper (envOfC qual scope s.heap.objs.size f cd)) (leaving (envOfC qual scope s.heap.objs.size f cd) e) (fun _ s''=>CX outer H s E e s'') (fun e' s''=>CX outer H s E e' s'') s'
theorem yU1 {sc:Scope} {n:Nat} {x:Str} (h:sc.names.lookup x = some .cell):∃ c,(cellsFrom n sc.names []).lookup x = some c:=by
 have q:=PySem.W.cellsFrom_some sc.names n [] (.inl h)
 exact Option.isSome_iff_exists.mp q
theorem xD0 {CX:CXT} {P:Program} {w:World} {K:PySem.W.Frag} {mg:Str->Option Value} {base:Heap} {N ps:List Str} {qual:Str} {scope:Scope} {f:Addr} {cd:Value} {A:Around} {outer:List Env} {s s1:Shared} {H:Hp} {E:XK} {us:List Value} {vs:List V}
  (S:zB5 N ps scope) (hd:A.handled = none) (e0:Env0 P w K mg base A outer s H) (hl:vs.length = ps.length) (r:Vals vs us)
  (x:InCallC s s.heap.objs.size (bindL (envOfC qual scope s.heap.objs.size f cd).kindOf (ps.zip us) fun _=>none) (cellsFrom (s.heap.objs.size + 1) scope.names []) (bindC (envOfC qual scope s.heap.objs.size f cd).kindOf (ps.zip us) fun _=>none) s1) :
  Inv (cxOf CX P w K mg base N qual scope f cd A outer s H E) [] (start N vs) H s1:=by
 have hpl:ps.length <= N.length:=by have:=congrArg List.length S.pre; rw [List.length_take] at this; omega
 obtain ⟨h1,tk,rfl,hk⟩:=x.done
 have noA:∀ b:Addr,b ∉ (cxOf CX P w K mg base N qual scope f cd A outer s H E).ex:=fun b z=>absurd (show b ∈ ([]:List Addr) from z) (by simp)
 refine ⟨⟨e0.mod,S.kind,rfl,rfl,Nat.le_refl _,fun y z c h1 h2=>?_,fun y hy=>?_,fun y c _ h=>?_,fun _=>hd,Around.frames_deeper e0.frames,.inr ⟨rfl,rfl⟩,fun b z=>absurd z (noA b),e0.bs,e0.bsz,fun b _ _=>noA b,fun b z=>absurd z (noA b),e0.funs,e0.frf⟩,
  rfl,e0.bare,Un.kept hk,⟨_,x.toInCall.ns,fun i y v h1 h2 h3=>?_⟩,fun y c h=>⟨_,x.cell y c h⟩,e0.hok.fresh (Nat.le_refl _),fun y c h=>?_,fun p hp=>absurd (show p ∈ ([]:List (Addr × Obj)) from hp) (by simp),e0.hok.kept hk,?_⟩
 ·exact name_of_addr x.apart (PySem.mem_of_lookup h1) (PySem.mem_of_lookup h2)
 ·have hy:scope.names.lookup y = some .cell \/ scope.names.lookup y = some .free:=hy
  rcases hy with hy | hy
  ·exact yU1 hy
  ·exact absurd rfl (S.nofree _ (PySem.mem_of_lookup hy))
 ·exact Nat.le_of_lt (x.above y c (PySem.mem_of_lookup h))
 ·have hi:i < vs.length:=by
   unfold start at h2
   by_cases hi:i < vs.length
   ·exact hi
   ·rw [List.getElem?_append_right (by simpa using hi)] at h2
    rw [List.getElem?_replicate] at h2
    split at h2 <;> cases h2
  have ha:vs[i]? = some v:=by
   unfold start at h2
   rw [List.getElem?_append_left (by simpa using hi),List.getElem?_map] at h2
   cases e:vs[i]? with
   | none=>rw [e] at h2; cases h2
   | some a=>rw [e] at h2; cases h2; rfl
  obtain ⟨u,hu,rv⟩:=r.get ha
  have hp:ps[i]? = some y:=by
   rw [<- S.pre,List.getElem?_take_of_lt (by omega)]; exact h1
  have ndP:ps.Nodup:=by rw [<- S.pre]; exact S.nd.sublist (List.take_sublist _ _)
  refine ⟨u,rv,?_⟩
  rcases S.par y (List.mem_of_getElem? hp) with k | k
  ·exact .inl ⟨k,yL0 ndP hp hu k⟩
  ·obtain ⟨c,e⟩:=yU1 (n:=s.heap.objs.size + 1) k
   refine .inr ⟨.inl k,c,e,?_⟩
   have q:=x.cell y c e
   rw [yL2 ndP hp hu (by show scope.names.lookup y ≠ _; rw [k]; decide)] at q
   exact q
 ·exact e0.hok.fresh (Nat.le_of_lt (x.above y c (PySem.mem_of_lookup h)))
 ·unfold start
  show _ = N.length
  rw [List.length_append,List.length_map,List.length_replicate]
  omega
theorem xW5 {CX:CXT} {P:Program} {w:World} {K:PySem.W.Frag} {mg:Str->Option Value} {base:Heap} {k:Nat} {f:Addr} {name qual:Str} {params:Arguments} {body:List Stmt} {scope:Scope} {dV kV doc pm cdv ct oc:Value} {an od:Option Addr}
  {osl:Array (Option Value)} {N ps:List Str} {sp:Sp} (lk:K.lookup f = some ⟨oc,od,.func (PySem.W.fnOf name qual params body scope dV kV doc pm an cdv ct),osl⟩) (hcd:PySem.W.codeIn K cdv qual = true) (S:zB5 N ps scope)
  (len:∀ vs H Q E,sp vs H Q E->vs.length = ps.length)
  (hbody:∀ (A:Around) (outer:List Env) (s:Shared) (H:Hp) (vs:List V) (Q:VK) (E:XK),Room k (A.deeper (envOfC qual scope s.heap.objs.size f cdv))->sp vs H Q E ->
   ∃ t,PSs (cxOf CX P w K mg base N qual scope f cdv A outer s H E) body t /\ t { nx:=fun _ H'=>Q .non H',rt:=Q } (start N vs) H) :
  FnOk P w K mg base CX (k + 1) f (PySem.W.fnOf name qual params body scope dV kV doc pm an cdv ct) ps sp:=by
 refine ⟨len,fun A outer s H args us vs Q E hr e0 hb r hsp=>?_⟩
 have hl:=len _ _ _ _ hsp
 have KX:K.In s.heap:=e0.mod.kin.keeps fun b o e=>(e0.bs b o e).1
 have lim:s.heap.NoLimit:=e0.mod.nolimit.keeps fun b o e=>(e0.bs b o e).1
 have hkind:∀ y ∈ ps.zip us,scope.names.lookup y.1 = some .local \/ (scope.names.lookup y.1 = some .cell /\ ((cellsFrom (s.heap.objs.size + 1) scope.names []).lookup y.1).isSome = true):=fun ⟨n,v⟩ hy=>by
  rcases S.par n (List.of_mem_zip hy).1 with q | q
  ·exact .inl q
  ·exact .inr ⟨q,PySem.W.cellsFrom_some _ _ _ (.inl q)⟩
 refine codeAny_call_function hr.depth (KX _ _ lk) rfl S.co S.gen rfl (PySem.W.codeRec_of KX hcd) (hb _ _ _ _ ?_)
 refine wpAny_newFunctionEnv_cells S.kind hkind fun env he s1 x=>?_
 subst he
 refine ⟨lim.keeps x.toInCall.keep,codeAny_func ?_⟩
 obtain ⟨t,ht,hq⟩:=hbody A outer s H vs Q E (hr.deeper _) hsp
 have I:Inv (cxOf CX P w K mg base N qual scope f cdv A outer s H E) [] (start N vs) H s1:=xD0 S hr.hd e0 hl r x
 refine wpAny_mono (ht [] s1 (start N vs) H _ I hq) (fun fl s' hs=>?_) fun e s' hs=>hs
 have fin:∀ {σ':St} {H':Hp} {v:V} {u:Value},Inv (cxOf CX P w K mg base N qual scope f cdv A outer s H E) [] σ' H' s'->RelV v u->Q v H'->CE outer P w H s Q u s' :=
  fun {σ' H' v u} J rv q=>⟨v,H',J.os,J.bare,J.base,J.hok,rv,q⟩
 cases fl with
 | ret u =>
  obtain ⟨v,σ',H',J,rv,q⟩:=hs
  exact fin J rv q
 | next =>
  obtain ⟨σ',H',J,q⟩:=hs
  exact fin (v:=V.non) (u:=Value.none) J rfl q
 | brk =>
  obtain ⟨_,_,_,q⟩:=hs
  exact False.elim q
 | cont =>
  obtain ⟨_,_,_,q⟩:=hs
  exact False.elim q
end L2
namespace L2
open PySem PySem.Spec PyProof.Rows
section
variable {X:Cx} {x:Str} {p pos:Pos} {e:Expr} {es:List Expr} {t:TA} {id T:String} {r:List V->Hp->VK->Prop}
noncomputable def tCB (r:List V->Hp->VK->Prop) (t:TA):TE:=fun σ H Q=>t σ H fun vs H1=>r vs H1 Q
theorem zC9 (hc:zO3 X (.builtin id) r) (hg:Gl X x) (hm:X.mg x = none) (hv:bootBuiltins x = some (.builtin id)) (ha:PA X (e :: es) t) (hn:x ≠ "__name__":=by decide) (hdb:(x == ("__debug__":Str)) = false:=by decide)
  (he:starEach (e :: es) X.env = (false,eval e X.env) :: starEach es X.env:=by rfl) (hpl:(backTo pos (starEach es X.env)).any (·.1) = false:=by rfl):PE X (.Call (.Name x p) (e :: es) [] pos) (tCB r t):=by
 intro pins s σ H Q I h
 refine wpAny_Call_Name_kw (zQ1 I hg hm hv ?_ hn hdb)
 exact PyProof.Rows.callWith_builtin1 (thn (ha pos pins s σ H _ I h) fun us s1 ⟨vs,H1,I1,r1,q1⟩=>hc pins s1 σ H1 vs us Q I1 r1 q1) he hpl
theorem zJ3 (hc:zO3 X (.type T) r) (hg:Gl X x) (hm:X.mg x = none) (hv:bootBuiltins x = some (.type T)) (ha:PA X (e :: es) t) (hn:x ≠ "__name__":=by decide) (hdb:(x == ("__debug__":Str)) = false:=by decide)
  (he:starEach (e :: es) X.env = (false,eval e X.env) :: starEach es X.env:=by rfl) (hpl:(backTo pos (starEach es X.env)).any (·.1) = false:=by rfl):PE X (.Call (.Name x p) (e :: es) [] pos) (tCB r t):=by
 intro pins s σ H Q I h
 refine wpAny_Call_Name_kw (zQ1 I hg hm hv ?_ hn hdb)
 exact PyProof.Rows.callWith_type1 (thn (ha pos pins s σ H _ I h) fun us s1 ⟨vs,H1,I1,r1,q1⟩=>hc pins s1 σ H1 vs us Q I1 r1 q1) he hpl
end
end L2
namespace L2
open PySem PySem.Spec PyProof.Rows
section
variable {κ:Type} [DecidableEq κ]
noncomputable def valV (kvs:List (κ × V)) (k:κ):Option V:=(kvs.find? fun kv=>decide (kv.1 = k)).map (·.2)
noncomputable def putK (kvs:List (κ × V)) (k:κ) (v:V):List (κ × V) :=
 if (kvs.any fun kv=>decide (kv.1 = k)) = true then kvs.map (fun kv=>if kv.1 = k then (kv.1,v) else kv) else kvs ++ [(k,v)]
noncomputable def yF0 (kvs:List (κ × V)) (k:κ):List (κ × V):=kvs.filter fun kv=>decide (kv.1 ≠ k)
theorem zH5 {p:κ × V} {r:List (κ × V)} {k:κ} (e:p.1 = k):valV (p :: r) k = some p.2:=by simp [valV,List.find?_cons,e]
theorem zH6 {p:κ × V} {r:List (κ × V)} {k:κ} (e:¬ p.1 = k):valV (p :: r) k = valV r k:=by simp [valV,List.find?_cons,e]
theorem zP2 (k:κ):∀ kvs:List (κ × V),(kvs.any fun kv=>decide (kv.1 = k)) = (valV kvs k).isSome
 | []=>rfl
 | p :: r=>by
  rw [List.any_cons]
  by_cases e:p.1 = k
  ·simp only [zH5 e,decide_eq_true e,Bool.true_or,Option.isSome_some]
  ·rw [zH6 e,decide_eq_false e,Bool.false_or]; exact zP2 k r
theorem yP7 (k j:κ) (y:V):∀ kvs:List (κ × V),valV (kvs.map fun kv=>if kv.1 = k then (kv.1,y) else kv) j = (valV kvs j).map fun x=>if j = k then y else x
 | []=>rfl
 | p :: r=>by
  have ih:=yP7 k j y r
  rw [List.map_cons]
  by_cases h:p.1 = k
  ·rw [if_pos h]
   by_cases e:p.1 = j
   ·rw [zH5 (p:=(p.1,y)) e,zH5 e,Option.map_some,if_pos (e.symm.trans h)]
   ·rw [zH6 (p:=(p.1,y)) e,zH6 e,ih]
  ·rw [if_neg h]
   by_cases e:p.1 = j
   ·rw [zH5 (p:=p) e,zH5 e,Option.map_some,if_neg (fun z=>h (e.trans z))]
   ·rw [zH6 (p:=p) e,zH6 e,ih]
theorem yG3 (k j:κ) (y:V):∀ kvs:List (κ × V),valV kvs k = none->valV (kvs ++ [(k,y)]) j = if j = k then some y else valV kvs j
 | [],_=>by
  by_cases e:k = j
  ·rw [if_pos e.symm]; exact zH5 (p:=(k,y)) e
  ·rw [if_neg (fun z=>e z.symm)]; exact zH6 (p:=(k,y)) e
 | p :: r,hn=>by
  rw [List.cons_append]
  have hk:¬ p.1 = k:=fun z=>by rw [zH5 z] at hn; cases hn
  rw [zH6 hk] at hn
  have ih:=yG3 k j y r hn
  by_cases e:p.1 = j
  ·rw [zH5 e,zH5 e,if_neg (fun z=>hk (e.trans z))]
  ·rw [zH6 e,zH6 e,ih]
theorem zU6 (kvs:List (κ × V)) (k j:κ) (y:V):valV (putK kvs k y) j = if j = k then some y else valV kvs j:=by
 unfold putK
 by_cases a:(kvs.any fun kv=>decide (kv.1 = k)) = true
 ·rw [if_pos a,yP7]
  rw [zP2] at a
  by_cases e:j = k
  ·obtain ⟨x,hx⟩:=Option.isSome_iff_exists.mp a
   rw [if_pos e,e,hx,Option.map_some,if_pos rfl]
  ·rw [if_neg e]
   cases valV kvs j with
   | none=>rfl
   | some x=>rw [Option.map_some,if_neg e]
 ·rw [if_neg a]
  refine yG3 k j y kvs ?_
  rw [zP2] at a
  cases q:valV kvs k with
  | none=>rfl
  | some x=>rw [q] at a; exact (a rfl).elim
theorem zF6 (kvs:List (κ × V)) (k:κ) (v:V):(putK kvs k v).length <= kvs.length + 1:=by
 unfold putK
 split
 ·rw [List.length_map]; omega
 ·rw [List.length_append,List.length_cons,List.length_nil]; omega
theorem RelO.isSome_eq {o:Option V} {u:Option Value} (r:RelO o u):o.isSome = u.isSome:=by
 cases o with
 | none=>cases u with
  | none=>rfl
  | some _=>exact (show False from r).elim
 | some _=>cases u with
  | none=>exact (show False from r).elim
  | some _=>rfl
theorem RelO.getD {o:Option V} {u:Option Value} {d:V} {d':Value} (r:RelO o u) (rd:RelV d d'):RelV (o.getD d) (u.getD d'):=by
 cases o with
 | none=>cases u with
  | none=>exact rd
  | some _=>exact (show False from r).elim
 | some _=>cases u with
  | none=>exact (show False from r).elim
  | some _=>exact r
theorem KV.val {kvs:List (κ × V)} {vs:List (κ × Value)} (r:KV kvs vs) (k:κ):RelO (valV kvs k) (valueAt vs k):=by
 unfold KV at r
 induction r with
 | nil=>exact True.intro
 | @cons p q ps qs h t ih =>
  obtain ⟨h1,h2⟩:=h
  by_cases e:p.1 = k
  ·have e':q.1 = k:=h1.symm.trans e
   have b:valueAt (q :: qs) k = some q.2:=by simp [valueAt,List.find?_cons,e']
   rw [zH5 e,b]; exact h2
  ·have e':¬ q.1 = k:=fun z=>e (h1.trans z)
   have b:valueAt (q :: qs) k = valueAt qs k:=by simp [valueAt,List.find?_cons,e']
   rw [zH6 e,b]; exact ih
theorem KV.any {kvs:List (κ × V)} {vs:List (κ × Value)} (r:KV kvs vs) (k:κ):(kvs.any fun kv=>decide (kv.1 = k)) = vs.any fun kv=>decide (kv.1 = k):=by
 unfold KV at r
 induction r with
 | nil=>rfl
 | cons h t ih=>rw [List.any_cons,List.any_cons,ih,h.1]
theorem KV.repl {kvs:List (κ × V)} {vs:List (κ × Value)} (r:KV kvs vs) (k:κ) {y:V} {u:Value} (ry:RelV y u) :
  KV (kvs.map fun kv=>if kv.1 = k then (kv.1,y) else kv) (vs.map fun kv=>if kv.1 = k then (kv.1,u) else kv):=by
 unfold KV at r ⊢
 induction r with
 | nil=>exact .nil
 | @cons p q ps qs h t ih =>
  rw [List.map_cons,List.map_cons]
  refine .cons ?_ ih
  obtain ⟨h1,h2⟩:=h
  by_cases e:p.1 = k
  ·rw [if_pos e,if_pos (h1.symm.trans e)]; exact ⟨h1,ry⟩
  ·rw [if_neg e,if_neg (fun z=>e (h1.trans z))]; exact ⟨h1,h2⟩
theorem KV.put {kvs:List (κ × V)} {vs:List (κ × Value)} (r:KV kvs vs) (k:κ) {y:V} {u:Value} (ry:RelV y u):KV (putK kvs k y) (stored vs k u):=by
 unfold putK stored
 rw [r.any k]
 by_cases e:(vs.any fun kv=>decide (kv.1 = k)) = true
 ·rw [if_pos e,if_pos e]; exact r.repl k ry
 ·rw [if_neg e,if_neg e]; exact Paired.snoc r ⟨rfl,ry⟩
theorem KV.drop {kvs:List (κ × V)} {vs:List (κ × Value)} (r:KV kvs vs) (k:κ):KV (yF0 kvs k) (without vs k):=by
 unfold KV at r ⊢
 unfold yF0 without
 induction r with
 | nil=>exact .nil
 | @cons p q ps qs h t ih =>
  obtain ⟨h1,h2⟩:=h
  rw [List.filter_cons,List.filter_cons]
  by_cases e:p.1 = k
  ·have a:¬ decide (p.1 ≠ k) = true:=by simp [e]
   have b:¬ decide (q.1 ≠ k) = true:=by simp [h1.symm.trans e]
   rw [if_neg a,if_neg b]; exact ih
  ·have e':¬ q.1 = k:=fun z=>e (h1.trans z)
   have a:decide (p.1 ≠ k) = true:=by simp [e]
   have b:decide (q.1 ≠ k) = true:=by simp [e']
   rw [if_pos a,if_pos b]; exact .cons ⟨h1,h2⟩ ih
theorem KV.length {kvs:List (κ × V)} {vs:List (κ × Value)} (r:KV kvs vs):kvs.length = vs.length:=Paired.length r
theorem xJ5 (kvs:List (κ × V)) (k:κ):(yF0 kvs k).length <= kvs.length:=List.length_filter_le _ _
end
theorem yJ5 {P:Program} {w:World} {k:Key} {u:Value} (r:RelV (kV k) u):(zD9 P w).is k u = true:=by
 cases k with
 | inl i=>obtain ⟨t,e⟩:=(show ∃ t,u = Value.int i t from r); subst e; exact yN7 P w i t
 | inr x=>obtain ⟨t,e⟩:=(show ∃ t,u = Value.str x t from r); subst e; exact zX7 P w x t
theorem yJ6 {P:Program} {w:World}:∀ {ks:List Key} {us:List Value},Vals (ks.map kV) us->ItemsAre (zD9 P w) ks us
 | [],_,r=>by rw [List.map_nil] at r; cases r; exact .nil
 | k :: ks,_,r=>by
  rw [List.map_cons] at r
  cases r with
  | cons h t=>exact .cons (yJ5 h) (yJ6 t)
noncomputable abbrev KT (H:Hp):List (List Key × V)->List (List Key × Addr × Value)->Prop:=Paired fun p q=>p.1 = q.1 /\ H q.2.1 = some (.tup (p.1.map kV)) /\ RelV p.2 q.2.2
theorem KT.val {H:Hp} {kvs:List (List Key × V)} {xs:List (List Key × Addr × Value)} (r:KT H kvs xs) (k:List Key):RelO (valV kvs k) ((atKey xs k).map (·.2)):=by
 induction r with
 | nil=>exact True.intro
 | @cons p q ps qs h t ih =>
  obtain ⟨h1,_,h2⟩:=h
  by_cases e:p.1 = k
  ·have e':q.1 = k:=h1.symm.trans e
   have b:atKey (q :: qs) k = some q.2:=by simp [atKey,List.find?_cons,e']
   rw [zH5 e,b]; exact h2
  ·have e':¬ q.1 = k:=fun z=>e (h1.trans z)
   have b:atKey (q :: qs) k = atKey qs k:=by simp [atKey,List.find?_cons,e']
   rw [zH6 e,b]; exact ih
theorem KT.repl {H:Hp} {kvs:List (List Key × V)} {xs:List (List Key × Addr × Value)} (r:KT H kvs xs) (k:List Key) {y:V} {u:Value} (ry:RelV y u) :
  KT H (kvs.map fun kv=>if kv.1 = k then (kv.1,y) else kv) (xs.map (putAt k u)):=by
 induction r with
 | nil=>exact .nil
 | @cons p q ps qs h t ih =>
  rw [List.map_cons,List.map_cons]
  refine .cons ?_ ih
  obtain ⟨h1,h2,h3⟩:=h
  unfold putAt
  by_cases e:p.1 = k
  ·rw [if_pos e,if_pos (h1.symm.trans e)]; exact ⟨h1,h2,ry⟩
  ·rw [if_neg e,if_neg (fun z=>e (h1.trans z))]; exact ⟨h1,h2,h3⟩
theorem KT.put {H:Hp} {kvs:List (List Key × V)} {xs:List (List Key × Addr × Value)} (r:KT H kvs xs) (k:List Key) {b:Addr} {y:V} {u:Value} (hb:H b = some (.tup (k.map kV))) (ry:RelV y u) :
  KT H (putK kvs k y) (storedH xs k b u):=by
 have e:(kvs.any fun kv=>decide (kv.1 = k)) = (atKey xs k).isSome:=by
  rw [zP2,(r.val k).isSome_eq,Option.isSome_map]
 unfold putK storedH
 rw [e]
 by_cases q:(atKey xs k).isSome = true
 ·rw [if_pos q,if_pos q]; exact r.repl k ry
 ·rw [if_neg q,if_neg q]; exact Paired.snoc r ⟨rfl,hb,ry⟩
theorem KT.keeps {H H':Hp} {kvs:List (List Key × V)} {xs:List (List Key × Addr × Value)} (r:KT H kvs xs) (ht:∀ b ys,H b = some (.tup ys)->H' b = some (.tup ys)):KT H' kvs xs :=
 Paired.mapP r fun _ _ z=>⟨z.1,ht _ _ z.2.1,z.2.2⟩
section
variable {P:Program} {w:World} {H:Hp} {h:Heap} {a:Addr}
theorem xT4 {u:HO} (ok:HOk P w H h) (e:Rd H a u):ObjOk P w H h a u:=e.ok ok
theorem yO2 {kvs:List (Key × V)} (ok:HOk P w H h) (e:Rd H a (.dK kvs)):kvs.length <= sizeLine /\ (a == sysModules) = false /\ ∃ vs,KV kvs vs /\ h.DictOf (zD9 P w) a vs :=
 show ObjOk P w H h a (.dK kvs) from xT4 ok e
theorem xE4 {kvs:List (Key × V)} (ok:HOk P w H h) (e:H a = some (.dK kvs)):kvs.length <= sizeLine /\ (a == sysModules) = false /\ ∃ vs,KV kvs vs /\ h.DictOf (zD9 P w) a vs:=yO2 ok (.inl e)
theorem yA4 {ks:List Key} (ok:HOk P w H h) (e:H a = some (.tup (ks.map kV))):(tupleKind (zD9 P w)).is h ks a:=by
 obtain ⟨_,its,r,o,h1,h2,n,h3⟩:=(show ObjOk P w H h a (.tup (ks.map kV)) from ok a _ e)
 exact ⟨o,its.toArray,n,h1,h2,h3,by simpa using yJ6 r⟩
theorem yO1 {kvs:List (List Key × V)} (ok:HOk P w H h) (e:Rd H a (.dT kvs)):kvs.length <= sizeLine /\ (a == sysModules) = false /\
  ∃ xs,KT H kvs xs /\ h.DictOfH (tupleKind (zD9 P w)) a xs:=by
 obtain ⟨z,y,xs,r,o,es,ep,h1,h2,h3,h4,h5⟩:=(show ObjOk P w H h a (.dT kvs) from xT4 ok e)
 refine ⟨z,y,xs,r,o,es,ep,h1,h2,h3,h4,fun x hx=>?_,h5⟩
 have all:∀ {l:List (List Key × V)} {m:List (List Key × Addr × Value)},KT H l m->∀ x ∈ m,(tupleKind (zD9 P w)).is h x.1 x.2.1:=by
  intro l m q
  induction q with
  | nil=>intro x hx; exact nomatch hx
  | @cons p q ps qs hq t ih =>
   intro x hx
   rcases List.mem_cons.mp hx with e | hx
   ·subst e
    exact yA4 ok (by rw [<- hq.1]; exact hq.2.1)
   ·exact ih x hx
 exact all r x hx
theorem wA8 {kvs:List (List Key × V)} (ok:HOk P w H h) (e:H a = some (.dT kvs)):kvs.length <= sizeLine /\ (a == sysModules) = false /\
  ∃ xs,KT H kvs xs /\ h.DictOfH (tupleKind (zD9 P w)) a xs:=yO1 ok (.inl e)
end
noncomputable def DGet (H:Hp) (a:Addr) (y:V) (r:Option V):Prop :=
 (∃ kvs k,Rd H a (.dK kvs) /\ y = kV k /\ r = valV kvs k) \/ ∃ kvs k b,Rd H a (.dT kvs) /\ y = .ref b /\ H b = some (.tup (k.map kV)) /\ r = valV kvs k
noncomputable def DPut (H:Hp) (a:Addr) (y v:V) (H':Hp):Prop :=
 (∃ kvs k,H a = some (.dK kvs) /\ y = kV k /\ kvs.length < sizeLine /\ H' = upd H a (.dK (putK kvs k v))) \/
 ∃ kvs k b,H a = some (.dT kvs) /\ y = .ref b /\ H b = some (.tup (k.map kV)) /\ kvs.length < sizeLine /\ H' = upd H a (.dT (putK kvs k v))
theorem DGet.k {H:Hp} {a:Addr} {kvs:List (Key × V)} {k:Key} (e:H a = some (.dK kvs)):DGet H a (kV k) (valV kvs k):=.inl ⟨kvs,k,.inl e,rfl,rfl⟩
theorem DPut.k {H:Hp} {a:Addr} {kvs:List (Key × V)} {k:Key} {v:V} (e:H a = some (.dK kvs)) (hl:kvs.length < sizeLine):DPut H a (kV k) v (upd H a (.dK (putK kvs k v))):=.inl ⟨kvs,k,e,rfl,hl,rfl⟩
section
variable {X:Cx} {pins:List (Addr × Obj)} {σ:St} {H:Hp} {s:Shared} {a:Addr} {y v:V} {u r:Value} {o:Option V} {A:Around} {E:Value->Shared->Prop}
theorem Inv.big (I:Inv X pins σ H s):sysModules < s.heap.objs.size:=by
 have h:mainGlobals < s.heap.objs.size:=(I.mod.glob.keeps I.bk).lt
 exact Nat.lt_trans (by decide) h
theorem xF0 {Q:Value->Shared->Prop} (hu:A.units + 1 < cLine) (I:Inv X pins σ H s) (g:DGet H a y (some v)) (ry:RelV y u) (h:∀ w' s',Inv X pins σ H s'->RelV v w'->Q w' s') :
  wpAny (model X.prog X.w) A (getItem (.ref a) u) Q E s:=by
 rcases g with ⟨kvs,k,e,ey,l⟩ | ⟨kvs,k,b,e,ey,eb,l⟩
 ·subst ey
  obtain ⟨z,hd,vs,rel,dd⟩:=yO2 I.hok e
  obtain ⟨w',hw,rw'⟩:=RelO.some_of (v:=v) (o:=valueAt vs k) (by rw [l]; exact rel.val k)
  exact wpAny_getItem_of (yJ5 ry) dd.mapOf hw (h w' _ (I.tok _) rw')
 ·subst ey
  cases (show u = Value.ref b from ry)
  obtain ⟨z,hd,xs,rel,dd⟩:=yO1 I.hok e
  obtain ⟨w',hw,rw'⟩:=RelO.some_of (v:=v) (o:=(atKey xs k).map (·.2)) (by rw [l]; exact rel.val k)
  obtain ⟨p,hp,hp2⟩:=Option.map_eq_some_iff.mp hw
  refine wpAny_getItem_heap (tupleKind_room_in1 hu) (yA4 I.hok eb) dd hp ?_
  rw [hp2]
  exact h w' _ (I.tok _) rw'
theorem d_in {Q:Value->Shared->Prop} (hu:A.units + 1 < cLine) (I:Inv X pins σ H s) (g:DGet H a y o) (ry:RelV y u) (h:∀ s',Inv X pins σ H s'->Q (.bool o.isSome) s') :
  wpAny (model X.prog X.w) A (compareOp .In u (.ref a)) Q E s:=by
 rcases g with ⟨kvs,k,e,ey,l⟩ | ⟨kvs,k,b,e,ey,eb,l⟩
 ·subst ey
  obtain ⟨z,hd,vs,rel,dd⟩:=yO2 I.hok e
  refine wpAny_in_of (yJ5 ry) hd dd.mapOf ?_
  rw [<- (rel.val k).isSome_eq,<- l]
  exact h _ (I.tok _)
 ·subst ey
  cases (show u = Value.ref b from ry)
  obtain ⟨z,hd,xs,rel,dd⟩:=yO1 I.hok e
  refine wpAny_in_heap (tupleKind_room_in1 hu) (yA4 I.hok eb) hd dd ?_
  have q:=(rel.val k).isSome_eq
  rw [Option.isSome_map] at q
  rw [<- q,<- l]
  exact h _ (I.tok _)
theorem xR3 {Q:Value->Shared->Prop} (hu:A.units + 1 < cLine) (I:Inv X pins σ H s) (g:DGet H a y o) (ry:RelV y u) (h:∀ s',Inv X pins σ H s'->Q (.bool (!o.isSome)) s') :
  wpAny (model X.prog X.w) A (compareOp .NotIn u (.ref a)) Q E s:=by
 rcases g with ⟨kvs,k,e,ey,l⟩ | ⟨kvs,k,b,e,ey,eb,l⟩
 ·subst ey
  obtain ⟨z,hd,vs,rel,dd⟩:=yO2 I.hok e
  refine wpAny_notIn_of (yJ5 ry) hd dd.mapOf ?_
  rw [<- (rel.val k).isSome_eq,<- l]
  exact h _ (I.tok _)
 ·subst ey
  cases (show u = Value.ref b from ry)
  obtain ⟨z,hd,xs,rel,dd⟩:=yO1 I.hok e
  refine wpAny_notIn_heap (tupleKind_room_in1 hu) (yA4 I.hok eb) hd dd ?_
  have q:=(rel.val k).isSome_eq
  rw [Option.isSome_map] at q
  rw [<- q,<- l]
  exact h _ (I.tok _)
theorem yF1 {h':Heap} {t':Nat} {ob:HO} (I:Inv X pins σ H s) (mu:Mut (H a)) (hs:Heap.SameBut a s.heap h') (he:∃ q,h'.get? a = some q) (new:ObjOk X.prog X.w (upd H a ob) h' a ob) :
  Inv X pins σ (upd H a ob) { s with heap:=h',toks:=t' } :=
 I.write (x:=a) (e:=a) mu (.inl rfl) (fun b q hb z=>(hs.2 b hb).trans z) he new
theorem xE5 {P:Program} {w:World} {H':Hp} {h':Heap} {kvs:List (Key × V)} {vs:List (Key × Value)} (z:kvs.length <= sizeLine) (hd:(a == sysModules) = false) (rel:KV kvs vs) (dd:h'.DictOf (zD9 P w) a vs) :
  ObjOk P w H' h' a (.dK kvs):=⟨z,hd,vs,rel,dd⟩
theorem xE9 {H':Hp} {Q:Unit->Shared->Prop} (hu:A.units + 1 < cLine) (I:Inv X pins σ H s) (g:DPut H a y v H') (ry:RelV y u) (rv:RelV v r) (h:∀ s',Inv X pins σ H' s'->Q () s') :
  wpAny (model X.prog X.w) A (setItem (.ref a) u r) Q E s:=by
 rcases g with ⟨kvs,k,e,ey,l,eH⟩ | ⟨kvs,k,b,e,ey,eb,l,eH⟩
 ·subst ey eH
  obtain ⟨z,hd,vs,rel,dd⟩:=xE4 I.hok e
  have hz:vs.length <= sizeLine:=by rw [<- rel.length]; exact z
  have hl:(putK kvs k v).length <= sizeLine:=by have:=zF6 kvs k v; omega
  refine wpAny_setItem_pairs (hsz:=hz) (yJ5 ry) dd fun h' dd' hs=>h _ ?_
  have he:∃ q,h'.get? a = some q:=let ⟨q,_,_,hq,_⟩:=dd'; ⟨q,hq⟩
  exact yF1 I (by rw [e]; exact True.intro) hs he (xE5 hl hd (rel.put k rv) dd')
 ·subst ey eH
  cases (show u = Value.ref b from ry)
  obtain ⟨z,hd,xs,rel,dd⟩:=wA8 I.hok e
  have hz:xs.length <= sizeLine:=by rw [<- Paired.length rel]; exact z
  have hl:(putK kvs k v).length <= sizeLine:=by have:=zF6 kvs k v; omega
  refine wpAny_setItem_heap (hsz:=hz) (tupleKind_room_in1 hu) (yA4 I.hok eb) dd fun h' dd' hs=>h _ ?_
  obtain ⟨q,es,ep,hq,h2,h3,h4,_,h5⟩:=dd'
  refine yF1 I (by rw [e]; exact True.intro) hs ⟨q,hq⟩ ⟨hl,hd,_,(rel.put k eb rv).keeps fun c ys ec=>?_,q,es,ep,hq,h2,h3,h4,h5⟩
  rw [upd_ne (zG3 ec e (fun z=>nomatch z))]
  exact ec
end
section
variable {X:Cx} {pins:List (Addr × Obj)} {σ:St} {H:Hp} {s:Shared} {a:Addr} {kvs:List (Key × V)} {k:Key} {u:Value} {A:Around} {E:Value->Shared->Prop}
theorem wA9 {v:V} {more:List Value} {Q:Value->Shared->Prop} (I:Inv X pins σ H s) (e:H a = some (.dK kvs)) (ry:RelV (kV k) u) (l:valV kvs k = some v) (hm:more = [] \/ ∃ x,more = [x])
  (h:∀ w' s',Inv X pins σ (upd H a (.dK (yF0 kvs k))) s'->RelV v w'->Q w' s'):wpAny (model X.prog X.w) A (call (.builtin "dict.pop") (.ref a :: u :: more)) Q E s:=by
 obtain ⟨z,hd,vs,rel,dd⟩:=xE4 I.hok e
 obtain ⟨w',hw,rw'⟩:=RelO.some_of (v:=v) (o:=valueAt vs k) (by rw [<- l]; exact rel.val k)
 have hp:(keyPart u).isSome = true:=by
  cases k with
  | inl i=>obtain ⟨t,q⟩:=(show ∃ t,u = Value.int i t from ry); subst q; rfl
  | inr x=>obtain ⟨t,q⟩:=(show ∃ t,u = Value.str x t from ry); subst q; rfl
 have ha:argsOk "dict.pop" ⟨.ref a :: u :: more,[]⟩:=by
  rcases hm with q | ⟨x,q⟩
  ·subst q; exact PySem.F.args_dict_pop_2 _ _
  ·subst q; exact PySem.F.args_dict_pop_3 _ _ _
 refine call_meetsIn PySem.F.slot_dict_pop dd.typeIs PySem.F.entry_dict_pop ha (meets_dict_pop_there (zD9 X.prog X.w) a (yJ5 ry) more hm hp)
  ⟨vs,w',dd,by rw [<- rel.length]; exact z,hw,fun h' dd' hs=>h w' _ ?_ rw'⟩
 have he:∃ q,h'.get? a = some q:=let ⟨q,_,_,hq,_⟩:=dd'; ⟨q,hq⟩
 exact yF1 I (by rw [e]; exact True.intro) hs he (xE5 (Nat.le_trans (xJ5 kvs k) z) hd (rel.drop k) dd')
end
noncomputable def NoSl (i:Expr):Prop:=∀ ov iv,subscripted i false ov iv = operate [ov,iv] (getItem ov iv)
theorem xO4 {prog:Program} {w:World} {A:Around} {E:Value->Shared->Prop} {s:Shared} {env:Env} {value slice:Expr} {pos:Pos} {T id:String} {Q:Value->Shared->Prop}
  (hl:typeLookup (.type T) "__getitem__" = pure (some (.builtin id))) (hs:NoSl slice)
  (h:wpAny (model prog w) A (eval value env) (fun o s₁=>wpAny (model prog w) A (eval slice env) (fun i s₂=>s₂.TypeIs o T /\ wpAny (model prog w) A (getItem o i) Q E s₂) E s₁) E s) :
  wpAny (model prog w) A (eval (.Subscript value slice pos) env) Q E s:=by
 refine Subscript_ (wpAny_mono h (fun o s₁ h₁=>wpAny_mono h₁ (fun i s₂ h₂=>?_) fun _ _ x=>x) fun _ _ x=>x)
 obtain ⟨hT,h₂⟩:=h₂
 unfold subscriptTail
 refine wpAny_bind ?_
 rw [getitemInPython_of_ne hT.not_modules]
 refine wpAny_bind (wpAny_specialOf hT hl ?_)
 have fin:wpAny (model prog w) A (subscripted slice false o i) (fun r s₃=>wpAny (model prog w) A (letTemporaryGo value o r >>= fun _=>pure r) Q E s₃) E s₂:=by
  rw [hs o i]
  exact wpAny_operating (wpAny_mono h₂ (fun r s₃ h₃=>wpAny_bind (wpAny_letTemporaryGo (wpAny_pure h₃))) fun _ _ x=>x)
 first
  | exact wpAny_pure (wpAny_bind fin)
  | exact wpAny_bind (wpAny_pure (wpAny_bind fin))
  | exact wpAny_bind fin
theorem yO3 {X:Cx} {pins:List (Addr × Obj)} {σ:St} {H:Hp} {s:Shared} {a:Addr} {y:V} {o:Option V} (I:Inv X pins σ H s) (g:DGet H a y o):s.TypeIs (.ref a) "dict":=by
 rcases g with ⟨kvs,k,e,_,_⟩ | ⟨kvs,k,b,e,_,_,_⟩
 ·obtain ⟨_,_,vs,_,dd⟩:=yO2 I.hok e
  exact dd.typeIs
 ·obtain ⟨_,_,xs,_,dd⟩:=yO1 I.hok e
  exact dd.typeIs
noncomputable def xZ1 (td ty:TE):TE:=fun σ H Q=>td σ H fun x H1=>ty σ H1 fun y H2=>∃ a v,x = .ref a /\ DGet H2 a y (some v) /\ Q v H2
noncomputable def tDIn (ty td:TE):TE:=fun σ H Q=>ty σ H fun y H1=>td σ H1 fun x H2=>∃ a o,x = .ref a /\ DGet H2 a y o /\ Q (.bl o.isSome) H2
noncomputable def xO2 (ty td:TE):TE:=fun σ H Q=>ty σ H fun y H1=>td σ H1 fun x H2=>∃ a o,x = .ref a /\ DGet H2 a y o /\ Q (.bl (!o.isSome)) H2
noncomputable def xZ3 (td ty tv:TE):TS:=fun D σ H=>tv σ H fun v H1=>td σ H1 fun x H2=>ty σ H2 fun y H3=>∃ a H4,x = .ref a /\ DPut H3 a y v H4 /\ D.nx σ H4
section
variable {X:Cx} {o i e value:Expr} {pos pos' tpos:Pos} {td ty tv:TE}
theorem zF5 (hu:X.A.units + 1 < cLine) (ho:PE X o td) (hi:PE X i ty) (hs:NoSl i):PE X (.Subscript o i pos) (xZ1 td ty):=by
 intro pins s σ H Q I h
 refine xO4 PySem.F.slot_dict_getitem.lookup hs (thn (ho pins s σ H _ I h) fun u s1 ⟨x,H1,I1,rx,q1⟩=>thn (hi pins s1 σ H1 _ I1 q1) fun iv s2 ⟨y,H2,I2,ry,a,v,ex,g,q2⟩=>?_)
 subst ex
 obtain rfl:u = Value.ref a:=rx
 exact ⟨yO3 I2 g,xF0 hu I2 g ry fun w' s3 I3 rw'=>⟨v,H2,I3,rw',q2⟩⟩
theorem xM2 (hu:X.A.units + 1 < cLine) (hi:PE X i ty) (ho:PE X o td):PC X .In i o (tDIn ty td):=by
 intro pins s σ H Q I h
 refine thn (hi pins s σ H _ I h) fun iv s1 ⟨y,H1,I1,ry,q1⟩=>thn (ho pins s1 σ H1 _ I1 q1) fun u s2 ⟨x,H2,I2,rx,a,ov,ex,g,q2⟩=>?_
 subst ex
 obtain rfl:u = Value.ref a:=rx
 exact d_in hu I2 g ry fun s3 I3=>⟨.bl ov.isSome,H2,I3,rfl,q2⟩
theorem yI5 (hu:X.A.units + 1 < cLine) (hi:PE X i ty) (ho:PE X o td):PC X .NotIn i o (xO2 ty td):=by
 intro pins s σ H Q I h
 refine thn (hi pins s σ H _ I h) fun iv s1 ⟨y,H1,I1,ry,q1⟩=>thn (ho pins s1 σ H1 _ I1 q1) fun u s2 ⟨x,H2,I2,rx,a,ov,ex,g,q2⟩=>?_
 subst ex
 obtain rfl:u = Value.ref a:=rx
 exact xR3 hu I2 g ry fun s3 I3=>⟨.bl (!ov.isSome),H2,I3,rfl,q2⟩
theorem zF1 (hu:X.A.units + 1 < cLine) (ho:PE X o td) (hi:PE X i ty) (hv:PE X value tv) (hs:swapsWith value (some (.Subscript o i pos')) pos.line X.env = pure false) :
  PS X (.Assign [.Subscript o i pos'] value pos) (xZ3 td ty tv):=by
 intro pins s σ H D I h
 refine wpAny_Assign_Subscript (thn (hv pins s σ H _ I h) fun r s1 ⟨v,H1,I1,rv,q1⟩=>thn (ho pins s1 σ H1 _ I1 q1) fun u s2 ⟨x,H2,I2,rx,q2⟩=>thn (hi pins s2 σ H2 _ I2 q2) fun iv s3 ⟨y,H3,I3,ry,a,H4,ex,g,q3⟩=>?_) hs
 subst ex
 obtain rfl:u = Value.ref a:=rx
 exact xE9 hu I3 g ry rv fun s4 I4=>⟨σ,H4,I4,q3⟩
end
theorem yT9 {P:Program} {w:World} {H:Hp} (h:Heap) (hb:sysModules < h.objs.size):ObjOk P w H (h.push { cls:=.type "dict",data:=.dict #[] }) h.objs.size (.dK []) :=
 ⟨Nat.zero_le _,beq_eq_false_iff_ne.mpr (Ne.symm (Nat.ne_of_lt hb)),[],.nil,Heap.DictOf.new h⟩
noncomputable def xS4:TE:=fun _ H Q=>∀ p,H p = none->Q (.ref p) (upd H p (.dK []))
section
variable {X:Cx} {pos:Pos}
theorem zF4:PE X (.Dict [] [] pos) xS4:=fun pins s σ H Q I h =>
 wpAny_Dict_empty ⟨.ref s.heap.objs.size,_,I.laid (a:=s.heap.objs.size) (o:=.dK []) (t':=s.toks) (fun _ _ q=>Heap.get?_push_of_some _ q) (Nat.le_refl _) (yT9 s.heap I.big),rfl,h _ (I.hok.fresh (Nat.le_refl _))⟩
end
noncomputable def yX6:List (TE × TE)->St->Hp->(List (V × V)->Hp->Prop)->Prop
 | [],_,H,Q=>Q [] H
 | (tk,tv) :: r,σ,H,Q=>tk σ H fun x H1=>tv σ H1 fun y H2=>yX6 r σ H2 fun ps H3=>Q ((x,y) :: ps) H3
noncomputable abbrev VV:List (V × V)->List (Value × Value)->Prop:=Paired fun p q=>RelV p.1 q.1 /\ RelV p.2 q.2
noncomputable def PPs (X:Cx) (pos:Pos) (keys:List (Option Expr)) (values:List Expr) (trs:List (TE × TE)):Prop :=
 ∀ (pins:List (Addr × Obj)) (s:Shared) (σ:St) (H:Hp) (Q:List (V × V)->Hp->Prop),Inv X pins σ H s->yX6 trs σ H Q ->
  wpAny (model X.prog X.w) X.A (evalPairs (pairTrees keys values X.env pos)) (fun vs s'=>∃ ps H',Inv X pins σ H' s' /\ VV ps vs /\ Q ps H') X.xe s
theorem yM4 {X:Cx} {pos:Pos}:PPs X pos [] [] []:=fun pins s σ H Q I h=>pairTrees_nil_walk ⟨[],H,I,.nil,h⟩
theorem yC2 {X:Cx} {pos:Pos} {k v:Expr} {ks:List (Option Expr)} {vs:List Expr} {tk tv:TE} {trs:List (TE × TE)} (hk:PE X k tk) (hv:PE X v tv) (hr:PPs X pos ks vs trs) :
  PPs X pos (some k :: ks) (v :: vs) ((tk,tv) :: trs):=fun pins s σ H Q I h =>
 pairTrees_cons_walk (thn (hk pins s σ H _ I h) fun u s1 ⟨x,H1,I1,rx,q1⟩=>thn (hv pins s1 σ H1 _ I1 q1) fun w2 s2 ⟨y,H2,I2,ry,q2⟩ =>
  thn (hr pins s2 σ H2 _ I2 q2) fun ws s3 ⟨ps,H3,I3,rel,q3⟩=>⟨(x,y) :: ps,H3,I3,.cons ⟨rx,ry⟩ rel,q3⟩)
noncomputable def zJ6 (kvs more:List (Key × V)):List (Key × V):=more.foldl (fun acc kv=>putK acc kv.1 kv.2) kvs
theorem KV.merge:∀ {more:List (Key × V)} {rs:List (Key × Value)} {kvs:List (Key × V)} {vs:List (Key × Value)},KV more rs->KV kvs vs->KV (zJ6 kvs more) (merged vs rs):=by
 intro more rs kvs vs r
 unfold KV at r
 induction r generalizing kvs vs with
 | nil=>intro q; exact q
 | @cons p q ps qs h t ih =>
  intro r0
  have e:KV (putK kvs p.1 p.2) (stored vs q.1 q.2):=by
   have:=r0.put p.1 h.2
   rw [<- h.1]; exact this
  exact ih e
theorem zR6:∀ (more kvs:List (Key × V)),(zJ6 kvs more).length <= kvs.length + more.length
 | [],kvs=>by show kvs.length <= kvs.length + 0; omega
 | p :: r,kvs=>by
  have h1:=zR6 r (putK kvs p.1 p.2)
  have h2:=zF6 kvs p.1 p.2
  show (zJ6 (putK kvs p.1 p.2) r).length <= _
  rw [List.length_cons]; omega
theorem yA7 {P:Program} {w:World}:∀ {kvs:List (Key × V)} {ws:List (Value × Value)},VV (kvs.map fun kv=>(kV kv.1,kv.2)) ws->∃ rs,Carries (zD9 P w) ws rs /\ KV kvs rs
 | [],_,r=>by rw [List.map_nil] at r; cases r; exact ⟨[],True.intro,.nil⟩
 | p :: kvs,_,r=>by
  rw [List.map_cons] at r
  cases r with
  | @cons a b as bs h t =>
   obtain ⟨rs,c,q⟩:=yA7 (P:=P) (w:=w) t
   obtain ⟨b1,b2⟩:=b
   exact ⟨(p.1,b2) :: rs,⟨yJ5 h.1,rfl,c⟩,.cons ⟨rfl,h.2⟩ q⟩
noncomputable def xZ0 (trs:List (TE × TE)):TE:=fun σ H Q=>∀ p,H p = none->yX6 trs σ (upd H p (.dK [])) fun ps H2=>H2 p = some (.dK []) /\ ∃ kvs:List (Key × V),ps = kvs.map (fun kv=>(kV kv.1,kv.2)) /\ kvs.length <= 15 /\ Q (.ref p) (upd H2 p (.dK (zJ6 [] kvs)))
theorem yM7 {X:Cx} {pos:Pos} {keys:List (Option Expr)} {values:List Expr} {trs:List (TE × TE)} (h:PPs X pos keys values trs) (hall:keys.all (·.isSome) = true) (hl:keys.length = values.length) (h0:keys ≠ [])
  (h15:keys.length <= 15):PE X (.Dict keys values pos) (xZ0 trs):=by
 intro pins s σ H Q I q
 have hn:=I.hok.fresh (Nat.le_refl s.heap.objs.size)
 have I1:=I.laid (a:=s.heap.objs.size) (o:=.dK []) (h':=s.heap.push { cls:=.type "dict",data:=.dict #[] }) (t':=s.toks) (fun _ _ q=>Heap.get?_push_of_some _ q) (Nat.le_refl _) (yT9 s.heap I.big)
 refine wpAny_Dict_walk (knd:=zD9 X.prog X.w) hall hl h0 h15 (thn (h pins _ σ _ _ I1 (q _ hn)) fun ws s2 ⟨ps,H2,I2,rel,e,kvs,ep,lk,q2⟩=>?_)
 subst ep
 obtain ⟨rs,c,rk⟩:=yA7 (P:=X.prog) (w:=X.w) rel
 obtain ⟨z,hd,vs0,r0,dd⟩:=xE4 I2.hok e
 cases r0
 refine ⟨rs,c,dd,fun h' dd' hs=>⟨.ref s.heap.objs.size,_,?_,rfl,q2⟩⟩
 have hz:(zJ6 [] kvs).length <= sizeLine:=by
  have h1:=zR6 kvs []
  rw [List.length_nil] at h1
  rw [sizeLine_eq]; omega
 have he:∃ q,h'.get? s.heap.objs.size = some q:=let ⟨q,_,_,hq,_⟩:=dd'; ⟨q,hq⟩
 exact yF1 I2 (by rw [e]; exact True.intro) hs he (xE5 hz hd (rk.merge .nil) dd')
structure M1 (X:Cx) (o:Expr) (m:Str) (apos:Pos) (e:Expr) (cpos:Pos):Prop where
 base:attributeBase o m X.env (eval o X.env) = eval o X.env
 few:((backTo cpos (starEach [e] X.env)).all (fun x=>!x.1) && (backToKw cpos (keywordEach [] X.env)).all (fun x=>x.1.isSome)
  && decide (([e]:List Expr).length + ([]:List Keyword).length + (if ([]:List Keyword).isEmpty then 0 else 1) < 30)) = true
 line:(apos.endLine == cpos.line) = true
 trees:backTo cpos (starEach [e] X.env) = [(false,eval e X.env)]
structure M2 (X:Cx) (o:Expr) (m:Str) (apos:Pos) (e f:Expr) (cpos:Pos):Prop where
 base:attributeBase o m X.env (eval o X.env) = eval o X.env
 few:((backTo cpos (starEach [e,f] X.env)).all (fun x=>!x.1) && (backToKw cpos (keywordEach [] X.env)).all (fun x=>x.1.isSome)
  && decide (([e,f]:List Expr).length + ([]:List Keyword).length + (if ([]:List Keyword).isEmpty then 0 else 1) < 30)) = true
 line:(apos.endLine == cpos.line) = true
 trees:backTo cpos (starEach [e,f] X.env) = [(false,eval e X.env),(false,eval f X.env)]
noncomputable def IsD (H:Hp) (a:Addr):Prop:=(∃ kvs,Rd H a (.dK kvs)) \/ ∃ kvs,Rd H a (.dT kvs)
theorem xM7 {X:Cx} {pins:List (Addr × Obj)} {σ:St} {H:Hp} {s:Shared} {a:Addr} (I:Inv X pins σ H s) (d:IsD H a) :
  s.TypeIs (.ref a) "dict" /\ (∀ b,Value.ref a = .ref b->∃ ob,s.heap.get? b = some ob /\ ob.dict = none) /\ (a == sysModules) = false:=by
 rcases d with ⟨kvs,e⟩ | ⟨kvs,e⟩
 ·obtain ⟨_,hd,vs,_,dd⟩:=yO2 I.hok e
  refine ⟨dd.typeIs,fun b q=>?_,hd⟩
  cases q
  obtain ⟨ob,_,_,h1,h2,_⟩:=dd
  exact ⟨ob,h1,h2.2.1⟩
 ·obtain ⟨_,hd,xs,_,dd⟩:=yO1 I.hok e
  refine ⟨dd.typeIs,fun b q=>?_,hd⟩
  cases q
  obtain ⟨ob,_,_,h1,h2,_⟩:=dd
  exact ⟨ob,h1,h2.2.1⟩
section
variable {X:Cx} {pins:List (Addr × Obj)} {σ:St} {H:Hp} {s:Shared} {a:Addr} {y d:V} {u r:Value} {o:Option V} {A:Around} {E:Value->Shared->Prop}
theorem xX1 {Q:Value->Shared->Prop} (hu:A.units + 1 < cLine) (I:Inv X pins σ H s) (g:DGet H a y o) (ry:RelV y u) (rd:RelV d r) (h:∀ w' s',Inv X pins σ H s'->RelV (o.getD d) w'->Q w' s') :
  wpAny (model X.prog X.w) A (call (.builtin "dict.get") [.ref a,u,r]) Q E s:=by
 rcases g with ⟨kvs,k,e,ey,l⟩ | ⟨kvs,k,b,e,ey,eb,l⟩
 ·subst ey
  obtain ⟨z,hd,vs,rel,dd⟩:=yO2 I.hok e
  refine call_meetsIn PySem.F.slot_dict_get dd.typeIs PySem.F.entry_dict_get (PySem.F.args_dict_get_3 _ _ _) (meets_dict_get_default (zD9 X.prog X.w) a (yJ5 ry) hd r) ⟨_,dd.mapOf,h _ _ (I.tok _) ?_⟩
  rw [l]
  exact (rel.val k).getD rd
 ·subst ey
  cases (show u = Value.ref b from ry)
  obtain ⟨z,hd,xs,rel,dd⟩:=yO1 I.hok e
  refine call_meetsIn PySem.F.slot_dict_get dd.typeIs PySem.F.entry_dict_get (PySem.F.args_dict_get_3 _ _ _) (meetsH_dict_get_default (tupleKind (zD9 X.prog X.w)) a b hd r) ⟨tupleKind_room_in1 hu,k,xs,yA4 I.hok eb,dd,h _ _ (I.tok _) ?_⟩
  rw [l]
  exact (rel.val k).getD rd
end
noncomputable def xS5 (td ty tx:TE):TE:=fun σ H Q=>td σ H fun x H1=>∃ a,x = .ref a /\ IsD H1 a /\ ty σ H1 fun y H2=>tx σ H2 fun z H3=>∃ o,DGet H3 a y o /\ Q (o.getD z) H3
noncomputable def xS3 (td ty:TE):TE:=fun σ H Q=>td σ H fun x H1=>∃ a,x = .ref a /\ IsD H1 a /\ ty σ H1 fun y H2=>∃ kvs k v,H2 a = some (.dK kvs) /\ y = kV k /\ valV kvs k = some v /\ Q v (upd H2 a (.dK (yF0 kvs k)))
section
variable {X:Cx} {o e f:Expr} {apos cpos:Pos} {td ty tx:TE}
theorem yC4 (hu:X.A.units + 1 < cLine) (ho:PE X o td) (he:PE X e ty) (hf:PE X f tx) (m:M2 X o "get" apos e f cpos):PE X (.Call (.Attribute o "get" apos) [e,f] [] cpos) (xS5 td ty tx):=by
 intro pins s σ H Q I h
 refine wpAny_Call_method m.base m.few m.line PySem.F.plainAttrs_dict PySem.F.slot_dict_get PySem.F.type_dict_get (thn (ho pins s σ H _ I h) fun u s1 ⟨x,H1,I1,rx,a,ex,d,q1⟩=>?_)
 subst ex
 obtain rfl:u = Value.ref a:=rx
 obtain ⟨t1,t2,_⟩:=xM7 I1 d
 refine ⟨t1,t2,?_⟩
 rw [m.trees]
 refine Calls.callWith_builtin rfl (Calls.evalArgs_plain (Calls.spliced_cons (thn (he pins s1 σ H1 _ I1 q1) fun iv s2 ⟨y,H2,I2,ry,q2⟩ =>
  Calls.spliced_cons (thn (hf pins s2 σ H2 _ I2 q2) fun fv s3 ⟨z,H3,I3,rz,ov,g,q3⟩=>Calls.spliced_nil ?_))))
 exact xX1 hu I3 g ry rz fun w' s4 I4 rw'=>⟨_,H3,I4,rw',q3⟩
theorem xH4 (ho:PE X o td) (he:PE X e ty) (m:M1 X o "pop" apos e cpos):PE X (.Call (.Attribute o "pop" apos) [e] [] cpos) (xS3 td ty):=by
 intro pins s σ H Q I h
 refine wpAny_Call_method m.base m.few m.line PySem.F.plainAttrs_dict PySem.F.slot_dict_pop PySem.F.type_dict_pop (thn (ho pins s σ H _ I h) fun u s1 ⟨x,H1,I1,rx,a,ex,d,q1⟩=>?_)
 subst ex
 obtain rfl:u = Value.ref a:=rx
 obtain ⟨t1,t2,_⟩:=xM7 I1 d
 refine ⟨t1,t2,?_⟩
 rw [m.trees]
 refine Calls.callWith_builtin rfl (Calls.evalArgs_plain (Calls.spliced_cons (thn (he pins s1 σ H1 _ I1 q1) fun iv s2 ⟨y,H2,I2,ry,kvs,k,v,ea,ey,l,q2⟩=>Calls.spliced_nil ?_)))
 subst ey
 exact wA9 I2 ea ry l (.inl rfl) fun w' s3 I3 rw'=>⟨v,_,I3,rw',q2⟩
end
section
variable {X:Cx} {pins:List (Addr × Obj)} {σ:St} {H:Hp} {s:Shared} {a:Addr} {kvs:List (Key × V)} {A:Around} {E:Value->Shared->Prop}
end
section
variable {X:Cx} {pins:List (Addr × Obj)} {σ:St} {H:Hp} {s:Shared} {a:Addr} {y:V} {u:Value} {A:Around} {E:Value->Shared->Prop}
end
end L2
namespace HT
open PySem PyProof.Rows
section
open PySem.SeqAt
open PySem.AutoSeq1 (wpAny_loadPart')
open PySem.MeetsSeq PySem.MeetsSeq2 PySem.MeetsSeq3
end
section
variable {prog:Program} {w:World} {A:Around} {E:Value->Shared->Prop} {s:Shared}
noncomputable def sIx (n d:Nat):Option Int->Nat
 | none=>d
 | some v=>if v < 0 then (v + (n:Int)).toNat else min v.toNat n
theorem sIx_nat (n d k:Nat):sIx n d (some (k:Int)) = min k n:=by
 show (if (k:Int) < 0 then ((k:Int) + (n:Int)).toNat else min (k:Int).toNat n) = min k n
 rw [if_neg (by omega),Int.toNat_natCast]
end
end HT
namespace L2
open PySem PySem.Spec PyProof.Rows
noncomputable abbrev TO:=St->Hp->(Option Int->Hp->Prop)->Prop
noncomputable def PO (X:Cx) (e:Option Expr) (t:TO):Prop :=
 ∀ (pins:List (Addr × Obj)) (s:Shared) (σ:St) (H:Hp) (Q:Option Int->Hp->Prop),Inv X pins σ H s->t σ H Q ->
  wpAny (model X.prog X.w) X.A (evalPart e X.env) (fun u s'=>∃ o H',Inv X pins σ H' s' /\ IsPart u o /\ Q o H') X.xe s
noncomputable def xO1:TO:=fun _ H Q=>Q none H
noncomputable def xY6 (t:TE):TO:=fun σ H Q=>t σ H fun x H1=>∃ i,x = .int i /\ Q (some i) H1
section
variable {X:Cx} {e:Expr} {te:TE} {lo hi:Option Expr} {tl th:TO} {pos p2:Pos}
theorem xP2:PO X none xO1:=by
 intro pins s σ H Q I h
 rw [evalPart_none]
 exact wpAny_pure ⟨none,H,I,.none,h⟩
theorem yM5 (h:PE X e te):PO X (some e) (xY6 te):=by
 intro pins s σ H Q I hw
 rw [evalPart_some]
 refine thn (h pins s σ H _ I hw) fun u s1 ⟨x,H1,I1,r1,q1⟩=>?_
 obtain ⟨i,rfl,q⟩:=q1
 obtain ⟨t,rfl⟩:=r1
 exact ⟨some i,H1,I1,.int i t,q⟩
noncomputable def SlR (X:Cx) (r:V->Option Int->Option Int->Hp->VK->Prop):Prop :=
 ∀ (pins:List (Addr × Obj)) (s:Shared) (σ:St) (H:Hp) (x:V) (v vl vu:Value) (lo hi:Option Int) (sl:Addr) (Q:VK),Inv X pins σ H s->RelV x v->s.heap.IsSliceOf sl vl vu .none->IsPart vl lo->IsPart vu hi->r x lo hi H Q ->
  ∃ T id,typeLookup (.type T) "__getitem__" = pure (some (.builtin id)) /\ s.TypeIs v T /\ wpAny (model X.prog X.w) X.A (getItem v (.ref sl)) (EP X pins σ Q) X.xe s
noncomputable def tSl (r:V->Option Int->Option Int->Hp->VK->Prop) (te:TE) (tl th:TO):TE:=fun σ H Q=>te σ H fun x H1=>tl σ H1 fun l H2=>th σ H2 fun u H3=>r x l u H3 Q
theorem yR9 {r:V->Option Int->Option Int->Hp->VK->Prop} (hr:SlR X r) (he:PE X e te) (hl:PO X lo tl) (hu:PO X hi th):PE X (.Subscript e (.Slice lo hi none p2) pos) (tSl r te tl th):=by
 intro pins s σ H Q I h
 refine Subscript_ (thn (he pins s σ H _ I h) fun v s1 ⟨x,H1,I1,r1,q1⟩=>?_)
 refine wpAny_Slice (thn (hl pins s1 σ H1 _ I1 q1) fun vl s2 ⟨l,H2,I2,pl,q2⟩=>thn (hu pins s2 σ H2 _ I2 q2) fun vu s3 ⟨u,H3,I3,pu,q3⟩=>?_)
 rw [evalPart_none]
 refine wpAny_pure ?_
 have I4:Inv X pins σ H3 { s3 with heap:=s3.heap.push { cls:=.type "slice",data:=.fields #[vl,vu,.none] } }:=I3.kept (t':=s3.toks) fun b ob q=>Heap.get?_push_of_some _ q
 obtain ⟨T,id,hT,ht,hg⟩:=hr pins { s3 with heap:=s3.heap.push { cls:=.type "slice",data:=.fields #[vl,vu,.none] } } σ H3 x v vl vu l u s3.heap.objs.size Q I4 r1 (Heap.IsSliceOf.new ..) pl pu q3
 show wpAny (model X.prog X.w) X.A (subscriptTail e (.Slice lo hi none p2) v (.ref s3.heap.objs.size)) (EP X pins σ Q) X.xe { s3 with heap:=s3.heap.push { cls:=.type "slice",data:=.fields #[vl,vu,.none] } }
 exact tail_any (ops:=[.ref s3.heap.objs.size,v]) ht hT hg (by with_unfolding_all rfl)
noncomputable def cutV (xs:List V) (lo hi:Option Int):List V:=(xs.drop (HT.sIx xs.length 0 lo)).take (HT.sIx xs.length xs.length hi - HT.sIx xs.length 0 lo)
theorem yO5 (xs:List V) (lo hi:Option Int):(cutV xs lo hi).length <= xs.length:=by
 unfold cutV
 rw [List.length_take,List.length_drop]
 omega
end
end L2
namespace L2
open PySem PySem.Spec PyProof.Rows
noncomputable def ixN (n:Nat) (i:Int):Option Nat:=if 0 <= i then (if i < n then some i.toNat else none) else if -(n:Int) <= i then some (i + n).toNat else none
noncomputable def atI {α:Type} (xs:List α) (i:Int):Option α:=(ixN xs.length i).bind fun j=>xs[j]?
theorem xC7 {n:Nat} {i:Int} {j:Nat} (h:ixN n i = some j):seqIndex? i n = some j /\ j < n /\ -(n:Int) <= i /\ i < n:=by
 unfold ixN at h
 by_cases h0:0 <= i
 ·rw [if_pos h0] at h
  by_cases h1:i < n
  ·rw [if_pos h1] at h
   have e:i.toNat = j:=Option.some.inj h
   exact ⟨by rw [seqIndex_of h0 h1,e],by omega,by omega,h1⟩
  ·rw [if_neg h1] at h; cases h
 ·rw [if_neg h0] at h
  by_cases h1:-(n:Int) <= i
  ·rw [if_pos h1] at h
   have e:(i + n).toNat = j:=Option.some.inj h
   exact ⟨by rw [seqIndex_neg (by omega) h1,e],by omega,h1,by omega⟩
  ·rw [if_neg h1] at h; cases h
theorem yP2 {α:Type} {xs:List α} {i:Int} {v:α} (h:atI xs i = some v):∃ j,seqIndex? i xs.length = some j /\ xs[j]? = some v /\ j < xs.length /\ -(xs.length:Int) <= i /\ i < xs.length:=by
 unfold atI at h
 cases e:ixN xs.length i with
 | none=>rw [e] at h; cases h
 | some j =>
  rw [e] at h
  obtain ⟨h1,h2,h3,h4⟩:=xC7 e
  exact ⟨j,h1,h,h2,h3,h4⟩
theorem zU0 {α:Type} {xs:List α} {j:Nat} {v:α} (h:xs[j]? = some v):atI xs (j:Int) = some v:=by
 have hj:j < xs.length:=(List.getElem?_eq_some_iff.mp h).1
 have e:ixN xs.length (j:Int) = some j:=by
  unfold ixN
  rw [if_pos (by omega),if_pos (by omega)]; simp
 unfold atI; rw [e]; exact h
noncomputable def xR8 (b:Expr):Prop:=∀ o i,subscripted b false o i = operate [o,i] (getItem o i)
noncomputable def IxR (X:Cx) (r:R2):Prop :=
 ∀ (value slice:Expr) (pins:List (Addr × Obj)) (s:Shared) (σ:St) (H:Hp) (x y:V) (v u:Value) (Q:VK),Inv X pins σ H s->RelV x v->RelV y u->r x y H Q ->
  subscripted slice false v u = operate [v,u] (getItem v u)->wpAny (model X.prog X.w) X.A (subscriptTail value slice v u) (EP X pins σ Q) X.xe s
noncomputable def MtR (X:Cx) (id:String) (r:V->List V->Hp->VK->Prop):Prop :=
 ∀ (pins:List (Addr × Obj)) (s:Shared) (σ:St) (H:Hp) (x:V) (xs:List V) (v:Value) (us:List Value) (Q:VK),Inv X pins σ H s->RelV x v->Vals xs us->r x xs H Q ->
  wpAny (model X.prog X.w) X.A (call (.builtin id) (v :: us)) (EP X pins σ Q) X.xe s
section
variable {X:Cx} {a b:Expr} {ta tb:TE} {pos:Pos}
theorem zB4 {r:R2} (hr:IxR X r) (ha:PE X a ta) (hb:PE X b tb) (hs:xR8 b):PE X (.Subscript a b pos) (tOp r ta tb):=by
 intro pins s σ H Q I h
 exact Subscript_ (binT ha hb I h fun v u s2 x y H2 I2 rx ry q=>hr a b pins s2 σ H2 x y v u Q I2 rx ry q (hs _ _))
noncomputable def rIxL (K:PySem.W.Frag):R2:=fun x y H Q=>∃ p xs i v,x = .ref p /\ y = .int i /\ SqL K H p xs /\ atI xs i = some v /\ Q v H
noncomputable def rIxT (K:PySem.W.Frag):R2:=fun x y H Q=>∃ p xs i v,x = .ref p /\ y = .int i /\ SqT K H p xs /\ atI xs i = some v /\ Q v H
noncomputable def rIxS:R2:=fun x y H Q=>∃ z i c,x = .str z /\ y = .int i /\ z.length <= sizeLine /\ atI z.cps.toList i = some c /\ Q (.str ⟨#[c]⟩) H
theorem xQ5:IxR X (rIxL X.K):=by
 intro value slice pins s σ H x y v u Q I rx ry h hs
 obtain ⟨p,xs,i,z,rfl,rfl,hq,he,q⟩:=h
 cases rx
 obtain ⟨t,rfl⟩:=ry
 obtain ⟨its,r,pl,hz⟩:=I.list hq
 obtain ⟨j,h1,h2,h3,h4,h5⟩:=yP2 he
 obtain ⟨w,ew,rw'⟩:=r.get h2
 have hl:=r.length
 have hn:=yJ3
 have fin:EP X pins σ Q w s:=⟨z,H,I,rw',q⟩
 by_cases h0:0 <= i
 ·have hj:i.toNat = j:=by
   rw [seqIndex_of h0 h5] at h1
   exact Option.some.inj h1
  exact item_listR pl.isList h0 (by omega) (by rw [hj]; simpa using ew) fin hs
 ·have hj:(i + (its.toArray.size:Int)).toNat = j:=by
   rw [seqIndex_neg (by omega) h4] at h1
   rw [List.size_toArray,<- hl]
   exact Option.some.inj h1
  exact subscriptTail_builtinR (x:=w) pl.isList.typeIs slot_list_getitem.lookup
   (wpAny_getItem_list_neg (Q:=fun r s'=>r = w /\ EP X pins σ Q r s') pl.isList (by omega) (by rw [List.size_toArray] <;> omega) (by omega) (by rw [hj]; simpa using ew) ⟨rfl,fin⟩) hs
theorem xV7:IxR X (rIxT X.K):=by
 intro value slice pins s σ H x y v u Q I rx ry h hs
 obtain ⟨p,xs,i,z,rfl,rfl,hq,he,q⟩:=h
 cases rx
 obtain ⟨t,rfl⟩:=ry
 obtain ⟨its,r,pl,hz⟩:=I.tuple hq
 obtain ⟨j,h1,h2,h3,h4,h5⟩:=yP2 he
 obtain ⟨w,ew,rw'⟩:=r.get h2
 have hl:=r.length
 have hn:=yJ3
 have fin:EP X pins σ Q w s:=⟨z,H,I,rw',q⟩
 exact subscriptTail_builtinR (x:=w) pl.typeIs slot_tuple_getitem.lookup
  (getItem_tuple (j:=j) (Q:=fun r s'=>r = w /\ EP X pins σ Q r s') pl (by omega) (by omega) (by rw [List.size_toArray,<- hl]; exact h1) (by simpa using ew) ⟨rfl,fin⟩) hs
theorem xV8:IxR X rIxS:=by
 intro value slice pins s σ H x y v u Q I rx ry h hs
 obtain ⟨z,i,c,rfl,rfl,hz,he,q⟩:=h
 obtain ⟨t,rfl⟩:=rx
 obtain ⟨t',rfl⟩:=ry
 obtain ⟨j,h1,h2,h3,h4,h5⟩:=yP2 he
 have hl:z.cps.toList.length = z.length:=by simp [Str.length]
 rw [hl] at h1 h4 h5
 have hn:=yJ3
 exact tail_any (typeIs_str s z t) slot_str_getitem.lookup (getItem_str (c:=c) (by
  have e1:decide (i < -(2 ^ 63:Int)) = false:=decide_eq_false (by omega)
  have e2:decide (i ≥ 2 ^ 63) = false:=decide_eq_false (by omega)
  rw [e1,e2,Bool.or_false]) (by rw [h1]; simpa using h2) ⟨.str ⟨#[c]⟩,H,I.tok _,⟨_,rfl⟩,q⟩) hs
theorem yW4 (its:List Value) (n j:Nat) (u:Value):Obj.mapSeq (·.setIfInBounds j u) { cls:=.type "list",data:=.seq its.toArray n } = { cls:=.type "list",data:=.seq (its.set j u).toArray n }:=by
 simp [Obj.mapSeq]
theorem Inv.lst {pins:List (Addr × Obj)} {σ:St} {H:Hp} {s:Shared} {p:Addr} {xs:List V} (I:Inv X pins σ H s) (h:H p = some (.lst xs)) :
  ∃ (its:List Value) (n:Nat),Vals xs its /\ s.heap.get? p = some { cls:=.type "list",data:=.seq its.toArray n } /\ xs.length <= sizeLine:=by
 obtain ⟨z,its,n,r,e⟩:=I.hok p _ h
 exact ⟨its,n,r,e,z⟩
theorem Inv.lstUpd {pins:List (Addr × Obj)} {σ:St} {H:Hp} {s:Shared} {p:Addr} {xs ys:List V} {its its':List Value} {n n':Nat} {f:Obj->Obj} (I:Inv X pins σ H s) (h:H p = some (.lst xs))
  (ho:s.heap.get? p = some { cls:=.type "list",data:=.seq its.toArray n }) (hf:f { cls:=.type "list",data:=.seq its.toArray n } = { cls:=.type "list",data:=.seq its'.toArray n' }) (r:Vals ys its') (hz:ys.length <= sizeLine) (t:Nat) :
  Inv X pins σ (upd H p (.lst ys)) { s with heap:=s.heap.update p f,toks:=t }:=by
 have e:(s.heap.update p f).get? p = some { cls:=.type "list",data:=.seq its'.toArray n' }:=by
  rw [Heap.get?_update_self f ho (by rw [hf] <;> rfl),hf]
 refine I.write (x:=p) (e:=p) (by rw [h]; trivial) (.inl rfl) (fun b u hb q=>(Heap.get?_update_other _ _ (Ne.symm hb)).trans q) ⟨_,e⟩ ?_
 exact ⟨hz,its',n',r,e⟩
noncomputable def xZ6:V->V->V->Hp->(Hp->Prop)->Prop:=fun o i v H Q=>∃ p xs k j,o = .ref p /\ i = .int k /\ H p = some (.lst xs) /\ ixN xs.length k = some j /\ Q (upd H p (.lst (xs.set j v)))
theorem yQ9:PSet X xZ6:=by
 intro pins s σ H o i v ov iv u Q I ro ri rv h
 obtain ⟨p,xs,k,j,rfl,rfl,hp,hj,q⟩:=h
 cases ro
 obtain ⟨t,rfl⟩:=ri
 obtain ⟨its,n,r,ho,hz⟩:=I.lst hp
 obtain ⟨h1,h2,h3,h4⟩:=xC7 hj
 have hl:=r.length
 have hn:=yJ3
 have I':Inv X pins σ (upd H p (.lst (xs.set j v))) { s with heap:=s.heap.update p (Obj.mapSeq (·.setIfInBounds j u)) } :=
  I.lstUpd hp ho (yW4 its n j u) (r.set rv j) (by rw [List.length_set]; exact hz) s.toks
 by_cases h0:0 <= k
 ·have hk:k.toNat = j:=by
   rw [seqIndex_of h0 h4] at h1
   exact Option.some.inj h1
  exact PySem.W.ki_setAt ho h0 (by omega) (by rw [List.size_toArray,<- hl]; exact h4) (by rw [hk]; exact ⟨_,I',q⟩)
 ·have hk:(k + (its.toArray.size:Int)).toNat = j:=by
   rw [seqIndex_neg (by omega) h3] at h1
   rw [List.size_toArray,<- hl]
   exact Option.some.inj h1
  exact PySem.W.ki_setBack ho (by omega) (by rw [List.size_toArray,<- hl]; exact h3) (by omega) (by rw [hk]; exact ⟨_,I',q⟩)
theorem yH5 (lo hi:Option Int) (n:Nat):(sliceBounds lo hi none n).1 = ((HT.sIx n 0 lo:Nat):Int) /\ (sliceBounds lo hi none n).2.1 = ((HT.sIx n n hi:Nat):Int) /\ (sliceBounds lo hi none n).2.2 = 1:=by
 refine ⟨?_,?_,rfl⟩
 ·cases lo with
  | none=>simp [sliceBounds,HT.sIx]
  | some i =>
   simp only [sliceBounds,HT.sIx,Option.getD_none,show (1:Int) > 0 by decide,if_true]
   by_cases h:i < 0
   ·simp only [h,if_true] <;> omega
   ·simp only [h,if_false] <;> omega
 ·cases hi with
  | none=>simp [sliceBounds,HT.sIx]
  | some i =>
   simp only [sliceBounds,HT.sIx,Option.getD_none,show (1:Int) > 0 by decide,if_true]
   by_cases h:i < 0
   ·simp only [h,if_true] <;> omega
   ·simp only [h,if_false] <;> omega
theorem yB8 (its:List Value) (lo hi:Option Int):slicePick its.toArray lo hi none = ((its.drop (HT.sIx its.length 0 lo)).take (HT.sIx its.length its.length hi - HT.sIx its.length 0 lo)).toArray:=by
 obtain ⟨h1,h2,h3⟩:=yH5 lo hi its.toArray.size
 unfold slicePick
 rw [h1,h2,h3]
 simp only [sliceRange_one,pick_run,List.size_toArray] <;> rfl
noncomputable def rSlL (K:PySem.W.Frag):V->Option Int->Option Int->Hp->VK->Prop:=fun x lo hi H Q=>∃ a xs,x = .ref a /\ SqL K H a xs /\ ∀ p,H p = none->Q (.ref p) (upd H p (.lst (cutV xs lo hi)))
theorem xO6:SlR X (rSlL X.K):=by
 intro pins s σ H x v vl vu lo hi sl Q I rx hs pl pu h
 obtain ⟨a,xs,rfl,hx,q⟩:=h
 cases rx
 obtain ⟨its,r,ht,hz⟩:=I.list hx
 have hlen:=r.length
 refine ⟨"list",_,slot_list_getitem.lookup,ht.isList.typeIs,?_⟩
 refine wpAny_getItem_list_slice ht.isList hs pl pu .none (by simp) ?_ (by rw [List.size_toArray] <;> omega)
 rw [yB8,<- hlen]
 refine ⟨.ref s.heap.objs.size,_,I.laid (t':=s.toks) (o:=.lst (cutV xs lo hi)) (fun b ob q=>Heap.get?_push_of_some _ q) (Nat.le_refl _) ?_,rfl,q _ (I.hok.fresh (Nat.le_refl _))⟩
 exact ⟨Nat.le_trans (yO5 xs lo hi) hz,_,0,(r.drop (HT.sIx xs.length 0 lo)).take (HT.sIx xs.length xs.length hi - HT.sIx xs.length 0 lo),Heap.get?_push_size _ rfl⟩
theorem yK4:zO3 X (.type "list") (fun xs H Q=>∃ p ys,xs = [.ref p] /\ (SqL X.K H p ys \/ SqT X.K H p ys) /\ ∀ l,H l = none->Q (.ref l) (upd H l (.lst ys))):=by
 intro pins s σ H xs us Q I r h
 obtain ⟨p,ys,rfl,hq,q⟩:=h
 obtain ⟨u,rfl,rx⟩:=zU3 r
 cases rx
 have fin:∀ (its:List Value),Vals ys its->ys.length <= sizeLine->∀ (h':Heap) (c':Nat),(∀ b o',s.heap.get? b = some o'->h'.get? b = some o') ->
   h'.get? s.heap.objs.size = some { cls:=.type "list",dict:=none,data:=.seq its.toArray c',slots:=#[] }->EP X pins σ Q (.ref s.heap.objs.size) { s with heap:=h' }:=fun its r' hz h' c' kp e =>
  ⟨.ref s.heap.objs.size,_,I.laid (t':=s.toks) kp (Nat.le_refl _) (show ObjOk X.prog X.w _ h' _ (.lst ys) from ⟨hz,its,c',r',e⟩),rfl,q _ (I.hok.fresh (Nat.le_refl _))⟩
 rcases hq with hq | hq
 ·obtain ⟨its,r',pl,hz⟩:=I.list hq
  have hlen:=r'.length
  obtain ⟨o,ho,hc,n,hd⟩:=pl.isList
  exact call_list_seq p (.inl rfl) ho hc hd (fun h' c' kp e=>fin its r' hz h' c' kp e) (by simp only [List.size_toArray] <;> omega)
 ·obtain ⟨its,r',pl,hz⟩:=I.tuple hq
  have hlen:=r'.length
  obtain ⟨o,ho,hc,n,hd⟩:=pl
  exact call_list_seq p (.inr rfl) ho hc hd (fun h' c' kp e=>fin its r' hz h' c' kp e) (by simp only [List.size_toArray] <;> omega)
noncomputable def tyV (K:PySem.W.Frag) (T:String) (x:V) (H:Hp):Prop:=match x with
 | .str _=>T = "str"
 | .int _=>T = "int"
 | .ref p=>(T = "list" /\ ∃ xs,SqL K H p xs) \/ (T = "tuple" /\ ∃ o,K.lookup p = some o /\ o.cls = .type "tuple" /\ o.dict = none) \/
   (T = "dict" /\ ((∃ kvs,H p = some (.dK kvs)) \/ ∃ kvs,H p = some (.dT kvs))) \/ (T = "set" /\ ∃ S n,H p = some (.set S n))
 | _=>False
theorem xK6 {pins:List (Addr × Obj)} {σ:St} {H:Hp} {s:Shared} {T:String} {x:V} {v:Value} (I:Inv X pins σ H s) (r:RelV x v) (ty:tyV X.K T x H) :
  s.TypeIs v T /\ ∀ a,v = .ref a->∃ ob,s.heap.get? a = some ob /\ ob.dict = none:=by
 cases x with
 | str z =>
  obtain ⟨t,rfl⟩:=r
  cases (show T = "str" from ty)
  exact ⟨typeIs_str s z t,fun _ e=>nomatch e⟩
 | int i =>
  obtain ⟨t,rfl⟩:=r
  cases (show T = "int" from ty)
  exact ⟨typeIs_int s i t,fun _ e=>nomatch e⟩
 | ref p =>
  cases r
  rcases ty with ⟨rfl,xs,hq⟩ | ⟨rfl,o,hk,hc,hd⟩ | ⟨rfl,hk⟩ | ⟨rfl,S,n,hk⟩
  ·obtain ⟨its,_,pl,_⟩:=I.list hq
   refine ⟨pl.isList.typeIs,fun a e=>?_⟩
   cases e
   obtain ⟨o,n,e,c,hd,_⟩:=pl
   exact ⟨o,e,hd⟩
  ·refine ⟨⟨o,I.kIn p o hk,hc⟩,fun a e=>?_⟩
   cases e
   exact ⟨o,I.kIn _ o hk,hd⟩
  ·have z:∃ o,s.heap.get? p = some o /\ o.ExactDict:=by
    rcases hk with ⟨kvs,hk⟩ | ⟨kvs,hk⟩
    ·obtain ⟨_,_,_,_,o,_,_,e,ex,_⟩:=I.hok p _ hk
     exact ⟨o,e,ex⟩
    ·obtain ⟨_,_,_,_,o,_,_,e,ex,_⟩:=I.hok p _ hk
     exact ⟨o,e,ex⟩
   obtain ⟨o,e,ex⟩:=z
   refine ⟨⟨o,e,ex.1⟩,fun a e2=>?_⟩
   cases e2
   exact ⟨o,e,ex.2.1⟩
  ·obtain ⟨o,_,_,_,e,ex,_⟩:=I.hok p _ hk
   refine ⟨⟨o,e,ex.1⟩,fun a e2=>?_⟩
   cases e2
   exact ⟨o,e,ex.2.1⟩
 | _=>exact False.elim ty
noncomputable def tBM0 (K:PySem.W.Frag) (T:String) (r:V->List V->Hp->VK->Prop) (to:TE):TE:=fun σ H Q=>to σ H fun x H1=>tyV K T x H1 /\ r x [] H1 Q
noncomputable def tBM (K:PySem.W.Frag) (T:String) (r:V->List V->Hp->VK->Prop) (to:TE) (t:TA):TE:=fun σ H Q=>to σ H fun x H1=>tyV K T x H1 /\ t σ H1 fun xs H2=>r x xs H2 Q
variable {o e:Expr} {es:List Expr} {to:TE} {t:TA} {name:Str} {apos cpos:Pos} {T id:String} {r:V->List V->Hp->VK->Prop}
theorem xU3 (pa:PlainAttrs T) (slot:Slot T name id) (hty:typeOf (.builtin id) = pure (.type "method_descriptor")) (hm:MtR X id r) (ho:PE X o to)
  (hbase:attributeBase o name X.env (eval o X.env) = eval o X.env:=by rfl) (hline:(apos.endLine == cpos.line) = true:=by rfl):PE X (.Call (.Attribute o name apos) [] [] cpos) (tBM0 X.K T r to):=by
 intro pins s σ H Q I h
 refine wpAny_Call_method0_late hbase hline (thn (ho pins s σ H _ I h) fun v s1 ⟨x,H1,I1,r1,ty,q1⟩=>?_)
 obtain ⟨h1,h2⟩:=xK6 I1 r1 ty
 exact ⟨T,id,pa,slot,hty,h1,h2,Calls.callWith_builtin rfl (PySem.evalArgs_none (hm pins s1 σ H1 x [] v [] Q I1 r1 .nil q1))⟩
theorem yC5 (pa:PlainAttrs T) (slot:Slot T name id) (hty:typeOf (.builtin id) = pure (.type "method_descriptor")) (hm:MtR X id r) (ho:PE X o to) (ha:PA X (e :: es) t)
  (hbase:attributeBase o name X.env (eval o X.env) = eval o X.env:=by rfl)
  (hfew:((backTo cpos (starEach (e :: es) X.env)).all (fun x=>!x.1) && (backToKw cpos (keywordEach [] X.env)).all (fun x=>x.1.isSome)
   && decide ((e :: es).length + ([]:List Keyword).length + (if ([]:List Keyword).isEmpty then 0 else 1) < 30)) = true:=by rfl)
  (hline:(apos.endLine == cpos.line) = true:=by rfl) (hs:starEach (e :: es) X.env = (false,eval e X.env) :: starEach es X.env:=by rfl) (hplain:(backTo cpos (starEach es X.env)).any (·.1) = false:=by rfl) :
  PE X (.Call (.Attribute o name apos) (e :: es) [] cpos) (tBM X.K T r to t):=by
 intro pins s σ H Q I h
 refine wpAny_Call_method_late hbase hfew hline rfl (thn (ho pins s σ H _ I h) fun v s1 ⟨x,H1,I1,r1,ty,q1⟩=>?_)
 obtain ⟨h1,h2⟩:=xK6 I1 r1 ty
 refine ⟨T,id,pa,slot,hty,h1,h2,?_⟩
 have hA:=ha cpos pins s1 σ H1 _ I1 q1
 rw [hs] at hA ⊢
 refine Calls.callWith_builtin (by show (false || (backTo cpos (starEach es X.env)).any (·.1)) = false; rw [hplain] <;> rfl) (Calls.evalArgs_plain ?_)
 exact thn hA fun us s2 ⟨vs,H2,I2,r2,q2⟩=>hm pins s2 σ H2 x vs v us Q I2 r1 r2 q2
end
end L2
namespace L2
open PySem PySem.Spec PyProof.Rows
noncomputable def MtM (X:Cx) (id:String) (r:V->List V->Hp->VK->Prop):Prop :=
 ∀ (pins:List (Addr × Obj)) (s:Shared) (σ:St) (H:Hp) (x:V) (xs:List V) (v:Value) (us:List Value) (Q:VK),Inv X pins σ H s->RelV x v->Vals xs us->r x xs H Q ->
  wpAny (model X.prog X.w) X.A (call (.builtin id) (v :: us)) (EP X pins σ Q) X.xe s
theorem Vals.one:∀ {x:V} {us:List Value},Vals [x] us->∃ u,us = [u] /\ RelV x u
 | _,_,.cons r .nil=>⟨_,rfl,r⟩
theorem Vals.zero:∀ {us:List Value},Vals [] us->us = []
 | _,.nil=>rfl
theorem Vals.reverse {xs:List V} {us:List Value} (h:Vals xs us):Vals xs.reverse us.reverse:=by
 induction h with
 | nil=>exact .nil
 | cons r t ih=>rw [List.reverse_cons,List.reverse_cons]; exact Vals.append ih (.cons r .nil)
section
variable {X:Cx} {pins:List (Addr × Obj)} {σ:St} {H:Hp} {s:Shared} {l b:Addr} {xs ys zs:List V}
theorem Inv.lset {its its':List Value} {n:Nat} {f:Array Value->Array Value} {t':Nat} (I:Inv X pins σ H s) (hH:H l = some (.lst xs))
  (e:s.heap.get? l = some { cls:=.type "list",data:=.seq its.toArray n }) (hf:f its.toArray = its'.toArray) (hv:Vals ys its') (hz:ys.length <= sizeLine) :
  Inv X pins σ (upd H l (.lst ys)) { s with heap:=s.heap.update l (Obj.mapSeq f),toks:=t' }:=by
 have q:=PySem.IsL.update e f
 rw [hf] at q
 refine I.write (x:=l) (e:=l) (by rw [hH]; exact trivial) (.inl rfl) (fun b' u hb hu=>(Heap.get?_update_other s.heap (Obj.mapSeq f) (Ne.symm hb)).trans hu) ⟨_,q⟩ ?_
 exact ⟨hz,its',_,hv,q⟩
theorem Inv.lnew {its:List Value} {t':Nat} (I:Inv X pins σ H s) (hv:Vals ys its) (hz:ys.length <= sizeLine) :
  Inv X pins σ (upd H s.heap.objs.size (.lst ys)) { s with heap:=s.heap.push { cls:=.type "list",data:=.seq its.toArray },toks:=t' } :=
 I.laid (fun _ _ q=>Heap.get?_push_of_some _ q) (Nat.le_refl _) ⟨hz,its,0,hv,Heap.get?_push_size _ rfl⟩
theorem Inv.fresh (I:Inv X pins σ H s):H s.heap.objs.size = none:=I.hok.fresh (Nat.le_refl _)
theorem Inv.lstM (I:Inv X pins σ H s) (hH:H l = some (.lst xs)):xs.length <= sizeLine /\ ∃ (its:List Value) (n:Nat),Vals xs its /\ xs.length = its.length /\ s.heap.get? l = some { cls:=.type "list",data:=.seq its.toArray n }:=by
 obtain ⟨z,its,n,r,e⟩:=I.hok l _ hH
 exact ⟨z,its,n,r,r.length,e⟩
end
section
variable {X:Cx}
noncomputable def xP1:V->List V->Hp->VK->Prop:=fun x vs H Q=>∃ l xs y,x = .ref l /\ vs = [y] /\ H l = some (.lst xs) /\ xs.length < sizeLine /\ Q .non (upd H l (.lst (xs ++ [y])))
theorem zJ4:MtM X "list.append" xP1:=by
 intro pins s σ H x vs v us Q I rx rv h
 obtain ⟨l,xs,y,rfl,rfl,hH,hz,q⟩:=h
 cases rx
 obtain ⟨u,rfl,ru⟩:=rv.one
 obtain ⟨z,its,n,r,hl,e⟩:=I.lstM hH
 refine call_meets F.slot_list_append ⟨_,e,rfl⟩ F.entry_list_append (F.args_list_append_2 _ _) (PySem.list_append l its.toArray n u (by rw [List.size_toArray]; omega)) ⟨e,?_⟩
 refine ⟨.non,_,I.lset (its':=its ++ [u]) hH e (by simp) (r.append (.cons ru .nil)) ?_,rfl,q⟩
 rw [List.length_append,List.length_singleton]
 omega
noncomputable def xG9:V->List V->Hp->VK->Prop:=fun x vs H Q=>∃ l xs,x = .ref l /\ vs = [] /\ H l = some (.lst xs) /\ Q .non (upd H l (.lst xs.reverse))
theorem yW3:MtM X "list.reverse" xG9:=by
 intro pins s σ H x vs v us Q I rx rv h
 obtain ⟨l,xs,rfl,rfl,hH,q⟩:=h
 cases rx
 have hus:=rv.zero
 subst hus
 obtain ⟨z,its,n,r,hl,e⟩:=I.lstM hH
 refine call_meets F.slot_list_reverse ⟨_,e,rfl⟩ F.entry_list_reverse (F.args_list_reverse_1 _) (AutoSeq1.list_reverse_list_0 l its.toArray n (by rw [List.size_toArray]; omega)) ⟨e,?_⟩
 refine ⟨.non,_,I.lset (its':=its.reverse) hH e (by simp) r.reverse ?_,rfl,q⟩
 rw [List.length_reverse]
 omega
noncomputable def rCat:R2:=fun x y H Q=>∃ l b xs zs,x = .ref l /\ y = .ref b /\ H l = some (.lst xs) /\ H b = some (.lst zs) /\ xs.length + zs.length <= sizeLine /\ ∀ p,H p = none->Q (.ref p) (upd H p (.lst (xs ++ zs)))
theorem xM3:OpR X (binaryOp .Add) rCat:=by
 intro pins s σ H x y v u Q I rx ry h
 obtain ⟨l,b,xs,zs,rfl,rfl,hH,hB,hz,q⟩:=h
 cases rx
 cases ry
 obtain ⟨z,its,n,r,hl,e⟩:=I.lstM hH
 obtain ⟨z2,its2,n2,r2,hl2,e2⟩:=I.lstM hB
 refine PySem.P.add_list e e2 ?_ (by rw [List.size_toArray,List.size_toArray]; omega)
 have ea:its.toArray ++ its2.toArray = (its ++ its2).toArray:=by simp
 rw [ea]
 exact ⟨.ref _,_,I.lnew (t':=s.toks) (r.append r2) (by rw [List.length_append]; omega),rfl,q _ I.fresh⟩
end
section
variable {prog:Program} {w:World} {A:Around} {E:Value->Shared->Prop} {s:Shared}
end
section
variable {X:Cx}
end
end L2
namespace Att
open PySem PySem.W PySem.Calls PyProof.Rows
theorem zX9 {P:Params} {h:Heap}:∀ (ns:List Int) (vs:List Value),WellAll P h vs (ns.map WData.int)->IntsAre vs ns:=by
 intro ns
 induction ns with
 | nil =>
  intro vs w
  rw [List.map_nil] at w
  cases w
  exact .nil
 | cons n ns ih =>
  intro vs w
  rw [List.map_cons] at w
  cases w with
  | cons a b =>
   cases a
   exact .cons _ _ (ih _ b)
theorem yZ1 {l:OpenLaw} {n:Nat} (hn:l.most = some n) {P:Params} {h:Heap} {args:List WData} {vals:List Value}
  (hpre:l.row.toRowW.claim.pre args = true) (hwl:WellAll P h vals args) :
  ∃ a vs ns,vals = [Value.ref a] /\ args = [WData.list (ns.map WData.int)] /\ h.get? a = some { cls:=.type "list",data:=.seq vs.toArray } /\ IntsAre vs ns /\ ns.length <= n:=by
 have hsh:WShape.hasAll [] args [.list .int] = true:=(pre_splitW hpre).1
 have hc:l.pre.holds [] { args:=args } = true:=(pre_splitW hpre).2
 obtain ⟨d,r,rfl,h1,h2⟩:=hasAllW_cons hsh
 obtain rfl:=hasAllW_nil h2
 obtain ⟨xs,rfl,h3⟩:=hasW_list h1
 obtain ⟨ns,rfl⟩:=items_int h3
 have hlen:ns.length <= n:=by
  unfold OpenLaw.pre at hc
  have h4:(WTm.not (.lt (.lit (.int (n:Int))) (.len (.arg 0)))).holds [] { args:=[.list (ns.map .int)] } = true:=by
   have h4:=(holds_andW hc).1
   rw [hn] at h4
   exact h4
  have h5:=condW_of h4 (w_not (w_lt w_lit (w_len_list (w_arg rfl))))
  rw [List.length_map] at h5
  refine Nat.le_of_not_lt fun q=>?_
  have q':(n:Int) < ((ns.length:Nat):Int):=by omega
  first
   | (rw [decide_eq_true q'] at h5; exact absurd h5 (by decide))
   | (simp at h5; omega)
 cases hwl with
 | cons w1 w2 =>
  cases w2
  cases w1 with
  | list ho hall=>exact ⟨_,_,ns,rfl,rfl,ho,zX9 ns _ hall,hlen⟩
theorem xA4 (l:OpenLaw) (args:List WData):l.row.toRowW.claim.post args (.bool true) args = true :=
 postW_of (r:=l.row.toRowW) (X:=(true == true))
  (show WShape.has [] (.bool true) .bool = true by first | rfl | decide | simp [WShape.has,WShape.arms,WShape.armsAll])
  (show (WTm.eq .res (.lit (.bool true))).value [] { args:=args,res:=some (.bool true),after:=args } = some (.bool (true == true)) from w_eq_bool (w_res rfl) w_lit) rfl
theorem attach_call {l:OpenLaw} {n:Nat} {q:Program} {loose:List Str} {XP:(Str->Option Value)->Heap->Prop} {YP:World->Heap->Prop} {d:DefRec}
  (hn:l.most = some n) (hdf:d.params.defaults = [])
  (call:∀ (w:World) (s₀ s₁:Shared) (mg mb:Str->Option Value) (fa:Addr) (o:Obj) (pm cd doc:Value) (a:Addr) (vs:List Value) (ns:List Int),
   Ground q loose [] XP w s₀ mg mb s₁.heap->YP w s₁.heap ->
   s₁.heap.get? fa = some o->o.data = .func (docDef d.name d.params d.body d.scope pm cd doc)->s₁.heap.CodeRec cd d.name->mg d.name = some (.ref fa) ->
   s₁.heap.get? a = some { cls:=.type "list",data:=.seq vs.toArray }->IntsAre vs ns->ns.length <= n->s₁.gens = #[] ->
   codeAny (model l.prog w) callerA (.call (.ref fa) ⟨[.ref a],[]⟩) (fun r s'=>r = .ok (.ret (.bool true)) /\ OldK s₁.heap s'.heap /\ s'.os = s₁.os /\ AllBare s'.gens) s₁) :
  WalkO q loose XP YP l.row.toRowW d [] (fun f vs=>PySem.call f vs):=by
 intro w s₀ s₁ mg mb G Y fa o pm cd doc dV kV ho hd hcd hD hmg hg args vals as hpre hlay hrd hwl hlo
 obtain rfl:dV = .none:=Dflts.none hD hdf
 obtain rfl:kV = .none:=Dflts.noKw hD
 obtain ⟨a,vs,ns,rfl,rfl,hobj,hints,hlen⟩:=yZ1 hn hpre hwl
 refine enter_call (codeAny_mono (call w s₀ s₁ mg mb fa o pm cd doc a vs ns G Y ho (fd_plain hd) hcd hmg hobj hints hlen hg) fun r s' hq=>?_)
 obtain ⟨rfl,h2,h3,h4⟩:=hq
 exact ⟨.inl ⟨.bool true,.bool true,[],rfl,fun _=>rfl,.bool true,xA4 l _,fun _=>⟨List.Pairwise.nil,fun _ hm=>(nomatch hm)⟩⟩,h2,h3,h4⟩
section
variable {prog:Program} {w:World} {A:Around} {E:Value->Shared->Prop} {s:Shared} {K:Frag}
end
end Att
namespace L2
open PySem PySem.Spec PyProof.Rows
theorem yG2:∀ {vs:List Value} {ns:List Int},IntsAre vs ns->Vals (ns.map V.int) vs
 | _,_,.nil=>.nil
 | _,_,.cons n t h=>.cons ⟨t,rfl⟩ (yG2 h)
noncomputable def Only (H:Hp):Prop:=∀ b,H b = none \/ ∃ o xs,H b = some (.frz o (.lst xs))
theorem xI6 {P:Program} {w:World} {K:PySem.W.Frag} {mg mb:Str->Option Value} {CX:CXT} {k:Nat} {fa a:Addr} {fd:FuncData} {x:Str} {sp:Sp} {s₁:Shared} {vs:List Value} {ns:List Int}
  (KX:K.In s₁.heap) (hns:s₁.heap.Ns mainGlobals mg) (hb:s₁.heap.Ns builtinsNs mb) (hbb:∀ x:Str,x ≠ "__name__"->mb x = bootBuiltins x) (hlim:s₁.heap.NoLimit) (hg:s₁.gens = #[])
  (ha:s₁.heap.get? a = some { cls:=.type "list",data:=.seq vs.toArray }) (hi:IntsAre vs ns) (hl:ns.length <= sizeLine) (hr:Room k callerA)
  (F:∀ base:Heap,K.In base->base.Ns mainGlobals mg->FnOk P w K mg base CX k fa fd [x] sp) (hbind:∀ (s:Shared) (u:Value),BindsTo s fd ⟨[u],[]⟩ [(x,u)])
  (hsp:∀ H:Hp,Only H->SqL K H a (ns.map V.int)->sp [.ref a] H (fun v _=>v = .bl true) fun _ _ _=>False)
  (hCX:∀ H e s',CX [] H s₁ (fun _ _ _=>False) e s'->False) :
  codeAny (model P w) callerA (.call (.ref fa) ⟨[.ref a],[]⟩) (fun r s'=>r = .ok (.ret (.bool true)) /\ OldK s₁.heap s'.heap /\ s'.os = s₁.os /\ AllBare s'.gens) s₁:=by
 have rv:=yG2 hi
 have lenV:=hi.length
 have core:∀ H:Hp,Only H->SqL K H a (ns.map V.int)->HOk P w H s₁.heap->(∀ b,H b ≠ none->b = a)->(H a ≠ none->K.lookup a = none) ->
   codeAny (model P w) callerA (.call (.ref fa) ⟨[.ref a],[]⟩) (fun r s'=>r = .ok (.ret (.bool true)) /\ OldK s₁.heap s'.heap /\ s'.os = s₁.os /\ AllBare s'.gens) s₁:=by
  intro H hO hS hok hA hK
  have base_of:∀ {b:Addr} {o:Obj},s₁.heap.get? b = some o->H b = none->(hidT s₁.heap H).get? b = some o:=fun e n=>xI8 e n
  have noA:∀ {b:Addr} {o:Obj} {es:Array DictEntry} {ep:Nat},s₁.heap.get? b = some o->o.data = .dict es ep->H b = none:=fun {b o es ep} e d=>by
   cases q:H b with
   | none=>rfl
   | some u =>
    have e':b = a:=hA b (by rw [q]; simp)
    subst e'
    rw [ha] at e; cases e
    have d':Data.seq vs.toArray _ = Data.dict es ep:=d
    cases d'
  have nsK:∀ {b:Addr} {m:Str->Option Value},s₁.heap.Ns b m->(hidT s₁.heap H).Ns b m:=fun {b m} ⟨o,es,ep,e,d,r⟩=>⟨o,es,ep,base_of e (noA e d),d,r⟩
  have hKb:K.In (hidT s₁.heap H):=fun b o e=>base_of (KX b o e) (by
   cases q:H b with
   | none=>rfl
   | some u =>
    have e':b = a:=hA b (by rw [q]; simp)
    subst e'
    rw [hK (by rw [q]; simp)] at e; cases e)
  have hM:Mod K mg (hidT s₁.heap H):=⟨hKb,nsK hns,⟨mb,nsK hb,hbb⟩,let ⟨mc,h1,h2⟩:=hlim; ⟨mc,nsK h1,h2⟩⟩
  have e0:Env0 P w K mg (hidT s₁.heap H) callerA [] s₁ H:=⟨rfl,hM,fun b o e=>xQ2 e,Nat.le_of_eq (xD3 _ _),trivial,fun b hb=>absurd (show b ∈ ([]:List Addr) from hb) (by simp),hok,.of_eq hg⟩
  refine codeAny_mono ((F _ hKb (nsK hns)).run callerA [] s₁ H ⟨[.ref a],[]⟩ [.ref a] [.ref a] _ _ hr e0 (hbind s₁ (.ref a)) (.cons rfl .nil) (hsp H hO hS)) fun r s' h=>?_
  cases r with
  | error e=>exact (hCX H e s' h).elim
  | ok fl =>
   cases fl with
   | next=>exact False.elim h
   | brk=>exact False.elim h
   | cont=>exact False.elim h
   | ret u =>
    obtain ⟨v,H',os,bare,un,hok',r',q⟩:=h
    have q':v = .bl true:=q
    subst q'
    obtain rfl:u = Value.bool true:=r'
    refine ⟨rfl,OldK.of_keep fun b o e=>?_,os,bare⟩
    cases q:H b with
    | none=>exact un.keep b o e q (by intro z; exact absurd (show b ∈ ([]:List Addr) from z) (by simp)) (by simp)
    | some u =>
     rcases hO b with z | ⟨ob,xs,z⟩
     ·rw [q] at z; cases z
     ·have z2:=un.frzs b ob _ z
      obtain ⟨e1,_⟩:=hok b _ z
      obtain ⟨e2,_⟩:=hok' b _ z2
      rw [e] at e1; cases e1
      exact e2
 cases hk:K.lookup a with
 | some o =>
  have e:=KX a o hk
  rw [ha] at e
  cases e
  refine core (fun _=>none) (fun _=>.inl rfl) (.inr ⟨_,vs.toArray,_,hk,rfl,rfl,rfl,by rw [List.size_toArray,lenV]; exact hl,by simpa using rv⟩) (fun b u z=>by have z':(none:Option HO) = some u:=z; cases z') (fun b z=>absurd rfl z) fun z=>absurd rfl z
 | none =>
  refine core (fun b=>if b = a then some (.frz { cls:=.type "list",data:=.seq vs.toArray } (.lst (ns.map V.int))) else none) (fun b=>?_) (.inl (.inr ⟨{ cls:=.type "list",data:=.seq vs.toArray },if_pos rfl⟩)) (fun b u z=>?_) (fun b z=>?_) fun _=>hk
  ·by_cases hb:b = a
   ·exact .inr ⟨_,_,if_pos hb⟩
   ·exact .inl (if_neg hb)
  ·by_cases hb:b = a
   ·have z':=(if_pos hb).symm.trans z
    cases z'
    subst hb
    exact ⟨ha,by rw [List.length_map]; exact hl,vs,_,rv,ha⟩
   ·have z':=(if_neg hb).symm.trans z
    cases z'
  ·by_cases hb:b = a
   ·exact hb
   ·exact absurd (if_neg hb) z
end L2
namespace L2
open PySem PySem.Spec PyProof.Rows
theorem walk_of {l:PySem.W.OpenLaw} {n k:Nat} {q:Program} {loose:List Str} {XP:(Str->Option Value)->Heap->Prop} {YP:World->Heap->Prop} {d:DefRec} {K:Params->PySem.W.Frag} {CX:World->CXT} {sp:World->Sp} {x:Str}
  (hn:l.most = some n) (hn2:n <= sizeLine) (hdf:d.params.defaults = []) (hr:Room k callerA)
  (hY:∀ (w:World) (h:Heap),YP w h->(K w.params).In h)
  (F:∀ (w:World) (mg:Str->Option Value) (fa:Addr) (h:Heap),(K w.params).In h->h.Ns mainGlobals mg->mg d.name = some (.ref fa) ->
   ∃ fd:FuncData,(∀ (s:Shared) (u:Value),BindsTo s fd ⟨[u],[]⟩ [(x,u)]) /\
    ∀ base:Heap,(K w.params).In base->base.Ns mainGlobals mg->FnOk l.prog w (K w.params) mg base (CX w) k fa fd [x] (sp w))
  (hsp:∀ (w:World) (H:Hp) (a:Addr) (ns:List Int),ns.length <= n->Only H->SqL (K w.params) H a (ns.map V.int)->sp w [.ref a] H (fun v _=>v = .bl true) fun _ _ _=>False)
  (hCX:∀ (w:World) (H:Hp) (s:Shared) (e:Value) (s':Shared),CX w [] H s (fun _ _ _=>False) e s'->False) :
  PySem.W.WalkO q loose XP YP l.row.toRowW d [] (fun f vs=>PySem.call f vs):=by
 refine Att.attach_call hn hdf fun w s₀ s₁ mg mb fa o pm cd doc a vs ns G Y ho hd hcd hmg hobj hints hlen hg=>?_
 have KX:=hY w _ Y
 obtain ⟨fd,hb,hF⟩:=F w mg fa _ KX G.T.g hmg
 exact xI6 KX G.T.g G.T.b G.T.builtins G.T.nolimit hg hobj hints (Nat.le_trans hlen hn2) hr hF hb (fun H hO hS=>hsp w H a ns hlen hO hS) fun H e s'=>hCX w H s₁ e s'
theorem walk_ofK {l:PySem.W.OpenLaw} {n k:Nat} {q:Program} {loose:List Str} {XP:(Str->Option Value)->Heap->Prop} {YP:World->Heap->Prop} {d:DefRec} {K:Params->PySem.W.Frag} {CX:CXT} {sp:PySem.W.Frag->Sp} {x:Str}
  (hn:l.most = some n) (hn2:n <= sizeLine) (hdf:d.params.defaults = []) (hr:Room k callerA)
  (hY:∀ (w:World) (h:Heap),YP w h->(K w.params).In h)
  (F:∀ (w:World) (mg:Str->Option Value) (fa:Addr) (h:Heap),(K w.params).In h->h.Ns mainGlobals mg->mg d.name = some (.ref fa) ->
   ∃ fd:FuncData,(∀ (s:Shared) (u:Value),BindsTo s fd ⟨[u],[]⟩ [(x,u)]) /\
    ∀ base:Heap,(K w.params).In base->base.Ns mainGlobals mg->FnOk l.prog w (K w.params) mg base CX k fa fd [x] (sp (K w.params)))
  (hsp:∀ (K:PySem.W.Frag) (H:Hp) (a:Addr) (ns:List Int),ns.length <= n->Only H->SqL K H a (ns.map V.int)->sp K [.ref a] H (fun v _=>v = .bl true) fun _ _ _=>False)
  (hCX:∀ (H:Hp) (s:Shared) (e:Value) (s':Shared),CX [] H s (fun _ _ _=>False) e s'->False) :
  PySem.W.WalkO q loose XP YP l.row.toRowW d [] (fun f vs=>PySem.call f vs) :=
 walk_of (K:=K) (CX:=fun _=>CX) (sp:=fun w=>sp (K w.params)) hn hn2 hdf hr hY F (fun w H a ns h1 h2 h3=>hsp (K w.params) H a ns h1 h2 h3) fun _ H s e s'=>hCX H s e s'
end L2
namespace L2
open PySem PySem.Spec PyProof.Rows
noncomputable def zB3 (s:Stmt):Arguments:=match s with
 | .FunctionDef _ a _ _ _ _ _ _ _ _=>a
 | _=>{ posonlyargs:=[],args:=[],vararg:=none,kwonlyargs:=[],kw_defaults:=[],kwarg:=none,defaults:=[] }
noncomputable def zB0 (s:Stmt):List Stmt:=match s with
 | .FunctionDef _ _ b _ _ _ _ _ _ _=>b
 | _=>[]
noncomputable def zA5 (s:Stmt):Scope:=match s with
 | .FunctionDef _ _ _ _ _ _ sc _ _ _=>sc
 | _=>{ kind:=.function,names:=[],isGenerator:=false,isCoroutine:=false }
noncomputable abbrev CX0:CXT:=fun _ _ _ _ _ _=>False
noncomputable abbrev E0:XK:=fun _ _ _=>False
theorem zB8 {X:Cx}:yL7 CX0 X E0:=fun _ _ _ _ _ _ _ h=>h.elim
structure Fun (K:PySem.W.Frag) (x qual:Str) (st:Stmt) (f:Addr) (fd:FuncData):Prop where
 ex:∃ (oc:Value) (od:Option Addr) (kV doc pm:Value) (an:Option Addr) (cdv ct:Value) (osl:Array (Option Value)),
  fd = PySem.W.fnOf x qual (zB3 st) (zB0 st) (zA5 st) .none kV doc pm an cdv ct /\ K.lookup f = some ⟨oc,od,.func fd,osl⟩ /\ PySem.W.codeIn K cdv qual = true
 kp:PySem.W.keepIn K (.ref f) = true
section
variable {P:Program} {w:World} {K:PySem.W.Frag} {mg:Str->Option Value} {base:Heap}
theorem Fun.ok {x qual:Str} {st:Stmt} {f:Addr} {fd:FuncData} {N ps:List Str} {k:Nat} {sp:Sp} (F:Fun K x qual st f fd) (S:zB5 N ps (zA5 st)) (len:∀ vs H Q E,sp vs H Q E->vs.length = ps.length)
  (hbody:∀ (cdv:Value) (A:Around) (outer:List Env) (s:Shared) (H:Hp) (vs:List V) (Q:VK) (E:XK),Room k (A.deeper (envOfC qual (zA5 st) s.heap.objs.size f cdv))->sp vs H Q E ->
   ∃ t,PSs (cxOf CX0 P w K mg base N qual (zA5 st) f cdv A outer s H E).nox (zB0 st) t /\ t { nx:=fun _ H'=>Q .non H',rt:=Q } (start N vs) H):FnOk P w K mg base CX0 (k + 1) f fd ps sp:=by
 obtain ⟨oc,od,kV,doc,pm,an,cdv,ct,osl,rfl,lk,hcd⟩:=F.ex
 refine xW5 lk hcd S len fun A outer s H vs Q E hr hsp=>?_
 obtain ⟨t,h,q⟩:=hbody cdv A outer s H vs Q E hr hsp
 exact ⟨t,h.nox,q⟩
theorem Fun.binds {x qual:Str} {st:Stmt} {f:Addr} {fd:FuncData} {ps:List Str} (F:Fun K x qual st f fd)
  (h:∀ (kV doc pm:Value) (an:Option Addr) (cdv ct:Value) (us:List Value),us.length = ps.length->bindArgs (PySem.W.fnOf x qual (zB3 st) (zB0 st) (zA5 st) .none kV doc pm an cdv ct) ⟨us,[]⟩ = pure (ps.zip us)):Binds K fd ps []:=by
 obtain ⟨oc,od,kV,doc,pm,an,cdv,ct,osl,rfl,lk,hcd⟩:=F.ex
 exact .all (h kV doc pm an cdv ct)
theorem xN0 {x qual:Str} {st:Stmt} {f:Addr} {oc:Value} {od an:Option Addr} {osl:Array (Option Value)} {kV doc pm cdv ct:Value} (l:K.lookup f = some ⟨oc,od,.func (PySem.W.fnOf x qual (zB3 st) (zB0 st) (zA5 st) .none kV doc pm an cdv ct),osl⟩)
  (c:PySem.W.codeIn K cdv qual = true) (k:PySem.W.keepIn K (.ref f) = true):Fun K x qual st f (PySem.W.fnOf x qual (zB3 st) (zB0 st) (zA5 st) .none kV doc pm an cdv ct):=⟨⟨oc,od,kV,doc,pm,an,cdv,ct,osl,rfl,l,c⟩,k⟩
end
theorem zE2 {A:Around} {k:Nat} (hr:Room k A):A.units + 1 < cLine:=Nat.lt_of_le_of_lt (Nat.add_le_add_left (by decide:1 <= 64) _) hr.units
theorem zR1 {n:Nat} (h:n <= 1000):n < sizeLine:=Nat.lt_of_le_of_lt h (by decide)
section
variable {X:Cx}
theorem pv (i:Nat) {x:Str} {pos:Pos} (hN:X.N[i]? = some x:=by rfl) (hv:Vis X.env.scope x:=by first | exact Or.inl rfl | exact Or.inr (Or.inl rfl) | exact Or.inr (Or.inr rfl)) (hd:(x == ("__debug__":Str)) = false:=by decide)
  (hcd:(x == ("__classdict__":Str)) = false:=by decide):PE X (.Name x pos) (tVar i):=xU0 hN hv hd hcd
end
theorem iteF {A B:Prop} (h:B):if false = true then A else B:=by
 rw [if_neg Bool.false_ne_true]
 exact h
theorem iteT {A B:Prop} (h:A):if true = true then A else B:=by
 rw [if_pos rfl]
 exact h
theorem ite2 {c A B:Prop} [Decidable c] (h1:c->A) (h2:¬ c->B):if c then A else B:=by
 by_cases h:c
 ·rw [if_pos h]
  exact h1 h
 ·rw [if_neg h]
  exact h2 h
noncomputable def Same (H H':Hp):Prop:=∀ b o,H b = some o->H' b = some o
theorem Same.refl (H:Hp):Same H H:=fun _ _ h=>h
theorem Same.trans {H H1 H2:Hp} (a:Same H H1) (b:Same H1 H2):Same H H2:=fun c o h=>b c o (a c o h)
theorem Same.free {H H':Hp} (e:Same H H') {l:Addr} (h:H' l = Option.none):H l = Option.none:=by
 cases q:H l with
 | none=>rfl
 | some o =>
  rw [e l o q] at h
  cases h
theorem Same.seq {K:PySem.W.Frag} {H H':Hp} {a:Addr} {xs:List V} (e:Same H H') (h:SqL K H a xs):SqL K H' a xs:=by
 rcases h with (h | ⟨o,h⟩) | h
 ·exact .inl (.inl (e _ _ h))
 ·exact .inl (.inr ⟨o,e _ _ h⟩)
 ·exact .inr h
section
variable {κ:Type} [DecidableEq κ]
end
end L2
namespace Tc
noncomputable def dv (t b:Int):Int:=if b < 0 then -(Int.gcd t b:Int) else (Int.gcd t b:Int)
theorem zV2 {t b:Int} (h:0 < b):0 <= t.fmod b /\ t.fmod b < b:=by
 rw [Int.fmod_eq_emod_of_nonneg _ (Int.le_of_lt h)]
 exact ⟨Int.emod_nonneg _ (by omega),Int.emod_lt_of_pos _ h⟩
theorem yT4 {t b:Int} (h:b < 0):b < t.fmod b /\ t.fmod b <= 0:=by
 have e:t.fmod b = -((-t).fmod (-b)):=by
  have h1:=Int.mul_fdiv_add_fmod t b
  have h2:=Int.mul_fdiv_add_fmod (-t) (-b)
  rw [Int.neg_fdiv_neg] at h2
  have h3:-b * t.fdiv b = -(b * t.fdiv b):=Int.neg_mul _ _
  rw [h3] at h2
  omega
 have p:=zV2 (t:=-t) (b:=-b) (by omega)
 omega
theorem yT1 (t b:Int):Int.gcd b (t.fmod b) = Int.gcd t b:=by
 have h1:=Int.mul_fdiv_add_fmod t b
 have e:t.fmod b = t + b * (-(t.fdiv b)):=by
  rw [Int.mul_neg]; omega
 rw [e,Int.gcd_comm,Int.gcd_add_mul_left_left]
structure Dv (t₀ b₀ t b:Int):Prop where
 g:Int.gcd t b = Int.gcd t₀ b₀
 p:0 < b₀->0 <= b /\ (b = 0->0 < t)
 n:b₀ < 0->b <= 0 /\ (b = 0->t < 0)
theorem Dv.start {t b:Int} (h:b ≠ 0):Dv t b t b:=⟨rfl,fun p=>⟨Int.le_of_lt p,fun e=>absurd e h⟩,fun p=>⟨Int.le_of_lt p,fun e=>absurd e h⟩⟩
theorem Dv.turn {t₀ b₀ t b:Int} (d:Dv t₀ b₀ t b) (h:b ≠ 0):Dv t₀ b₀ b (t.fmod b):=by
 refine ⟨(yT1 t b).trans d.g,fun p=>?_,fun p=>?_⟩
 ·have q:=d.p p
  have r:=zV2 (t:=t) (b:=b) (by omega)
  exact ⟨r.1,fun _=>by omega⟩
 ·have q:=d.n p
  have r:=yT4 (t:=t) (b:=b) (by omega)
  exact ⟨r.2,fun _=>by omega⟩
theorem Dv.less {t b:Int} (h:b ≠ 0):(t.fmod b).natAbs < b.natAbs:=by
 rcases Int.lt_or_gt_of_ne h with q | q
 ·have r:=yT4 (t:=t) q; omega
 ·have r:=zV2 (t:=t) q; omega
theorem Dv.done {t₀ b₀ t b:Int} (d:Dv t₀ b₀ t b) (h:b = 0) (h0:b₀ ≠ 0):t = dv t₀ b₀:=by
 subst h
 have g:=d.g
 rw [Int.gcd_zero_right] at g
 unfold dv
 rw [<- g]
 split
 ·rename_i q; have:=(d.n q).2 rfl; omega
 ·have:=(d.p (by omega)).2 rfl; omega
theorem yE8 {t b:Int} (h:b ≠ 0):0 < Int.gcd t b:=Nat.pos_of_ne_zero fun e=>h (Int.gcd_eq_zero_iff.mp e).2
theorem yJ9 {t b:Int} (h:b ≠ 0):dv t b ≠ 0:=by
 have:=yE8 (t:=t) h
 unfold dv; split <;> omega
theorem zO1 (t b:Int):dv t b ∣ t:=by
 have:=Int.gcd_dvd_left t b
 unfold dv; split
 ·exact Int.neg_dvd.mpr this
 ·exact this
theorem zM5 (t b:Int):dv t b ∣ b:=by
 have:=Int.gcd_dvd_right t b
 unfold dv; split
 ·exact Int.neg_dvd.mpr this
 ·exact this
theorem xE1 (t b:Int):(dv t b).natAbs = Int.gcd t b:=by
 unfold dv; split <;> omega
theorem xE0 {t b:Int} (h:b ≠ 0):(dv t b).natAbs <= b.natAbs:=by
 rw [xE1]
 have:=Int.gcd_dvd_right t b
 exact Nat.le_of_dvd (by omega) (Int.natAbs_dvd_natAbs.mpr this |> (by simpa using ·))
theorem yT7 {t b:Int} (h:b ≠ 0):t.fdiv (dv t b) = (Rat.divInt t b).num:=by
 rw [Int.fdiv_eq_ediv_of_dvd (zO1 t b),Rat.num_divInt,Int.gcd_comm]
 unfold dv
 rcases Int.lt_or_gt_of_ne h with q | q
 ·rw [if_pos q,Int.sign_eq_neg_one_of_neg q,Int.ediv_neg,Int.neg_one_mul,Int.neg_ediv_of_dvd (Int.gcd_dvd_left t b)]
 ·rw [if_neg (by omega),Int.sign_eq_one_of_pos q,Int.one_mul]
theorem yT8 {t b:Int} (h:b ≠ 0):b.fdiv (dv t b) = ((Rat.divInt t b).den:Int):=by
 rw [Int.fdiv_eq_ediv_of_dvd (zM5 t b),Rat.den_divInt,if_neg h,Int.gcd_comm]
 unfold dv
 rw [Int.natCast_ediv]
 rcases Int.lt_or_gt_of_ne h with q | q
 ·rw [if_pos q,Int.ediv_neg,<- Int.neg_ediv_of_dvd (Int.gcd_dvd_right t b)]
  congr 1; omega
 ·rw [if_neg (by omega)]
  congr 1; omega
end Tc
namespace Tc
theorem yA5 {t b:Int} (h:0 < b):dv t b = (Int.gcd t b:Int):=by unfold dv; rw [if_neg (by omega)]
theorem low {n d:Int} (hd:0 < d) (hg:Int.gcd n d = 1):(Rat.divInt n d).num = n /\ ((Rat.divInt n d).den:Int) = d:=by
 have h1:=yT7 (t:=n) (b:=d) (by omega)
 have h2:=yT8 (t:=n) (b:=d) (by omega)
 rw [yA5 hd,hg] at h1 h2
 constructor
 ·rw [<- h1]; simp
 ·rw [<- h2]; simp
theorem zD7 (r:Rat):(0:Int) < r.den:=by have:=r.den_pos; omega
theorem yC0 (r:Rat):Int.gcd r.num r.den = 1:=by
 have:=r.reduced
 unfold Nat.Coprime at this
 unfold Int.gcd
 simpa using this
theorem xP3 (r q:Rat) {s rest top d:Int} (hs:s = dv r.den q.den) (hr:rest = (r.den:Int).fdiv s) (ht:top = r.num * ((q.den:Int).fdiv s) + q.num * rest) (hd:d = dv top s) :
  top.fdiv d = (r + q).num /\ rest * ((q.den:Int).fdiv d) = ((r + q).den:Int):=by
 have p1:=r.den_pos
 have p2:=q.den_pos
 have gp:0 < Nat.gcd r.den q.den:=Nat.gcd_pos_of_pos_left _ p1
 have es:s = ((Nat.gcd r.den q.den:Nat):Int):=by
  rw [hs,yA5 (by omega)]; unfold Int.gcd; simp
 have e1:(r.den:Int).fdiv s = ((r.den / Nat.gcd r.den q.den:Nat):Int):=by
  rw [es,Int.fdiv_eq_ediv_of_nonneg _ (by omega),Int.natCast_ediv]
 have e2:(q.den:Int).fdiv s = ((q.den / Nat.gcd r.den q.den:Nat):Int):=by
  rw [es,Int.fdiv_eq_ediv_of_nonneg _ (by omega),Int.natCast_ediv]
 have er:rest = ((r.den / Nat.gcd r.den q.den:Nat):Int):=hr.trans e1
 have et:top = r.num * ((q.den / Nat.gcd r.den q.den:Nat):Int) + q.num * ((r.den / Nat.gcd r.den q.den:Nat):Int):=by rw [ht,e2,er]
 have key:top.natAbs.gcd (Nat.gcd r.den q.den) = top.natAbs.gcd ((r.den / Nat.gcd r.den q.den) * q.den):=by
  rw [et]
  exact Rat.add.aux r q rfl rfl rfl
 have ed:d = ((top.natAbs.gcd (Nat.gcd r.den q.den):Nat):Int):=by
  rw [hd,es,yA5 (by omega)]; unfold Int.gcd; simp
 have hrd:Nat.gcd r.den q.den ∣ r.den:=Nat.gcd_dvd_left _ _
 have hqd:Nat.gcd r.den q.den ∣ q.den:=Nat.gcd_dvd_right _ _
 have rp:0 < r.den / Nat.gcd r.den q.den:=Nat.div_pos (Nat.le_of_dvd p1 hrd) gp
 have sum:r + q = Rat.divInt top (((r.den / Nat.gcd r.den q.den) * q.den:Nat):Int):=by
  have h:=Rat.divInt_add_divInt r.num q.num (d₁:=r.den) (d₂:=q.den) (by omega) (by omega)
  rw [Rat.num_divInt_den,Rat.num_divInt_den] at h
  rw [h]
  rw [Rat.divInt_eq_divInt_iff (Int.mul_ne_zero (by omega) (by omega)) (by have:=Nat.mul_pos rp p2; omega)]
  rw [et]
  obtain ⟨a,ha⟩:=hrd
  obtain ⟨b,hb⟩:=hqd
  generalize Nat.gcd r.den q.den = g at *
  have a1:r.den / g = a:=by rw [ha]; exact Nat.mul_div_cancel_left _ gp
  have b1:q.den / g = b:=by rw [hb]; exact Nat.mul_div_cancel_left _ gp
  rw [a1,b1]
  rw [ha,hb]
  push_cast
  grind
 have dp:(0:Int) < (((r.den / Nat.gcd r.den q.den) * q.den:Nat):Int):=by have:=Nat.mul_pos rp p2; omega
 have n1:=yT7 (t:=top) (b:=(((r.den / Nat.gcd r.den q.den) * q.den:Nat):Int)) (by omega)
 have n2:=yT8 (t:=top) (b:=(((r.den / Nat.gcd r.den q.den) * q.den:Nat):Int)) (by omega)
 have edd:dv top (((r.den / Nat.gcd r.den q.den) * q.den:Nat):Int) = d:=by
  rw [ed,yA5 dp,key]; unfold Int.gcd; rw [Int.natAbs_natCast]
 rw [<- sum,edd] at n1 n2
 refine ⟨n1,?_⟩
 rw [<- n2,er]
 have dq:d ∣ (q.den:Int):=by
  rw [ed]
  exact Int.natCast_dvd_natCast.mpr (Nat.dvd_trans (Nat.gcd_dvd_right _ _) hqd)
 have dpos:0 < d:=by
  rw [ed]; have:=Nat.gcd_pos_of_pos_right top.natAbs gp; omega
 rw [Int.fdiv_eq_ediv_of_nonneg _ (by omega),Int.fdiv_eq_ediv_of_nonneg _ (by omega)]
 push_cast
 exact (Int.mul_ediv_assoc _ dq).symm
theorem xF2 {a d t b:Int} (h:Int.gcd t b = 1) (ha:a ∣ t) (hd:d ∣ b):Int.gcd a d = 1 :=
 Nat.Coprime.coprime_dvd_left (Int.natAbs_dvd_natAbs.mpr ha) (Nat.Coprime.coprime_dvd_right (Int.natAbs_dvd_natAbs.mpr hd) h)
theorem xR4 {a b c d:Int} (h1:Int.gcd a d = 1) (h2:Int.gcd a b = 1) (h3:Int.gcd c d = 1) (h4:Int.gcd c b = 1):Int.gcd (a * c) (d * b) = 1:=by
 show Nat.Coprime (a * c).natAbs (d * b).natAbs
 rw [Int.natAbs_mul,Int.natAbs_mul]
 exact Nat.coprime_mul_iff_left.mpr ⟨Nat.coprime_mul_iff_right.mpr ⟨h1,h2⟩,Nat.coprime_mul_iff_right.mpr ⟨h3,h4⟩⟩
theorem xG2 {t1 b1 t2 b2:Int} (h1:0 < b1) (h2:b2 ≠ 0) (c1:Int.gcd t1 b1 = 1) (c2:Int.gcd t2 b2 = 1) {l r:Int} (hl:l = dv t1 b2) (hr:r = dv t2 b1) :
  (t1.fdiv l) * (t2.fdiv r) = (Rat.divInt (t1 * t2) (b1 * b2)).num /\ (b1.fdiv r) * (b2.fdiv l) = ((Rat.divInt (t1 * t2) (b1 * b2)).den:Int):=by
 have l0:l ≠ 0:=by rw [hl]; exact yJ9 h2
 have r0:0 < r:=by rw [hr,yA5 h1]; have:=yE8 (t:=t2) (b:=b1) (by omega); omega
 obtain ⟨a,ha⟩:l ∣ t1:=by rw [hl]; exact zO1 _ _
 obtain ⟨b,hb⟩:l ∣ b2:=by rw [hl]; exact zM5 _ _
 obtain ⟨c,hc⟩:r ∣ t2:=by rw [hr]; exact zO1 _ _
 obtain ⟨d,hd⟩:r ∣ b1:=by rw [hr]; exact zM5 _ _
 have e1:t1.fdiv l = a:=by rw [ha,Int.mul_fdiv_cancel_left _ l0]
 have e2:b2.fdiv l = b:=by rw [hb,Int.mul_fdiv_cancel_left _ l0]
 have e3:t2.fdiv r = c:=by rw [hc,Int.mul_fdiv_cancel_left _ (by omega)]
 have e4:b1.fdiv r = d:=by rw [hd,Int.mul_fdiv_cancel_left _ (by omega)]
 have gl:Int.gcd t1 b2 = l.natAbs:=by rw [hl,xE1]
 have gr:Int.gcd t2 b1 = r.natAbs:=by rw [hr,xE1]
 have la:0 < l.natAbs:=by omega
 have ra:0 < r.natAbs:=by omega
 have cab:Int.gcd a b = 1:=by
  rw [ha,hb,Int.gcd_mul_left] at gl
  exact Nat.eq_of_mul_eq_mul_left la (by omega)
 have ccd:Int.gcd c d = 1:=by
  rw [hc,hd,Int.gcd_mul_left] at gr
  exact Nat.eq_of_mul_eq_mul_left ra (by omega)
 have cad:Int.gcd a d = 1:=xF2 c1 ⟨l,by rw [ha,Int.mul_comm]⟩ ⟨r,by rw [hd,Int.mul_comm]⟩
 have cbc:Int.gcd c b = 1:=xF2 c2 ⟨r,by rw [hc,Int.mul_comm]⟩ ⟨l,by rw [hb,Int.mul_comm]⟩
 have dp:0 < d:=by
  rcases Int.lt_trichotomy d 0 with z | z | z
  ·have:=Int.mul_neg_of_pos_of_neg r0 z; omega
  ·subst z; omega
  ·exact z
 have bp:0 < b:=by
  rcases Int.lt_or_gt_of_ne h2 with z | z
  ·have ln:l < 0:=by
    rw [hl]; unfold dv; rw [if_pos z]; have:=yE8 (t:=t1) h2; omega
   rcases Int.lt_trichotomy b 0 with y | y | y
   ·have:=Int.mul_pos_of_neg_of_neg ln y; omega
   ·subst y; omega
   ·exact y
  ·have lp:0 < l:=by
    rw [hl,yA5 z]; have:=yE8 (t:=t1) h2; omega
   rcases Int.lt_trichotomy b 0 with y | y | y
   ·have:=Int.mul_neg_of_pos_of_neg lp y; omega
   ·subst y; omega
   ·exact y
 have lw:=low (n:=a * c) (d:=d * b) (Int.mul_pos dp bp) ?_
 ·have ee:Rat.divInt (t1 * t2) (b1 * b2) = Rat.divInt (a * c) (d * b):=by
   rw [Rat.divInt_eq_divInt_iff (Int.mul_ne_zero (by omega) h2) (Int.mul_ne_zero (by omega) (by omega))]
   rw [ha,hb,hc,hd]; grind
  rw [e1,e2,e3,e4,ee]
  exact ⟨lw.1.symm,lw.2.symm⟩
 ·exact xR4 cad cab ccd cbc
theorem xB8 (r q:Rat):Rat.divInt (r.num * q.num) (r.den * q.den) = r * q:=by
 rw [<- Rat.divInt_mul_divInt,Rat.num_divInt_den,Rat.num_divInt_den]
theorem xX0 (r q:Rat) (h:q.num ≠ 0):Rat.divInt (r.num * q.den) (r.den * q.num) = r / q:=by
 rw [<- Rat.divInt_mul_divInt,Rat.num_divInt_den,Rat.div_def]
 congr 1
 rw [Rat.inv_def]
theorem xI9 (r:Rat):Int.gcd (r.den:Int) r.num = 1:=by rw [Int.gcd_comm]; exact yC0 r
theorem yA3 (r:Rat):(0 - r.num) = (-r).num /\ (r.den:Int) = ((-r).den:Int):=by
 constructor
 ·rw [Rat.neg_num]; omega
 ·rw [Rat.neg_den]
theorem xK8 (r q:Rat):r + -q = r - q:=(Rat.sub_eq_add_neg r q).symm
theorem lt_ok (r q:Rat):decide (r.num * q.den < q.num * r.den) = decide (r < q):=by
 rw [decide_eq_decide,Rat.lt_iff]
theorem xW4 {r q:Rat} (h1:r.num = q.num) (h2:(r.den:Int) = q.den):r = q:=Rat.ext h1 (by omega)
end Tc
namespace L2
open PySem PySem.Spec PyProof.Rows
theorem xN5:bootBuiltins "abs" = some (.builtin "abs"):=by decide +kernel
theorem zJ5:bootBuiltins "isinstance" = some (.builtin "isinstance"):=by decide +kernel
theorem yK6:bootBuiltins "sorted" = some (.builtin "sorted"):=by decide +kernel
theorem xX5:bootBuiltins "int" = some (.type "int"):=by decide +kernel
theorem xR6:bootBuiltins "bool" = some (.type "bool"):=by decide +kernel
theorem zT9:bootBuiltins "list" = some (.type "list"):=by decide +kernel
theorem yF4:bootBuiltins "tuple" = some (.type "tuple"):=by decide +kernel
theorem yF5:bootBuiltins "dict" = some (.type "dict"):=by decide +kernel
section
variable {X:Cx}
theorem zG5:OpR X (binaryOp .Mult) (rI IntMulOk fun i j=>.int (i * j)):=opI fun _ _ _ _ _ _ _ hc q=>mul_int q hc
noncomputable def zY8 (_ j:Int):Prop:=j ≠ 0 /\ j.natAbs.log2 < 9000
theorem zD1:OpR X (binaryOp .FloorDiv) (rI zY8 fun i j=>.int (i.fdiv j)):=opI fun _ _ _ _ _ _ _ hc q=>floordiv_int hc.1 q (.inl (PyProof.noPylong_of_log2 hc.2))
theorem log2_lt {n k:Nat} (h:n < 2 ^ k) (hk:0 < k):n.log2 < k:=by
 rcases Nat.eq_zero_or_pos n with h0 | hp
 ·subst h0
  have:Nat.log2 0 = 0:=by decide
  omega
 ·exact (Nat.log2_lt (Nat.ne_of_gt hp)).mpr h
theorem zE9 {a b:Int} (k:Nat) (ha:a.natAbs < 2 ^ k) (hb:b.natAbs < 2 ^ k) (h:k <= 67108864):IntMulOk a b:=by
 have bits:∀ x:Int,x.natAbs < 2 ^ k->Builtin.Int.intBits x <= k:=fun x hx=>by
  unfold Builtin.Int.intBits
  split
  ·exact Nat.zero_le _
  ·rename_i hx0
   rcases Nat.eq_zero_or_pos k with h0 | hp
   ·subst h0
    have:x = 0:=by
     have:x.natAbs < 1:=hx
     omega
    simp [this] at hx0
   ·have:=log2_lt hx hp
    omega
 exact IntMulOk.of_le (bits a ha) (bits b hb) (by omega)
theorem zT5 {i j:Int} (h:j ≠ 0) (hb:j.natAbs < 2 ^ 9000):zY8 i j:=⟨h,log2_lt hb (by decide)⟩
theorem xJ8:zO3 X (.builtin "isinstance") (fun xs H Q=>∃ x n t b,xs = [x,.ty n] /\ TyOf X.K H x t /\ PySem.W.kitOne X.K t (.type n) = some b /\ Q (.bl b) H):=by
 intro pins s σ H xs us Q I r h
 obtain ⟨x,n,t,b,rfl,ty,e,q⟩:=h
 obtain ⟨u,u',rfl,ru,ru'⟩:=xO0 r
 cases ru'
 exact xC9 I ru ty e fun tk=>⟨.bl b,H,I.tok tk,rfl,q⟩
end
structure FnAt (P:Program) (w:World) (K:PySem.W.Frag) (mg:Str->Option Value) (base:Heap) (CX:CXT) (k:Nat) (x:Str) (ps:List Str) (sp:Sp):Prop where
 ex:∃ (f:Addr) (fd:FuncData),FnOk P w K mg base CX k f fd ps sp /\ mg x = some (.ref f) /\ PySem.W.keepIn K (.ref f) = true /\ Binds K fd ps []
structure DefAt (K:PySem.W.Frag) (mg:Str->Option Value) (x:Str) (st:Stmt):Prop where
 ex:∃ (f:Addr) (fd:FuncData),Fun K x x st f fd /\ mg x = some (.ref f)
theorem DefAt.mk' {K:PySem.W.Frag} {h:Heap} {mg:Str->Option Value} {x:Str} {st:Stmt} {f:Addr} {oc:Value} {od an:Option Addr} {osl:Array (Option Value)} {kV doc pm cdv ct:Value} (X:K.In h) (G:h.Ns mainGlobals mg)
  (a:PySem.W.nsIn K mainGlobals x = some (some (.ref f))) (l:K.lookup f = some ⟨oc,od,.func (PySem.W.fnOf x x (zB3 st) (zB0 st) (zA5 st) .none kV doc pm an cdv ct),osl⟩)
  (c:PySem.W.codeIn K cdv x = true) (k:PySem.W.keepIn K (.ref f) = true):DefAt K mg x st:=⟨f,_,xN0 (st:=st) l c k,PySem.W.mg_of X G a⟩
section
variable {P:Program} {w:World} {K:PySem.W.Frag} {mg:Str->Option Value} {base:Heap}
theorem DefAt.ok {x:Str} {st:Stmt} {N ps:List Str} {k:Nat} {sp:Sp} (D:DefAt K mg x st) (S:zB5 N ps (zA5 st)) (len:∀ vs H Q E,sp vs H Q E->vs.length = ps.length)
  (hb:∀ (kV doc pm:Value) (an:Option Addr) (cdv ct:Value) (us:List Value),us.length = ps.length->bindArgs (PySem.W.fnOf x x (zB3 st) (zB0 st) (zA5 st) .none kV doc pm an cdv ct) ⟨us,[]⟩ = pure (ps.zip us))
  (hbody:∀ (f:Addr) (cdv:Value) (A:Around) (outer:List Env) (s:Shared) (H:Hp) (vs:List V) (Q:VK) (E:XK),Room k (A.deeper (envOfC x (zA5 st) s.heap.objs.size f cdv))->sp vs H Q E ->
   ∃ t,PSs (cxOf CX0 P w K mg base N x (zA5 st) f cdv A outer s H E).nox (zB0 st) t /\ t { nx:=fun _ H'=>Q .non H',rt:=Q } (start N vs) H):FnAt P w K mg base CX0 (k + 1) x ps sp:=by
 obtain ⟨f,fd,F,m⟩:=D.ex
 exact ⟨f,fd,F.ok S len fun cdv A outer s H vs Q E hr h=>hbody f cdv A outer s H vs Q E hr h,m,F.kp,F.binds hb⟩
end
section
variable {X:Cx} {CX:CXT} {k j:Nat} {ps:List Str} {sp:Sp} {E:XK} {x:Str} {p pos:Pos} {e:Expr} {es:List Expr} {t:TA}
theorem zB7 (F:FnAt X.prog X.w X.K X.mg X.base CX j x ps sp) (hr:Room k X.A) (hg:Gl X x) (hx:yL7 CX X E) (ha:PA X (e :: es) t) (hj:j <= k:=by decide)
  (hdb:(x == ("__debug__":Str)) = false:=by decide) (he:starEach (e :: es) X.env = (false,eval e X.env) :: starEach es X.env:=by rfl) (hpl:(backTo pos (starEach es X.env)).any (·.1) = false:=by rfl) :
  PE X (.Call (.Name x p) (e :: es) [] pos) (xS7 sp [] E t):=by
 obtain ⟨f,fd,G,m,kp,b⟩:=F.ex
 exact xP7 G (hr.mono hj) hg m kp b .nil hx ha hdb he hpl
end
end L2
namespace L2
open PySem PySem.Spec PyProof.Rows
noncomputable def tyH:Option HO->Option String
 | some (.lst _)=>some "list"
 | some (.frz _ (.lst _))=>some "list"
 | some (.tup _)=>some "tuple"
 | some (.dK _)=>some "dict"
 | some (.dT _)=>some "dict"
 | _=>none
noncomputable def tyS (H:Hp):V->Option String
 | .non=>some "NoneType"
 | .bl _=>some "bool"
 | .int _=>some "int"
 | .str _=>some "str"
 | .ref a=>tyH (H a)
 | _=>none
theorem yG4 {o:Option HO} {n:String} (h:tyH o = some n) :
  (n = "list" /\ ((∃ xs,o = some (.lst xs)) \/ ∃ ob xs,o = some (.frz ob (.lst xs)))) \/ (n = "tuple" /\ ∃ xs,o = some (.tup xs)) \/ (n = "dict" /\ ((∃ kvs,o = some (.dK kvs)) \/ ∃ kvs,o = some (.dT kvs))):=by
 cases o with
 | none=>cases h
 | some u =>
  cases u with
  | lst xs=>cases h; exact .inl ⟨rfl,.inl ⟨xs,rfl⟩⟩
  | tup xs=>cases h; exact .inr (.inl ⟨rfl,xs,rfl⟩)
  | dK kvs=>cases h; exact .inr (.inr ⟨rfl,.inl ⟨kvs,rfl⟩⟩)
  | dT kvs=>cases h; exact .inr (.inr ⟨rfl,.inr ⟨kvs,rfl⟩⟩)
  | frz ob v =>
   cases v with
   | lst xs=>cases h; exact .inl ⟨rfl,.inr ⟨ob,xs,rfl⟩⟩
   | _=>cases h
  | _=>cases h
theorem zV5 {K:PySem.W.Frag} {H:Hp} {v:V} {n:String} (h:tyS H v = some n):TyOf K H v (.type n):=by
 cases v with
 | non=>cases h; exact .non
 | bl b=>cases h; exact .bl b
 | int i=>cases h; exact .int i
 | str x=>cases h; exact .str x
 | byt b=>cases h
 | flt b=>cases h
 | ty b=>cases h
 | ref a =>
  rcases yG4 (show tyH (H a) = some n from h) with ⟨rfl,⟨xs,e⟩ | ⟨ob,xs,e⟩⟩ | ⟨rfl,xs,e⟩ | ⟨rfl,⟨kvs,e⟩ | ⟨kvs,e⟩⟩
  ·exact .lst e
  ·exact .frz e
  ·exact .tup e
  ·exact .dK e
  ·exact .dT e
theorem yW9 {H:Hp} {v:V} {n:String} (h:tyS H v = some n):n ∈ ["NoneType","bool","int","str","list","tuple","dict"]:=by
 cases v with
 | ref a=>rcases yG4 (show tyH (H a) = some n from h) with ⟨rfl,_⟩ | ⟨rfl,_⟩ | ⟨rfl,_⟩ <;> simp
 | _=>first | (cases h; done) | (cases h; simp)
noncomputable def subS (n m:String):Bool:=n == m || (n == "bool" && m == "int")
theorem yJ4 {K:PySem.W.Frag} {n m:String} (hn:n ∈ ["NoneType","bool","int","str","list","tuple","dict"]) (hm:m ∈ ["int","bool","str","list","tuple","dict"]) :
  PySem.W.kitOne K (.type n) (.type m) = some (subS n m):=by
 simp only [List.mem_cons,List.not_mem_nil,or_false] at hn hm
 rcases hn with rfl | rfl | rfl | rfl | rfl | rfl | rfl <;> rcases hm with rfl | rfl | rfl | rfl | rfl | rfl <;> first | rfl | (with_unfolding_all rfl) | decide +kernel
theorem Same.upd {H:Hp} {p:Addr} {o:HO} (h:H p = none):Same H (upd H p o):=fun b u e=>by
 rw [upd_ne (zA8 e h)]; exact e
end L2
namespace L2
open PySem PySem.Spec PyProof.Rows
section
variable {P:Program} {w:World} {H H':Hp} {h h':Heap} {a:Addr} {o:HO}
theorem ObjOk.there (x:ObjOk P w H h a o):∃ ob,h.get? a = some ob:=by
 cases o with
 | lst xs=>obtain ⟨_,_,_,_,e⟩:=x; exact ⟨_,e⟩
 | tup xs=>obtain ⟨_,_,_,ob,e,_⟩:=x; exact ⟨ob,e⟩
 | dK kvs=>obtain ⟨_,_,_,_,ob,_,_,e,_⟩:=x; exact ⟨ob,e⟩
 | dT kvs=>obtain ⟨_,_,_,_,ob,_,_,e,_⟩:=x; exact ⟨ob,e⟩
 | set S n=>obtain ⟨ob,_,_,_,e,_⟩:=x; exact ⟨ob,e⟩
 | ins C dx fs=>obtain ⟨_,_,_,e,_⟩:=x; exact ⟨_,e⟩
 | own y=>obtain ⟨ob,e⟩:=x; exact ⟨ob,e⟩
 | xd fs=>obtain ⟨_,⟨ob,_,_,e,_⟩,_⟩:=x; exact ⟨ob,e⟩
 | rng lo hi=>obtain ⟨_,_,_,e⟩:=x; exact ⟨_,e⟩
 | frz ob u=>obtain ⟨e,_⟩:=x; exact ⟨_,e⟩
 | tbl ps=>exact ⟨_,(show h.get? a = some _ from x)⟩
 | met f y=>exact ⟨_,(show h.get? a = some _ from x)⟩
 | ext φ=>obtain ⟨_,⟨ob,e⟩,_⟩:=x; exact ⟨ob,e⟩
theorem HOk.via (x:HOk P w H h) (k:∀ b u ob,H b = some u->h.get? b = some ob->h'.get? b = some ob):HOk P w H h':=fun b u e =>
 (x b u e).stay (fun c ob hc q=>by
  rcases hc with z | z
  ·subst z; exact k c u ob e q
  ·exact k c _ ob z q) (fun _ q=>q) fun _ _ q=>q
end
theorem xJ0 {env:Env} {L:Addr} {outer:List Env} (hf:env.frame = some L):frs (env :: outer) = L :: frs outer:=by
 unfold frs; rw [List.filterMap_cons,hf]
structure Kp (P:Program) (w:World) (outer:List Env) (H:Hp) (h:Heap) (H':Hp) (h':Heap) (B:Heap):Prop where
 hok:HOk P w H' h'
 un:Un (frs outer) [] H H' h h'
 old:∀ b o,h.get? b = some o->H b = none->b ∉ frs outer->B.get? b = some o
 has:∀ b o,h.get? b = some o->b ∉ frs outer->∃ o',B.get? b = some o'
 trk:∀ b u,H' b = some u->∃ o,h'.get? b = some o /\ B.get? b = some o
section
variable {X:Cx} {pins:List (Addr × Obj)} {σ:St} {H1 H2:Hp} {s1:Shared} {h2 h3 B:Heap} {a:Addr} {C a0:Value} {vs:List Value}
theorem Kp.raise (I:Inv X pins σ H1 s1) (hx:Heap.MadeExcOf s1.heap h2 a C vs):Kp X.prog X.w X.stack H1 s1.heap H1 h2 (PySem.W.hideAll s1.heap (frs X.stack)) where
 hok:=I.hok.kept hx.keeps
 un:=Un.kept hx.keeps
 old:=fun b o e _ hb=>PySem.W.hideAll_get _ e hb
 has:=fun b o e hb=>⟨o,PySem.W.hideAll_get _ e hb⟩
 trk:=fun b u e=>by
  obtain ⟨o,q⟩:=(I.hok b u e).there
  refine ⟨o,hx.keeps b o q,PySem.W.hideAll_get _ q fun hb=>?_⟩
  rw [I.stkFree b hb] at e; cases e
theorem Kp.slots (I:Inv X pins σ H1 s1) (K:Kp X.prog X.w X.stack H1 s1.heap H2 h2 B) (st:B.StaysIn h3) (sl:h2.UpToSlots h3):Kp X.prog X.w X.stack H1 s1.heap H2 h3 B:=by
 have trk3:∀ b u,H2 b = some u->∃ o,h3.get? b = some o /\ B.get? b = some o:=fun b u e=>by
  obtain ⟨o,_,q⟩:=K.trk b u e
  exact ⟨o,st b o q,q⟩
 have fr:∀ b o,s1.heap.get? b = some o->H1 b = none->b ∈ frs X.stack->∃ sl,h3.get? b = some { o with slots:=sl }:=fun b o e n hb=>by
  obtain ⟨sl1,e1⟩:=K.un.slot b o e n hb (by simp)
  obtain ⟨_,o',e',d⟩:=I.stack.mem hb
  rw [e] at e'
  cases e'
  obtain ⟨sl2,e2⟩:=sl b _ e1 d
  exact ⟨sl2,e2⟩
 refine ⟨K.hok.via fun b u ob e q=>?_,⟨fun b o e n hb _=>st b o (K.old b o e n hb),fun b o e n hb _=>fr b o e n hb,K.un.free,fun b o e hx=>?_,K.un.tups,K.un.frzs,K.un.tbls⟩,K.old,K.has,trk3⟩
 ·obtain ⟨o,q1,q2⟩:=K.trk b u e
  rw [q] at q1
  cases q1
  exact st b ob q2
 ·by_cases hb:b ∈ frs X.stack
  ·obtain ⟨sl1,e1⟩:=fr b o e (I.stkFree b hb) hb
   exact ⟨_,e1⟩
  ·obtain ⟨o',e'⟩:=K.has b o e hb
   exact ⟨o',st b o' e'⟩
theorem Kp.leave (I:Inv X pins σ H1 s1) (hex:X.ex = []) (hst:X.stack = X.env :: X.outer) (hf:X.env.frame = some X.env.locals) (K:Kp X.prog X.w X.stack H1 s1.heap H2 h2 B) (st:B.StaysIn h3) (sl:h2.UpToSlots h3) :
  Kp X.prog X.w X.outer X.H₀ X.s₀.heap H2 h3 B:=by
 have K3:=K.slots I st sl
 have fe:frs X.stack = X.env.locals :: X.fs:=by rw [hst]; exact xJ0 hf
 have nex:∀ b:Addr,b ∉ X.ex:=fun b z=>by rw [hex] at z; cases z
 have nin:∀ b o,X.s₀.heap.get? b = some o->b ∉ X.fs->b ∉ frs X.stack:=fun b o e hb z=>by
  rw [fe] at z
  rcases List.mem_cons.mp z with z | z
  ·have h1:=Heap.lt_size e
   have h2:=I.ok.above
   rw [z] at h1
   exact absurd (Nat.lt_of_lt_of_le h1 h2) (Nat.lt_irrefl _)
  ·exact hb z
 have old:∀ b o,X.s₀.heap.get? b = some o->X.H₀ b = none->b ∉ frs X.outer->B.get? b = some o:=fun b o e n hb =>
  K.old b o (I.base.keep b o e n hb (nex b)) (I.base.free b o e n (nex b)) (nin b o e hb)
 refine ⟨K3.hok,⟨fun b o e n hb _=>st b o (old b o e n hb),fun b o e n hb _=>?_,fun b o e n _=>?_,fun b o e _=>?_,fun b xs e=>K3.un.tups b xs (I.base.tups b xs e),fun b o u e=>K3.un.frzs b o u (I.base.frzs b o u e),fun b ps e=>?_⟩,old,fun b o e hb=>?_,K3.trk⟩
 ·obtain ⟨sl1,e1⟩:=I.base.slot b o e n hb (nex b)
  obtain ⟨sl2,e2⟩:=K3.un.slot b _ e1 (I.base.free b o e n (nex b)) (by rw [fe]; exact List.mem_cons_of_mem _ hb) (by simp)
  exact ⟨sl2,e2⟩
 ·obtain ⟨o1,e1⟩:=I.base.there b o e (nex b)
  exact K3.un.free b o1 e1 (I.base.free b o e n (nex b)) (by simp)
 ·obtain ⟨o1,e1⟩:=I.base.there b o e (nex b)
  exact K3.un.there b o1 e1 (by simp)
 ·obtain ⟨m1,e1⟩:=I.base.tbls b ps e
  obtain ⟨m2,e2⟩:=K3.un.tbls b _ e1
  exact ⟨m1 ++ m2,by rw [e2,Array.append_assoc]⟩
 ·obtain ⟨o1,e1⟩:=I.base.there b o e (nex b)
  exact K.has b o1 e1 (nin b o e hb)
end
noncomputable def CXE (P:Program) (w:World):CXT:=fun outer H s E e s'=>∃ (a:Addr) (C:Value) (H':Hp) (B:Heap) (a0:Value),
 e = .ref a /\ s'.os = s.os /\ AllBare s'.gens /\ Kp P w outer H s.heap H' s'.heap B /\ Heap.FlyingW B outer a C a0 s'.heap /\ E C none H'
noncomputable def xN8 (X:Cx) (E:XK):Prop:=∀ (C:Value) (pins:List (Addr × Obj)) (σ:St) (H1:Hp) (s1:Shared) (h2:Heap) (a:Addr) (vs:List Value),Inv X pins σ H1 s1->Heap.MadeExcOf s1.heap h2 a C vs->E C none H1->X.xe (.ref a) { s1 with heap:=h2 }
section
variable {P:Program} {w:World} {K:PySem.W.Frag} {mg:Str->Option Value} {base:Heap} {N:List Str} {qual:Str} {scope:Scope} {f:Addr} {cd:Value} {A:Around} {outer:List Env} {s:Shared} {H:Hp} {E:XK}
theorem yZ8:xN8 (cxOf (CXE P w) P w K mg base N qual scope f cd A outer s H E) E:=by
 intro C pins σ H1 s1 h2 a vs I hx q
 have hl:=PySem.W.funFrames_hide (as:=frs (cxOf (CXE P w) P w K mg base N qual scope f cd A outer s H E).stack) I.stack fun env he b hb=>List.mem_filterMap.mpr ⟨env,he,hb⟩
 refine wpAny_leaves_madeW I.ok.frames rfl (fun b o q=>PySem.W.of_hideAll _ q) hl hx fun h3 t fl _ _ sl=>?_
 exact ⟨a,C,H1,_,.ref t,rfl,I.os,I.bare,(Kp.raise I hx).leave I rfl rfl rfl fl.1 sl,fl,q⟩
end
theorem xD8 {K:PySem.W.Frag} {h:Heap} {C:Addr} {bmB:List Value} {newId:String} (X:K.In h) (q:PySem.W.excIn K C bmB newId = true) :
  ∃ bm N nm qn bs hdct sn sub ab col dd k0 k1 k2 k3 k5 mN,h.get? C = some (excClassObj nm qn C N bs bm hdct sn sub ab col dd k0 k1 k2 k3 k5 newId) /\ h.Ns N mN /\ mN "__init__" = none /\ OwnTail h bmB bm:=by
 unfold PySem.W.excIn at q
 split at q
 ·rename_i d1 cd1 sl1 look
  split at q
  ·rename_i C1 bm1 s0 s1 s2 s3 n1 s5 hmro hslots
   simp only [beq_iff_eq,Bool.not_eq_true',Bool.and_eq_true] at q
   obtain ⟨⟨⟨⟨⟨q1,q2⟩,hdel⟩,htl⟩,hns⟩,hini⟩:=q
   subst q1 q2
   obtain ⟨u1,u2,u3,u4,u5,u6,u7,u8,u9,u10,u11⟩:=cd1
   dsimp only at hmro hdel hns hini
   subst hmro hdel
   have es:sl1 = #[s0,s1,s2,s3,some (.builtin n1),s5]:=by
    cases sl1 with
    | mk l =>
     have:l = [s0,s1,s2,s3,some (.builtin n1),s5]:=hslots
     rw [this]
   subst es
   have at_:=X _ _ look
   refine ⟨bm1,u4,u1,u5,u2,u6,u7,u8,u9,u10,d1,s0,s1,s2,s3,s5,_,at_,.of_isNs (PySem.W.isNs_of_in X hns),?_,PySem.W.tail_of_in X htl⟩
   exact PySem.W.nsMap_none_of_in X hns hini
  ·cases q
 ·cases q
section
variable {X:Cx} {E:XK} {C:Addr} {B newId initId:String} {bmB:List Value} {x:Str} {np cpos pos:Pos} {e₀:Expr} {rest:List Expr} {t:TA}
noncomputable def xS2 (C:Addr) (E:XK) (t:TA):TS:=fun _ σ H=>t σ H fun vs H1=>vs.length <= sizeLine /\ E (.ref C) none H1
theorem xH2 (R:xN8 X E) (hc:X.calm = true) (hg:Gl X x) (hm:X.mg x = some (.ref C)) (hq:PySem.W.excIn X.K C bmB newId = true) (FB:ExcBaseFacts B newId initId bmB) (ha:PA X (e₀ :: rest) t)
  (he:starEach (e₀ :: rest) X.env = (false,eval e₀ X.env) :: starEach rest X.env:=by rfl) (hpl:(backTo cpos (starEach rest X.env)).any (·.1) = false:=by rfl) (hd:(x == ("__debug__":Str)) = false:=by decide) :
  PS X (.Raise (some (.Call (.Name x np) (e₀ :: rest) [] cpos)) none pos) (xS2 C E t):=by
 intro pins s σ H D I h
 obtain ⟨tl,N,nm,qn,bs,hdct,sn,sub,ab,col,dd,k0,k1,k2,k3,k5,mN,hC,hN,hni,T⟩:=xD8 I.mod.kin hq
 refine wpAny_Raise_call_subT (k5:=k5) (k3:=k3) (k2:=k2) (k1:=k1) (k0:=k0) (dd:=dd) (col:=col) (ab:=ab) (sub:=sub) (sn:=sn) (hdct:=hdct) (bm:=tl) (bs:=bs) (N:=N) (q:=qn) (nm:=nm) (C:=C) FB (mN:=mN) (T.hasType FB.hasBase) (I.ok.hd hc) ?_ hni (xC4 I hg hm ⟨rfl,?_⟩ hd)
 ·rw [he]
  show (false || (backTo cpos (starEach rest X.env)).any (·.1)) = false
  rw [hpl]; rfl
 ·have h1:=ha cpos pins s σ H _ I h
  rw [he] at h1 ⊢
  refine Calls.evalArgs_plain (wpAny_mono h1 (fun us s1 z=>?_) fun _ _ y=>y)
  obtain ⟨vs,H1,I1,r,hz,q⟩:=z
  exact ⟨rfl,by rw [<- r.length]; exact hz,I1.bk _ _ hC,hN.keeps I1.bk,T.keeps I1.bk,fun h' a hx=>R _ pins σ H1 s1 h' a us I1 hx q⟩
end
end L2
namespace L2
open PySem PySem.Spec PyProof.Rows
section
variable {X:Cx} {pins:List (Addr × Obj)} {σ:St} {H H1 H2:Hp} {s s1 s2:Shared} {B:Heap}
end
section
variable {X:Cx} {k j:Nat} {ps:List Str} {sp:Sp} {x:Str} {p pos:Pos} {e:Expr} {es:List Expr} {t:TA}
end
section
variable {X:Cx} {pins:List (Addr × Obj)} {σ:St} {H:Hp} {s:Shared} {a:Addr} {o:HO}
theorem Inv.track (I:Inv X pins σ H s) (hn:H a = none) (hnew:X.s₀.heap.get? a = none) (hL:a ≠ X.env.locals) (hC:∀ x c,X.env.cells.lookup x = some c->c ≠ a) (hP:∀ p ∈ X.pn ++ pins,p.1 ≠ a)
  (ho:ObjOk X.prog X.w (upd H a o) s.heap a o):Inv X pins σ (upd H a o) s:=by
 have ne:∀ b u,H b = some u->b ≠ a:=fun b u e z=>by rw [z,hn] at e; cases e
 refine ⟨I.ok,I.os,I.bare,⟨I.base.keep,I.base.slot,fun b ob e n hx=>?_,I.base.there,fun b xs e=>?_,fun b ob u e=>?_,fun b ps e=>?_⟩,I.loc,I.cell,?_,fun x c e=>?_,fun p hp=>?_,fun b u e=>?_,I.len⟩
 ·rw [upd_ne (fun z=>by rw [z,hnew] at e; cases e)]
  exact I.base.free b ob e n hx
 ·have q:=I.base.tups b xs e
  rw [upd_ne (ne b _ q)]; exact q
 ·have q:=I.base.frzs b ob u e
  rw [upd_ne (ne b _ q)]; exact q
 ·obtain ⟨m,q⟩:=I.base.tbls b ps e
  exact ⟨m,by rw [upd_ne (ne b _ q)]; exact q⟩
 ·rw [upd_ne (Ne.symm hL)]; exact I.free
 ·rw [upd_ne (hC x c e)]; exact I.freeC x c e
 ·obtain ⟨e1,e2,e3⟩:=I.pin p hp
  exact ⟨e1,by rw [upd_ne (hP p hp)]; exact e2,e3⟩
 ·by_cases z:b = a
  ·subst z; rw [zA1] at e; cases e; exact ho
  ·rw [upd_ne z] at e
   exact (I.hok b u e).stay (fun _ _ _ q=>q) (fun c q=>by rw [upd_ne (ne c _ q)]; exact q) fun c xs q=>by rw [upd_ne (ne c _ q)]; exact q
end
section
variable {X:Cx} {x n:Str} {C':Addr} {i:Nat} {np pos:Pos} {b₀:Stmt} {suite:List Stmt} {rest:List ExceptHandler} {ts:TS} {tr:Value->TS}
end
end L2
namespace L2
open PySem PySem.Spec PyProof.Rows PySem.W PySem.Builtin PySem.Builtin.ObjectAttr PySem.Builtin.Getset_descriptor
section
variable {prog:Program} {w:World} {A:Around} {E:Value->Shared->Prop}
structure ExcK (K:Frag) (C:Addr):Prop where
 ga:findIn K (.ref C) "__getattribute__" = some (some (.builtin "BaseException.__getattribute__"))
 g2:findIn K (.ref C) "__getattr__" = some none
 cl:findIn K (.ref C) "__class__" = some (some (.builtin "object.__class__"))
 mB:mroIn K C (.type "BaseException") = some true
 mO:mroIn K C (.type "object") = some true
end
section
variable {X:Cx}
end
end L2
namespace L2
open PySem PySem.Spec PyProof.Rows
noncomputable def zG6 (cells:List (Str × Addr)):List (Str × NameKind)->List (Str × Addr)->List (Str × Addr)
 | [],cs=>cs
 | x :: r,cs=>zG6 cells r (if x.2 == .free then (match cells.lookup x.1 with | some a=>(x.1,a) :: cs | none=>cs) else cs)
theorem zR8 {scope:Scope} {env:Env} (h:∀ x ∈ scope.names,x.2 = .free->∃ a,env.cells.lookup x.1 = some a):closureFor scope env = pure (zG6 env.cells scope.names []):=by
 have aux:∀ (names:List (Str × NameKind)) (cs:List (Str × Addr)),(∀ x ∈ names,x.2 = .free->∃ a,env.cells.lookup x.1 = some a) ->
   (forIn (m:=Sem) names cs fun x r=>do
    if (x.2 == NameKind.free) = true then do
     let a <- cellOf env x.1
     pure (ForInStep.yield ((x.1,a) :: r))
    else pure (ForInStep.yield r)) = pure (zG6 env.cells names cs):=by
  intro names
  induction names with
  | nil=>intro cs _; rfl
  | cons x r ih =>
   intro cs hx
   rw [List.forIn_cons]
   cases hk:(x.2 == NameKind.free) with
   | false =>
    simp only [Bool.false_eq_true,if_false,pure_bind]
    rw [ih cs fun y hy=>hx y (List.mem_cons_of_mem _ hy)]
    show _ = pure (zG6 env.cells r (if x.2 == .free then _ else cs))
    rw [hk]; rfl
   | true =>
    obtain ⟨a,ha⟩:=hx x List.mem_cons_self (by simpa using hk)
    have e:cellOf env x.1 = pure a:=by unfold cellOf; rw [ha]
    simp only [if_true,e,pure_bind]
    rw [ih _ fun y hy=>hx y (List.mem_cons_of_mem _ hy)]
    show _ = pure (zG6 env.cells r (if x.2 == .free then (match env.cells.lookup x.1 with | some a=>(x.1,a) :: cs | none=>cs) else cs))
    rw [hk,ha]; rfl
 have h1:=aux scope.names [] h
 unfold closureFor
 simp only [bind_pure]
 exact h1
theorem zT6 {cells:List (Str × Addr)}:∀ {names:List (Str × NameKind)} {cs:List (Str × Addr)},(∀ p ∈ cs,cells.lookup p.1 = some p.2)->∀ p ∈ zG6 cells names cs,cells.lookup p.1 = some p.2
 | [],_,h=>h
 | x :: r,cs,h=>zT6 (names:=r) fun p hp=>by
  split at hp
  ·split at hp
   ·rename_i a ha
    rcases List.mem_cons.mp hp with rfl | hp
    ·exact ha
    ·exact h p hp
   ·exact h p hp
  ·exact h p hp
theorem zY0 {cells:List (Str × Addr)}:∀ {names:List (Str × NameKind)} {cs:List (Str × Addr)} {p:Str × Addr},p ∈ cs->p ∈ zG6 cells names cs
 | [],_,_,h=>h
 | x :: r,cs,p,h=>zY0 (names:=r) (by
  split
  ·split
   ·exact List.mem_cons_of_mem _ h
   ·exact h
  ·exact h)
theorem zT7 {cells:List (Str × Addr)} {x:Str} {a:Addr} (ha:cells.lookup x = some a):∀ {names:List (Str × NameKind)} {cs:List (Str × Addr)},(x,NameKind.free) ∈ names->(x,a) ∈ zG6 cells names cs
 | y :: r,cs,h=>by
  rcases List.mem_cons.mp h with rfl | h
  ·refine zY0 (names:=r) ?_
   simp [ha]
  ·exact zT7 ha (names:=r) h
theorem zN4 {α:Type} {x:Str} {v:α}:∀ {l:List (Str × α)},l.lookup x = some v->(x,v) ∈ l
 | [],h=>by simp at h
 | (y,u) :: r,h=>by
  rw [List.lookup_cons] at h
  cases e:x == y with
  | true=>rw [e] at h; cases h; rw [beq_iff_eq.mp e]; exact List.mem_cons_self
  | false=>rw [e] at h; exact List.mem_cons_of_mem _ (zN4 h)
theorem zT4 {α:Type} {x:Str} {v:α}:∀ {l:List (Str × α)},(x,v) ∈ l->∃ u,l.lookup x = some u
 | (y,u) :: r,h=>by
  rw [List.lookup_cons]
  cases e:x == y with
  | true=>exact ⟨u,rfl⟩
  | false =>
   rcases List.mem_cons.mp h with z | z
   ·cases z; simp at e
   ·exact zT4 z
noncomputable def yU0 (osc scope:Scope) (N Tn Fn:List Str) (js:List Nat):Bool :=
 (scope.kind == .function) && (osc.kind == .function) && (scope.names.all fun y=>match y.2 with
  | .cell=>false
  | .local=>scope.names.lookup y.1 == some .local
  | .free=>osc.names.lookup y.1 == some .cell && scope.names.lookup y.1 == some .free
  | _=>true) && (js.map (fun j=>N[j]?) == Fn.map some) && (Fn.all fun x=>scope.names.lookup x == some .free) && (Tn.all fun x=>scope.names.lookup x == some .local) && decide (Tn ++ Fn).Nodup
structure CompScope (osc scope:Scope) (N Tn Fn:List Str) (js:List Nat):Prop where
 kind:scope.kind = .function
 okind:osc.kind = .function
 nocell:∀ y ∈ scope.names,y.2 ≠ .cell
 loc:∀ y ∈ scope.names,y.2 = .local->scope.names.lookup y.1 = some .local
 fre:∀ y ∈ scope.names,y.2 = .free->osc.names.lookup y.1 = some .cell
 idx:js.map (fun j=>N[j]?) = Fn.map some
 fn:∀ x ∈ Fn,scope.names.lookup x = some .free
 tn:∀ x ∈ Tn,scope.names.lookup x = some .local
 nd:(Tn ++ Fn).Nodup
theorem CompScope.of {osc scope:Scope} {N Tn Fn:List Str} {js:List Nat} (h:yU0 osc scope N Tn Fn js = true):CompScope osc scope N Tn Fn js:=by
 unfold yU0 at h
 simp only [Bool.and_eq_true,beq_iff_eq,decide_eq_true_eq,List.all_eq_true] at h
 obtain ⟨⟨⟨⟨⟨⟨h1,h1'⟩,h2⟩,h3⟩,h4⟩,h5⟩,h6⟩:=h
 refine ⟨h1,h1',fun y hy e=>?_,fun y hy e=>?_,fun y hy e=>?_,h3,h4,h5,h6⟩
 ·have:=h2 y hy; rw [e] at this; cases this
 ·have:=h2 y hy; rw [e] at this; simpa using this
 ·have:=h2 y hy; rw [e] at this; simp only [Bool.and_eq_true,beq_iff_eq] at this; exact this.1
noncomputable def cxIn (X:Cx) (N:List Str) (scope:Scope) (cl:List (Str × Addr)) (C:Addr) (s:Shared) (H:Hp) (fp:List Addr):Cx :=
 { X with N:=N,s₀:=s,H₀:=H,env:=compEnvC scope cl C X.env,outer:=X.stack,ex:=fp,fn:=fun _=>false,pn:=[],xe:=fun _ _=>False }
noncomputable def innS (k:Nat) (js:List Nat) (σ:St):St:=List.replicate k none ++ js.map fun j=>(σ[j]?).join
theorem zQ0 {env:Env} (hk:env.scope.kind = .function):∀ {names:List (Str × NameKind)} {x:Str} {k:NameKind},(∀ y ∈ names,y.2 = .free->env.kindOf y.1 = some .cell)->names.lookup x = some k ->
  (names.map fun (n,k)=>if (k == NameKind.free && env.scope.kind == .function && env.kindOf n == some .cell) then (n,NameKind.cell) else (n,k)).lookup x = some (if k = .free then .cell else k)
 | [],_,_,_,h=>by simp at h
 | (n,k') :: r,x,k,hf,h=>by
  have ih:=@zQ0 env hk r x k fun y hy=>hf y (List.mem_cons_of_mem _ hy)
  have h0:=hf (n,k') List.mem_cons_self
  rw [List.map_cons]
  show List.lookup x ((if (k' == NameKind.free && env.scope.kind == .function && env.kindOf n == some .cell) = true then (n,NameKind.cell) else (n,k')) :: _) = _
  rw [List.lookup_cons] at h
  by_cases hk':k' = .free
  ·subst hk'
   have e:(NameKind.free == NameKind.free && env.scope.kind == .function && env.kindOf n == some .cell) = true:=by rw [h0 rfl,hk]; decide
   rw [if_pos e,List.lookup_cons]
   cases hx:x == n with
   | true=>rw [hx] at h; cases h; rfl
   | false=>rw [hx] at h; exact ih h
  ·have e:¬ (k' == NameKind.free && env.scope.kind == .function && env.kindOf n == some .cell) = true:=by
    intro z; simp only [Bool.and_eq_true,beq_iff_eq] at z; exact hk' z.1.1
   rw [if_neg e,List.lookup_cons]
   cases hx:x == n with
   | true=>rw [hx] at h; cases h; simp [hk']
   | false=>rw [hx] at h; exact ih h
theorem zS7 {env:Env}:∀ {names:List (Str × NameKind)} {x:Str} {k:NameKind},(names.map fun (n,k)=>if (k == NameKind.free && env.scope.kind == .function && env.kindOf n == some .cell) then (n,NameKind.cell) else (n,k)).lookup x = some k ->
  ∃ k',(x,k') ∈ names /\ (k' = k \/ (k' = .free /\ k = .cell))
 | [],_,_,h=>by simp at h
 | (n,k') :: r,x,k,h=>by
  have ih:=@zS7 env r x k
  rw [List.map_cons] at h
  have h:List.lookup x ((if (k' == NameKind.free && env.scope.kind == .function && env.kindOf n == some .cell) = true then (n,NameKind.cell) else (n,k')) :: _) = some k:=h
  by_cases e:(k' == NameKind.free && env.scope.kind == .function && env.kindOf n == some .cell) = true
  ·rw [if_pos e,List.lookup_cons] at h
   cases hx:x == n with
   | true =>
    rw [hx] at h; cases h
    simp only [Bool.and_eq_true,beq_iff_eq] at e
    refine ⟨.free,?_,.inr ⟨rfl,rfl⟩⟩
    rw [beq_iff_eq.mp hx,<- e.1.1]; exact List.mem_cons_self
   | false=>rw [hx] at h; obtain ⟨q,m,z⟩:=ih h; exact ⟨q,List.mem_cons_of_mem _ m,z⟩
  ·rw [if_neg e,List.lookup_cons] at h
   cases hx:x == n with
   | true=>rw [hx] at h; cases h; refine ⟨k',?_,.inl rfl⟩; rw [beq_iff_eq.mp hx]; exact List.mem_cons_self
   | false=>rw [hx] at h; obtain ⟨q,m,z⟩:=ih h; exact ⟨q,List.mem_cons_of_mem _ m,z⟩
section
variable {X:Cx} {pins:List (Addr × Obj)} {σ:St} {H:Hp} {s:Shared} {scope:Scope} {Tn Fn:List Str} {js:List Nat} {fp:List Addr}
theorem xV9 {C:Addr} {h1:Heap} {tk:Nat} {mC:Str->Option Value} (cs:CompScope X.env.scope scope X.N Tn Fn js) (I:Inv X pins σ H s) (hC:C = s.heap.objs.size) (hn:h1.Ns C mC) (k1:∀ b o,s.heap.get? b = some o->h1.get? b = some o)
  (hf:∀ b ∈ fp,FpOk X pins H b) (ho:∀ b ∈ fp,∃ o,s.heap.get? b = some o) :
  Inv (cxIn X (Tn ++ Fn) scope (zG6 X.env.cells scope.names []) C s H fp) (X.pn ++ pins) (innS Tn.length js σ) H { s with heap:=h1,toks:=tk }:=by
 have hcl:∀ x c,(zG6 X.env.cells scope.names []).lookup x = some c->X.env.cells.lookup x = some c:=fun x c e=>zT6 (names:=scope.names) (cs:=[]) (fun _ z=>nomatch z) _ (zN4 e)
 have hlen:(js.map fun j=>X.N[j]?).length = (Fn.map some).length:=congrArg List.length cs.idx
 rw [List.length_map,List.length_map] at hlen
 have hfr:∀ y ∈ scope.names,y.2 = .free->X.env.kindOf y.1 = some .cell:=cs.fre
 subst hC
 refine ⟨⟨I.ok.mod,cs.kind,I.ok.glob,I.ok.blt,Nat.le_refl _,fun x y c e1 e2=>I.ok.inj x y c (hcl x c e1) (hcl y c e2),fun x hx=>?_,fun x c z=>absurd z Bool.false_ne_true,I.ok.hd,I.ok.frames,.inl rfl,fun b hb=>⟨?_,fun x c e=>(hf b hb).2.2.2.2.1 x c (hcl x c e)⟩,I.bs,
  Nat.le_trans I.ok.bsz I.sz,fun b o e hb=>?_,fun b hb z=>?_,I.stack,I.stkFree⟩,rfl,I.bare,Un.kept k1,⟨mC,hn,fun i x v e1 e2 e3=>?_⟩,fun x c e=>?_,I.fresh,fun x c e=>I.freeC x c (hcl x c e),fun p hp=>?_,I.hok.kept k1,?_⟩
 ·-- has
  have hx:(relabel scope X.env).names.lookup x = some .cell \/ (relabel scope X.env).names.lookup x = some .free:=hx
  have key:(x,NameKind.free) ∈ scope.names:=by
   rcases hx with hx | hx
   ·obtain ⟨k',m,z⟩:=zS7 hx
    rcases z with z | ⟨z,_⟩
    ·subst z; exact absurd rfl (cs.nocell _ m)
    ·subst z; exact m
   ·obtain ⟨k',m,z⟩:=zS7 hx
    rcases z with z | ⟨_,z⟩
    ·subst z; exact m
    ·cases z
  obtain ⟨a,ha⟩:=I.ok.has x (.inl (hfr _ key rfl))
  exact zT4 (zT7 ha key)
 ·obtain ⟨o,e⟩:=ho b hb
  exact Nat.ne_of_lt (Heap.lt_size e)
 ·rcases (hf b hb).2.2.2.1 with z | z
  ·exact I.ok.noex b o e z
  ·exact absurd (Nat.lt_of_lt_of_le (Heap.lt_size (I.ok.bs b o e).1) z) (Nat.lt_irrefl _)
 ·rcases List.mem_cons.mp (I.stkSub b z) with q | q
  ·exact (hf b hb).2.1 q
  ·exact (hf b hb).2.2.1 q
 ·-- names
  have e1:(Tn ++ Fn)[i]? = some x:=e1
  have e2:(List.replicate Tn.length none ++ js.map fun j=>(σ[j]?).join)[i]? = some (some v):=e2
  by_cases hi:i < Tn.length
  ·rw [List.getElem?_append_left (by simpa using hi),List.getElem?_replicate] at e2
   split at e2 <;> cases e2
  ·rw [List.getElem?_append_right (by simpa using hi)] at e2
   rw [List.getElem?_append_right (by simpa using hi)] at e1
   rw [List.length_replicate,List.getElem?_map] at e2
   cases ej:js[i - Tn.length]? with
   | none=>rw [ej] at e2; cases e2
   | some j =>
    rw [ej] at e2
    have e2:(σ[j]?).join = some v:=by simpa using e2
    have e2':σ[j]? = some (some v):=by
     cases q:σ[j]? with
     | none=>rw [q] at e2; cases e2
     | some o=>rw [q] at e2; cases o with
      | none=>cases e2
      | some v'=>cases e2; rfl
    have ej':X.N[j]? = some x:=by
     have h0:(js.map fun j=>X.N[j]?)[i - Tn.length]? = (Fn.map some)[i - Tn.length]?:=by rw [cs.idx]
     rw [List.getElem?_map,ej,List.getElem?_map,e1] at h0
     simpa using h0
    have hx:scope.names.lookup x = some .free:=cs.fn x (List.mem_of_getElem? e1)
    have hox:X.env.kindOf x = some .cell:=hfr _ (zN4 hx) rfl
    obtain ⟨m,hm,hl⟩:=I.loc
    obtain ⟨u,r,l⟩:=hl j x v ej' e2' (.inr (.inl hox))
    refine ⟨u,r,.inr ⟨.inl ?_,?_⟩⟩
    ·show (relabel scope X.env).names.lookup x = some .cell
     have z:=zQ0 (env:=X.env) cs.okind (names:=scope.names) hfr hx
     rw [if_pos rfl] at z
     exact z
    ·rcases l with ⟨k,_⟩ | ⟨_,c,ec,z⟩
     ·rw [hox] at k; cases k
     ·obtain ⟨c',e'⟩:=zT4 (zT7 (cs:=[]) ec (zN4 hx))
      have:c' = c:=Option.some.inj ((hcl x c' e').symm.trans ec)
      subst this
      obtain ⟨o,q1,q2⟩:=z
      exact ⟨c',e',o,k1 _ _ q1,q2⟩
 ·obtain ⟨v,o,q1,q2⟩:=I.cell x c (hcl x c e)
  exact ⟨v,o,k1 _ _ q1,q2⟩
 ·have hp:p ∈ ([]:List (Addr × Obj)) ++ (X.pn ++ pins):=hp
  rw [List.nil_append] at hp
  obtain ⟨e,n,ne,nf,d⟩:=I.pin p hp
  refine ⟨k1 _ _ e,n,Nat.ne_of_lt (Heap.lt_size e),fun z=>?_,d⟩
  rcases List.mem_cons.mp (I.stkSub p.1 z) with q | q
  ·exact ne q
  ·exact nf q
 ·show (List.replicate Tn.length none ++ js.map fun j=>(σ[j]?).join).length = (Tn ++ Fn).length
  rw [List.length_append,List.length_append,List.length_replicate,List.length_map,hlen]
structure xK5 (X:Cx) (pins:List (Addr × Obj)) (C:Addr):Prop where
 nl:C ≠ X.env.locals
 yg:X.s₀.heap.objs.size <= C
 nc:∀ x c,X.env.cells.lookup x = some c->c ≠ C
 np:∀ p ∈ X.pn ++ pins,p.1 ≠ C
theorem Inv.letgo {C:Addr} {h2:Heap} (I:Inv X pins σ H s) (hn:H C = none) (c:xK5 X pins C) (sb:Heap.SameBut C s.heap h2):Inv X pins σ H { s with heap:=h2 } :=
 I.turned (t':=s.toks) (it:=C) (fun b o hb e=>(sb.2 b hb).trans e) hn c.nl (.inr c.yg) c.nc c.np
theorem Inv.cfree {C:Addr} (I:Inv X pins σ H s) (hC:C = s.heap.objs.size):xK5 X pins C:=by
 refine ⟨by rw [hC]; exact Nat.ne_of_gt I.lt,by rw [hC]; exact I.sz,fun x c e z=>?_,fun p hp z=>?_⟩
 ·obtain ⟨v,q⟩:=I.cell x c e
  have:=q.lt
  rw [z,hC] at this; exact absurd this (Nat.lt_irrefl _)
 ·have:=Heap.lt_size (I.pin p hp).1
  rw [z,hC] at this; exact absurd this (Nat.lt_irrefl _)
theorem xQ6 {C:Addr} {cl:List (Str × Addr)} {N:List Str} {σ':St} {H':Hp} {pins':List (Addr × Obj)} {s':Shared} (I:Inv X pins σ H s) (hf:∀ b ∈ fp,FpOk X pins H b) (J:Inv (cxIn X N scope cl C s H fp) pins' σ' H' s'):Inv X pins σ H' s' :=
 I.call' (ch:=fp) J.os J.base J.hok J.bare fun b hb=>⟨(hf b hb).2.2.2.1,(hf b hb).2.1,(hf b hb).2.2.2.2.1,(hf b hb).2.2.2.2.2⟩
end
section
variable {prog:Program} {w:World} {A:Around} {s:Shared}
theorem yO6 {elt target iter:Expr} {ifs:List Expr} {scope:Scope} {pos:Pos} {it acc:Value} {env:Env} {R:Result->Shared->Prop} (I:Nat->Shared->Prop)
  (turn:∀ n s,I n s->wpAny (model prog w) A (pyNext it) (fun r s₁=>match r with
   | none=>R (.ok .next) s₁
   | some v=>wpAny (model prog w) A (letOwnedTupleGo target it v) (fun _ s₀=>wpAny (model prog w) A (assign target env v) (fun _ s₂ =>
     wpAny (model prog w) A (forIn ifs true fun c r=>if r = true then do let ok <- isTrue c env (eval c env); pure (ForInStep.yield ok) else pure (ForInStep.yield r)) (fun ok s₃ =>
      if ok = true then wpAny (model prog w) A (eval elt env) (fun x s₄ =>
       wpAny (model prog w) A (call (.builtin "list.append") [acc,x]) (fun _ s₅=>∃ m,m < n /\ I m s₅) (fun _ _=>False) s₄) (fun _ _=>False) s₃
      else ∃ m,m < n /\ I m s₃) (fun _ _=>False) s₂) (fun _ _=>False) s₀) (fun _ _=>False) s₁) (fun _ _=>False) s)
  (n:Nat) (h:I n s):codeAny (model prog w) A (.compLoop (.ListComp elt [⟨target,iter,ifs,0⟩] scope pos) 0 it acc env) R s:=by
 refine codeAny_loop rfl I (fun n s hI=>?_) n h
 show wpAny _ A ((compTurn (.ListComp elt [⟨target,iter,ifs,0⟩] scope pos) 0 it acc env).onRaise (fun x=>do noteFrame x env; theTreesLotGoes x)) _ _ s
 refine wpAny_noted ?_
 rw [compTurn_list]
 refine wpAny_bind (wpAny_standAt (wpAny_bind (wpAny_mono (turn n s hI) (fun r s₁ h₁=>?_) fun _ _ h'=>h'.elim)))
 cases r with
 | none=>exact wpAny_pure h₁
 | some v =>
  refine wpAny_bind (wpAny_mono h₁ (fun _ s₀ h₀'=>?_) fun _ _ h'=>h'.elim)
  refine wpAny_bind (wpAny_mono h₀' (fun _ s₂ h₂=>wpAny_bind (wpAny_mono h₂ (fun ok s₃ h₃=>?_) fun _ _ h'=>h'.elim)) fun _ _ h'=>h'.elim)
  cases ok with
  | false=>exact wpAny_pure ⟨rfl,h₃⟩
  | true =>
   exact wpAny_bind (wpAny_bind (wpAny_mono h₃ (fun x s₄ h₄=>wpAny_bind (wpAny_mono h₄ (fun _ s₅ h₅=>wpAny_pure (wpAny_pure ⟨rfl,h₅⟩)) fun _ _ h'=>h'.elim)) fun _ _ h'=>h'.elim))
end
noncomputable def PIfs (X:Cx) (ifs:List Expr) (t:TT):Prop :=
 ∀ (pins:List (Addr × Obj)) (s:Shared) (σ:St) (H:Hp) (Q:Bool->Hp->Prop),Inv X pins σ H s->t σ H Q ->
  wpAny (model X.prog X.w) X.A (forIn ifs true fun c r=>if r = true then do let ok <- isTrue c X.env (eval c X.env); pure (ForInStep.yield ok) else pure (ForInStep.yield r)) (TP X pins σ Q) X.xe s
noncomputable abbrev xY3:TT:=fun _ H Q=>Q true H
theorem zK5 {X:Cx}:PIfs X [] xY3:=fun _ _ _ H _ I h=>wpAny_tests_nil ⟨H,I,h⟩
theorem zS8 {X:Cx} {c:Expr} {t:TT} (h:PT X c t):PIfs X [c] t:=fun pins s σ H Q I hq=>wpAny_tests_one (h pins s σ H Q I hq)
noncomputable def zV6 (J:It) (g:TG) (tc:TT) (te:TE) (D:Addr) (Z:Hp->Prop) (σ:St) (H:Hp):Prop :=
 ∃ W:Nat->Nat->St->Hp->Prop,(∃ m,W 0 m σ H) /\ ∀ i m σ H,W i m σ H ->
  (J.stop i H /\ Z H) \/ (J.go i H /\ ∃ N:St->Hp->Prop,(∀ σ' H',N σ' H'->∃ m',m' < m /\ W (i + 1) m' σ' H') /\
   ∀ x H',J.yld i H x H'->g x σ H' fun σ2 H2=>tc σ2 H2 fun b H3=>if b = true then te σ2 H3 fun y H4=>∃ ys,H4 D = some (.lst ys) /\ ys.length < sizeLine /\ N σ2 (upd H4 D (.lst (ys ++ [y]))) else N σ2 H3)
section
variable {X:Cx} {scope:Scope} {Tn Fn:List Str} {js:List Nat} {tg iter elt:Expr} {ifs:List Expr} {wi:TI} {g:TG} {tc:TT} {te:TE} {pos:Pos}
theorem yK8 {pins:List (Addr × Obj)} {σ:St} {H2:Hp} {s2:Shared} {it:Addr} {fp:List Addr} {tn:Nat->Heap->Prop} {J:It} {Z:Addr->Hp->Prop} {RR:Value->Addr->Result->Shared->Prop} {E:Value->Shared->Prop} (hc:X.calm = true)
  (cs:CompScope X.env.scope scope X.N Tn Fn js)
  (hg:∀ C s H fp,PG (cxIn X (Tn ++ Fn) scope (zG6 X.env.cells scope.names []) C s H fp) tg g) (ht:∀ C s H fp,PIfs (cxIn X (Tn ++ Fn) scope (zG6 X.env.cells scope.names []) C s H fp) ifs tc)
  (he:∀ C s H fp,PE (cxIn X (Tn ++ Fn) scope (zG6 X.env.cells scope.names []) C s H fp) elt te)
  (I2:Inv X pins σ H2 s2) (T:Turn X.prog X.w X.K tg J fp it tn) (st2:tn 0 s2.heap) (f2:∀ b ∈ fp,FpOk X pins H2 b)
  (hb:∀ D,H2 D = none->zV6 J g tc te D (Z D) (innS Tn.length js σ) (upd H2 D (.lst [])))
  (fin:∀ D C s' H' m,s'.heap.Ns C m->Inv X pins σ H' s'->H' C = none->xK5 X pins C->Z D H'->RR (.ref D) C (.ok .next) s') :
  wpAny (model X.prog X.w) X.A (newList []) (fun acc s₃=>wpAny (model X.prog X.w) X.A (newFunctionEnv scope X.env.globals (zG6 X.env.cells scope.names []) [] X.env.qual none .none (some X.env)) (fun cenv s₄ =>
   codeAny (model X.prog X.w) X.A (.compStart (.ListComp elt [⟨tg,iter,ifs,0⟩] scope pos) 0 (.ref it) acc { cenv with scope:=relabel scope X.env }) (RR acc cenv.locals) s₄) E s₃) E s2:=by
 refine wpAny_newObj_type (wpAny_newFunctionEnv cs.nocell (by intro y hy; simp at hy) (fun h₁ hns₁ hsb₁=>?_) cs.kind)
 dsimp only at hns₁ hsb₁ ⊢
 have I3:=I2.lnew (its:=[]) (ys:=[]) (t':=s2.toks) .nil (Nat.zero_le _)
 have fD:H2 s2.heap.objs.size = none:=I2.fresh
 obtain ⟨W,⟨m0,w0⟩,turn⟩:=hb _ fD
 generalize hH2:s2.heap.push { cls:=.type "list",dict:=none,data:=.seq ([]:List Value).toArray } = g2 at hns₁ hsb₁ I3 ⊢
 have up2:∀ b o,s2.heap.get? b = some o->g2.get? b = some o:=fun b o e=>hH2 ▸ Heap.get?_push_of_some _ e
 generalize hD:s2.heap.objs.size = D at *
 have up3:∀ b o,g2.get? b = some o->h₁.get? b = some o:=fun b o e=>hsb₁.extBut b o (Nat.ne_of_lt (Heap.lt_size e)) (Heap.get?_push_of_some _ e)
 have hob:∀ b ∈ fp,∃ o,s2.heap.get? b = some o:=fun b hb=>let ⟨o,e,_⟩:=T.obj 0 _ st2 b hb; ⟨o,e⟩
 have neD:∀ b ∈ fp,b ≠ D:=fun b hb=>by
  obtain ⟨o,e⟩:=hob b hb
  rw [<- hD]; exact Nat.ne_of_lt (Heap.lt_size e)
 have f3:∀ b ∈ fp,FpOk X pins (upd H2 D (.lst [])) b:=fun b hb=>⟨by rw [upd_ne (neD b hb)]; exact (f2 b hb).1,(f2 b hb).2⟩
 have J0:=xV9 (fp:=fp) (tk:=s2.toks + ([]:List (Str × Value)).length) cs I3 rfl hns₁ up3 f3 fun b hb=>let ⟨o,e⟩:=hob b hb; ⟨o,up2 b o e⟩
 have tn0:tn 0 h₁:=T.keep _ _ _ st2 fun b hb o e=>up3 b o (up2 b o e)
 have cf:xK5 X pins g2.objs.size:=I3.cfree rfl
 generalize hX':cxIn X (Tn ++ Fn) scope (zG6 X.env.cells scope.names []) g2.objs.size { s2 with heap:=g2,toks:=s2.toks } (upd H2 D (.lst [])) fp = X' at J0
 have eP:X'.prog = X.prog:=by rw [<- hX']; rfl
 have ew:X'.w = X.w:=by rw [<- hX']; rfl
 have eK:X'.K = X.K:=by rw [<- hX']; rfl
 have eA:X'.A = X.A:=by rw [<- hX']; rfl
 have ec:X'.calm = true:=by rw [<- hX']; exact hc
 have ee:X'.env = compEnvC scope (zG6 X.env.cells scope.names []) g2.objs.size X.env:=by rw [<- hX']; rfl
 have ex:X'.xe = fun _ _=>False:=by rw [<- hX']; rfl
 have Hg:PG X' tg g:=by rw [<- hX']; exact hg _ _ _ _
 have Ht:PIfs X' ifs tc:=by rw [<- hX']; exact ht _ _ _ _
 have He:PE X' elt te:=by rw [<- hX']; exact he _ _ _ _
 have out:∀ {pins' σ' H' s'},Inv X' pins' σ' H' s'->Inv X pins σ H' s':=by
  intro pins' σ' H' s' J
  rw [<- hX'] at J
  exact xQ6 I3 f3 J
 have fsX:∀ b ∈ fp,b ∉ X'.fs:=by
  intro b hb z
  rw [<- hX'] at z
  rcases List.mem_cons.mp (I3.stkSub b z) with q | q
  ·exact (f3 b hb).2.1 q
  ·exact (f3 b hb).2.2.1 q
 have stat:∀ {H':Hp},(∀ b ∈ fp,H' b = none)->∀ b ∈ fp,FpOk X' (X.pn ++ pins) H' b:=fun {H'} hn b hb=>by
  refine ⟨hn b hb,?_,fsX b hb,.inl (by rw [<- hX']; exact hb),?_,?_⟩
  ·rw [ee]
   obtain ⟨o,e⟩:=hob b hb
   exact Nat.ne_of_lt (Heap.lt_size (up2 b o e))
  ·intro x c e
   rw [ee] at e
   exact (f3 b hb).2.2.2.2.1 x c (zT6 (names:=scope.names) (cs:=[]) (fun _ z=>nomatch z) _ (zN4 e))
  ·intro p hp
   have hp:p ∈ X.pn ++ pins:=by rw [<- hX'] at hp; simpa [cxIn] using hp
   exact (f3 b hb).2.2.2.2.2 p hp
 have loop:∀ s4:Shared,s4 = { s2 with heap:=h₁,toks:=s2.toks + ([]:List (Str × Value)).length } ->
   codeAny (model X.prog X.w) X.A (.compLoop (.ListComp elt [⟨tg,iter,ifs,0⟩] scope pos) 0 (.ref it) (.ref D) (compEnvC scope (zG6 X.env.cells scope.names []) g2.objs.size X.env)) (RR (.ref D) g2.objs.size) s4:=by
  rintro s4 rfl
  refine yO6 (fun n s'=>∃ i σ' H',Inv X' (X.pn ++ pins) σ' H' s' /\ tn i s'.heap /\ (∀ b ∈ fp,H' b = none) /\ W i n σ' H') ?_ m0 ⟨0,_,_,J0,tn0,fun b hb=>(f3 b hb).1,w0⟩
  rintro n s5 ⟨i,σ5,H5,I5,st5,fr5,w5⟩
  rw [<- ee,<- eA,<- eP,<- ew,<- ex]
  rcases turn i n σ5 H5 w5 with ⟨stop,qz⟩ | ⟨go,N,hN,step⟩
  ·have td:=T.done X' eP ew eK ec i (X.pn ++ pins) s5 σ5 H5 X'.xe I5 (stat fr5) st5 stop
   rw [<- eP,<- ew] at td
   refine thn td fun r s6 ⟨hr,I6⟩=>?_
   subst hr
   obtain ⟨m,hm,_⟩:=id I6.loc
   rw [ee] at hm
   have hfr:=I6.free
   rw [ee] at hfr
   exact fin D _ s6 H5 m hm (out I6) hfr cf qz
  ·have ti:=T.item X' eP ew eK ec i (X.pn ++ pins) s5 σ5 H5 X'.xe I5 (stat fr5) st5 go
   rw [<- eP,<- ew] at ti
   refine thn ti fun r s6 ⟨u,hr,h6⟩=>?_
   subst hr
   refine thn h6 fun _ s7 ⟨x,H7,I7,r7,y7,st7,fr7⟩=>?_
   have I7':=I7.pinned (stat fr7) (T.obj _ _ st7)
   refine thn (Hg _ s7 σ5 H7 x u _ I7' r7 (step x H7 y7)) fun _ s8 ⟨σ8,H8,I8,q8⟩=>?_
   refine thn (Ht _ s8 σ8 H8 _ I8 q8) fun ok s9 ⟨H9,I9,q9⟩=>?_
   have again:∀ {σa:St} {Ha:Hp} {sa:Shared},Inv X' ((X.pn ++ pins) ++ yI3 fp s7.heap) σa Ha sa->N σa Ha->∃ m,m < n /\ ∃ i σ' H',Inv X' (X.pn ++ pins) σ' H' sa /\ tn i sa.heap /\ (∀ b ∈ fp,H' b = none) /\ W i m σ' H':=fun {σa Ha sa} Ia na=>by
    obtain ⟨m',hm,wa⟩:=hN σa Ha na
    refine ⟨m',hm,i + 1,σa,Ha,Ia.unpinned,T.keep _ _ _ st7 fun b hb o e=>(Ia.pin (b,o) (List.mem_append_right _ (List.mem_append_right _ (zP6 hb e)))).1,fun b hb=>?_,wa⟩
    obtain ⟨o,e,d⟩:=T.obj _ _ st7 b hb
    exact (Ia.pin (b,o) (List.mem_append_right _ (List.mem_append_right _ (zP6 hb e)))).2.1
   cases ok with
   | false=>exact again I9 q9
   | true =>
    refine thn (He _ s9 σ8 H9 _ I9 q9) fun y s10 ⟨yv,H10,I10,r10,ys,e10,l10,n10⟩=>?_
    exact thn (zJ4 (X:=X') _ s10 σ8 H10 (.ref D) [yv] (.ref D) [y] (fun _ H'=>N σ8 H') I10 rfl (.cons r10 .nil) ⟨D,ys,yv,rfl,rfl,e10,l10,n10⟩) fun _ s11 ⟨_,H11,I11,_,n11⟩=>again I11 n11
 exact codeAny_compStart_list (loop _ rfl) (T.self _ 0 _ _ _ tn0 (loop _ rfl))
noncomputable def xS6 (wi:TI) (g:TG) (tc:TT) (te:TE) (k:Nat) (js:List Nat):TE:=fun σ H Q=>wi σ H fun J H1=>∀ D,H1 D = none->zV6 J g tc te D (Q (.ref D)) (innS k js σ) (upd H1 D (.lst []))
theorem zL9 (Tn Fn:List Str) (js:List Nat) (hc:X.calm = true) (h:yU0 X.env.scope scope X.N Tn Fn js = true) (hi:PI X tg iter wi)
  (hg:∀ C s H fp,PG (cxIn X (Tn ++ Fn) scope (zG6 X.env.cells scope.names []) C s H fp) tg g) (ht:∀ C s H fp,PIfs (cxIn X (Tn ++ Fn) scope (zG6 X.env.cells scope.names []) C s H fp) ifs tc)
  (he:∀ C s H fp,PE (cxIn X (Tn ++ Fn) scope (zG6 X.env.cells scope.names []) C s H fp) elt te) (hs:∀ x,foldedSetIterable iter X.env x = pure x:=by intro _; rfl) :
  PE X (.ListComp elt [⟨tg,iter,ifs,0⟩] scope pos) (xS6 wi g tc te Tn.length js):=by
 intro pins s σ H Q I hq
 have cs:=CompScope.of h
 rw [eval_ListComp]
 refine wpAny_comprehension_free (use:=none) rfl hs (zR8 ?_) cs.kind cs.loc (thn (hi pins s σ H _ I hq) fun xv s1 h1=>thn h1 fun itv s2 h2=>?_)
 ·intro x hx e; exact I.ok.has x.1 (.inl (cs.fre x hx e))
 obtain ⟨it,fp,tn,J,H2,rfl,I2,T,st2,f2,hb⟩:=h2
 refine yK8 (Z:=fun D H'=>Q (.ref D) H') (RR:=fun acc C=>compPost (model X.prog X.w) X.A X.xe none (EP X pins σ Q) acc C) hc cs hg ht he I2 T st2 f2 hb ?_
 intro D C s' H' m hm I' hn cf z
 exact ⟨m,hm,fun h' sb=>⟨.ref D,H',I'.letgo hn cf sb,rfl,z⟩⟩
theorem zN3 (Tn Fn:List Str) (js:List Nat) {i:Nat} {y:Str} {py spos:Pos} (hN:X.N.Nodup) (hiN:X.N[i]? = some y) (hy:X.env.scope.names.lookup y = some .local) (hc:X.calm = true) (h:yU0 X.env.scope scope X.N Tn Fn js = true) (hi:PI X tg iter wi)
  (hg:∀ C s H fp,PG (cxIn X (Tn ++ Fn) scope (zG6 X.env.cells scope.names []) C s H fp) tg g) (ht:∀ C s H fp,PIfs (cxIn X (Tn ++ Fn) scope (zG6 X.env.cells scope.names []) C s H fp) ifs tc)
  (he:∀ C s H fp,PE (cxIn X (Tn ++ Fn) scope (zG6 X.env.cells scope.names []) C s H fp) elt te) (hsw:swapsWith (.ListComp elt [⟨tg,iter,ifs,0⟩] scope pos) (some (.Name y py)) spos.line X.env = pure true:=by rfl)
  (hs:∀ x,foldedSetIterable iter X.env x = pure x:=by intro _; rfl) :
  PS X (.Assign [.Name y py] (.ListComp elt [⟨tg,iter,ifs,0⟩] scope pos) spos) (tAsg (xS6 wi g tc te Tn.length js) (xQ9 i)):=by
 intro pins s σ H D0 I hq
 have cs:=CompScope.of h
 rw [exec_Assign_Name_used _ _ _ _ hsw]
 refine wpAny_bind (wpAny_standAt (wpAny_bind ?_))
 show wpAny _ X.A (do let _ <- comprehension (.ListComp elt [⟨tg,iter,ifs,0⟩] scope pos) scope X.env _ (newList []) false (eval iter X.env) (some (assign (.Name y py) X.env))) _ _ s
 refine wpAny_bind (wpAny_mono (wpAny_comprehension_free (use:=some (assign (.Name y py) X.env)) (Q:=fun _ s'=>SP X pins D0 .next s') rfl hs (zR8 ?_) cs.kind cs.loc
  (thn (hi pins s σ H _ I hq) fun xv s1 h1=>thn h1 fun itv s2 h2=>?_)) (fun _ s' hq=>wpAny_pure (wpAny_pure hq)) fun _ _ e=>e)
 ·intro x hx e; exact I.ok.has x.1 (.inl (cs.fre x hx e))
 obtain ⟨it,fp,tn,J,H2,rfl,I2,T,st2,f2,hb⟩:=h2
 refine yK8 (Z:=fun D H'=>D0.nx (σ.set i (some (.ref D))) H') (RR:=fun acc C=>compPost (model X.prog X.w) X.A X.xe (some (assign (.Name y py) X.env)) (fun _ s'=>SP X pins D0 .next s') acc C) hc cs hg ht he I2 T st2 f2 hb ?_
 intro D C s' H' m hm I' hn cf z
 show wpAny _ X.A (assign (.Name y py) X.env (.ref D)) _ _ s'
 refine wpAny_assign_Name (yG7 (v:=.ref D) I' hN hiN (.inl hy) rfl (fun s'' I'' sb=>?_) (.inr hy))
 obtain ⟨a,sb,ha⟩:=sb
 have hCa:C ≠ a:=by
  rcases ha with e | e
  ·rw [e]; exact cf.nl
  ·exact fun z=>cf.nc _ _ e z.symm
 exact ⟨m,hm.sameBut sb hCa,fun h' sb'=>⟨_,H',I''.letgo hn cf sb',z⟩⟩
end
theorem zJ2 {K:PySem.W.Frag} {a:Addr} {xs:List V} {g:TG} {tc:TT} {te:TE} {D:Addr} {Z:Hp->Prop} {σ:St} {H:Hp} (Pv:Nat->St->Hp->Prop) (h0:Pv 0 σ H) (hl:∀ i σ H,i <= xs.length->Pv i σ H->SqL K H a xs)
  (hs:∀ i x σ H,xs[i]? = some x->Pv i σ H->g x σ H fun σ2 H2=>tc σ2 H2 fun b H3=>if b = true then te σ2 H3 fun y H4=>∃ ys,H4 D = some (.lst ys) /\ ys.length < sizeLine /\ Pv (i + 1) σ2 (upd H4 D (.lst (ys ++ [y]))) else Pv (i + 1) σ2 H3)
  (hd:∀ σ H,Pv xs.length σ H->Z H):zV6 (Itl K a) g tc te D Z σ H:=by
 refine ⟨fun i m σ H=>m = xs.length - i /\ i <= xs.length /\ Pv i σ H,⟨xs.length,by simp,Nat.zero_le _,h0⟩,?_⟩
 rintro i m σ H ⟨rfl,hi,p⟩
 have q:=hl i σ H hi p
 by_cases hlt:i < xs.length
 ·refine .inr ⟨⟨xs,xs[i],q,by simp [hlt]⟩,Pv (i + 1),fun σ' H' p'=>⟨xs.length - (i + 1),by omega,rfl,hlt,p'⟩,fun x H' y=>?_⟩
  obtain ⟨e,y⟩:=y
  subst e
  exact hs i x σ _ (y xs q) p
 ·have e:i = xs.length:=by omega
  subst e
  exact .inl ⟨⟨xs,q,Nat.le_refl _⟩,hd σ H p⟩
theorem zY3 {lo:Int} {n:Nat} {g:TG} {tc:TT} {te:TE} {D:Addr} {Z:Hp->Prop} {σ:St} {H:Hp} (Pv:Nat->St->Hp->Prop) (h0:Pv 0 σ H)
  (hs:∀ i σ H,i < n->Pv i σ H->g (.int (lo + i)) σ H fun σ2 H2=>tc σ2 H2 fun b H3=>if b = true then te σ2 H3 fun y H4=>∃ ys,H4 D = some (.lst ys) /\ ys.length < sizeLine /\ Pv (i + 1) σ2 (upd H4 D (.lst (ys ++ [y]))) else Pv (i + 1) σ2 H3)
  (hd:∀ σ H,Pv n σ H->Z H):zV6 (Itr lo n) g tc te D Z σ H:=by
 refine ⟨fun i m σ H=>m = n - i /\ i <= n /\ Pv i σ H,⟨n,by simp,Nat.zero_le _,h0⟩,?_⟩
 rintro i m σ H ⟨rfl,hi,p⟩
 by_cases hlt:i < n
 ·refine .inr ⟨hlt,Pv (i + 1),fun σ' H' p'=>⟨n - (i + 1),by omega,rfl,hlt,p'⟩,fun x H' y=>?_⟩
  obtain ⟨e,y⟩:=y
  subst e y
  exact hs i σ _ hlt p
 ·have e:i = n:=by omega
  subst e
  exact .inl ⟨Nat.le_refl _,hd σ H p⟩
end L2
namespace L2
open PySem PySem.Spec PyProof.Rows
mutual
noncomputable def RepD (K:PySem.W.Frag) (H:Hp):PyData->V->Prop
 | .none,v=>v = .non
 | .bool b,v=>v = .bl b
 | .int i,v=>v = .int i
 | .str x,v=>v = .str x /\ (PyData.str x).canLay0 = true
 | .tuple xs,v=>∃ a vs,v = .ref a /\ SqT K H a vs /\ RepDs K H xs vs
 | .list xs,v=>∃ a vs,v = .ref a /\ SqL K H a vs /\ RepDs K H xs vs
 | .dict _,_=>False
noncomputable def RepDs (K:PySem.W.Frag) (H:Hp):List PyData->List V->Prop
 | [],vs=>vs = []
 | d :: ds,vs=>∃ v r,vs = v :: r /\ RepD K H d v /\ RepDs K H ds r
end
section
variable {X:Cx} {pins:List (Addr × Obj)} {σ:St} {H:Hp} {s:Shared}
mutual
theorem RepD.reads (I:Inv X pins σ H s):∀ {d:PyData} {v:V} {u:Value},RepD X.K H d v->RelV v u->∃ as,Reads s.heap u d as
 | .none,v,u,h,r=>by
  have h:v = .non:=by simpa [RepD] using h
  subst h; cases r; exact ⟨_,.none⟩
 | .bool b,v,u,h,r=>by
  have h:v = .bl b:=by simpa [RepD] using h
  subst h; cases r; exact ⟨_,.bool b⟩
 | .int i,v,u,h,r=>by
  have h:v = .int i:=by simpa [RepD] using h
  subst h; obtain ⟨t,rfl⟩:=r; exact ⟨_,.int i t⟩
 | .str x,v,u,h,r=>by
  simp only [RepD] at h
  obtain ⟨rfl,_⟩:=h
  obtain ⟨t,rfl⟩:=r; exact ⟨_,.str x t⟩
 | .tuple xs,v,u,h,r=>by
  have h:∃ a vs,v = .ref a /\ SqT X.K H a vs /\ RepDs X.K H xs vs:=by simpa [RepD] using h
  obtain ⟨a,vs,rfl,q,rs⟩:=h
  cases r
  obtain ⟨its,rv,p,_⟩:=I.tuple q
  obtain ⟨o,e,c,n,d⟩:=(show s.heap.IsTuple a its.toArray from p)
  obtain ⟨as,ra⟩:=RepDs.reads I rs rv
  exact ⟨_,.tuple e c d (by simpa using ra)⟩
 | .list xs,v,u,h,r=>by
  have h:∃ a vs,v = .ref a /\ SqL X.K H a vs /\ RepDs X.K H xs vs:=by simpa [RepD] using h
  obtain ⟨a,vs,rfl,q,rs⟩:=h
  cases r
  obtain ⟨its,rv,p,_⟩:=I.list q
  obtain ⟨o,e,c,n,d⟩:=p.isList
  obtain ⟨as,ra⟩:=RepDs.reads I rs rv
  exact ⟨_,.list e c d (by simpa using ra)⟩
 | .dict _,v,u,h,r=>by
  have h:False:=by simpa [RepD] using h
  exact h.elim
theorem RepDs.reads (I:Inv X pins σ H s):∀ {ds:List PyData} {vs:List V} {us:List Value},RepDs X.K H ds vs->Vals vs us->∃ as,ReadsAll s.heap us ds as
 | [],vs,us,h,r=>by
  have h:vs = []:=by simpa [RepDs] using h
  subst h; cases r; exact ⟨_,.nil⟩
 | d :: ds,vs,us,h,r=>by
  have h:∃ v r,vs = v :: r /\ RepD X.K H d v /\ RepDs X.K H ds r:=by simpa [RepDs] using h
  obtain ⟨v,rs,rfl,h1,h2⟩:=h
  cases r with
  | cons a b =>
   obtain ⟨as,r1⟩:=RepD.reads I h1 a
   obtain ⟨bs,r2⟩:=RepDs.reads I h2 b
   exact ⟨_,.cons r1 r2⟩
end
mutual
theorem RepD.lay {K:PySem.W.Frag}:∀ {d:PyData} {v:V},RepD K H d v->d.canLay0 = true
 | .none,_,_=>rfl
 | .bool _,_,_=>rfl
 | .int _,_,_=>rfl
 | .str x,v,h=>by
  simp only [RepD] at h
  exact h.2
 | .tuple xs,v,h=>by
  have h:∃ a vs,v = .ref a /\ SqT K H a vs /\ RepDs K H xs vs:=by simpa [RepD] using h
  obtain ⟨a,vs,rfl,q,rs⟩:=h
  have:=RepDs.lay rs
  simpa [PyData.canLay0] using this
 | .list xs,v,h=>by
  have h:∃ a vs,v = .ref a /\ SqL K H a vs /\ RepDs K H xs vs:=by simpa [RepD] using h
  obtain ⟨a,vs,rfl,q,rs⟩:=h
  have:=RepDs.lay rs
  simpa [PyData.canLay0] using this
 | .dict _,v,h=>by
  have h:False:=by simpa [RepD] using h
  exact h.elim
theorem RepDs.lay {K:PySem.W.Frag}:∀ {ds:List PyData} {vs:List V},RepDs K H ds vs->PyData.canLayAll0 ds = true
 | [],_,_=>rfl
 | d :: ds,vs,h=>by
  have h:∃ v r,vs = v :: r /\ RepD K H d v /\ RepDs K H ds r:=by simpa [RepDs] using h
  obtain ⟨v,rs,rfl,h1,h2⟩:=h
  have a:=RepD.lay h1
  have b:=RepDs.lay h2
  simp [PyData.canLayAll0,a,b]
end
end
section
variable {X:Cx} {k:Nat}
noncomputable def rEqD (K:PySem.W.Frag):R2:=fun x y H Q=>∃ d d',RepD K H d x /\ RepD K H d' y /\ d.depth <= 64 /\ Q (.bl (PyData.eqv d d')) H
noncomputable def rNeD (K:PySem.W.Frag):R2:=fun x y H Q=>∃ d d',RepD K H d x /\ RepD K H d' y /\ d.depth <= 64 /\ Q (.bl (!PyData.eqv d d')) H
theorem xU8 (hr:Room k X.A):OpR X (compareOp .Eq) (rEqD X.K):=by
 intro pins s σ H x y v u Q I rx ry h
 obtain ⟨d,d',h1,h2,hd,q⟩:=h
 obtain ⟨as,r1⟩:=h1.reads I rx
 obtain ⟨bs,r2⟩:=h2.reads I ry
 exact SeqAt.compareEq_reads r1 r2 h1.lay h2.lay (by have:=hr.units; have:min d.depth d'.depth <= d.depth:=Nat.min_le_left _ _; omega) ⟨.bl _,H,I,rfl,q⟩
theorem xU7 (hr:Room k X.A):OpR X (compareOp .NotEq) (rNeD X.K):=by
 intro pins s σ H x y v u Q I rx ry h
 obtain ⟨d,d',h1,h2,hd,q⟩:=h
 obtain ⟨as,r1⟩:=h1.reads I rx
 obtain ⟨bs,r2⟩:=h2.reads I ry
 exact SeqAt.compareNe_reads r1 r2 h1.lay h2.lay (by have:=hr.units; have:min d.depth d'.depth <= d.depth:=Nat.min_le_left _ _; omega) ⟨.bl _,H,I,rfl,q⟩
end
noncomputable def pq (t b:Int):PyData:=.tuple [.int t,.int b]
theorem yA0 {K:PySem.W.Frag} {H:Hp} {a:Addr} {t b:Int} (h:SqT K H a [.int t,.int b]):RepD K H (pq t b) (.ref a):=by
 simp only [pq,RepD,RepDs]
 exact ⟨a,_,rfl,h,_,_,rfl,rfl,_,_,rfl,rfl,rfl⟩
theorem yT6 (t b t' b':Int):PyData.eqv (pq t b) (pq t' b') = decide (t = t' /\ b = b'):=by
 simp [pq,PyData.eqv,PyData.eqvAll,Bool.beq_eq_decide_eq]
theorem zN8 (t b:Int):(pq t b).depth <= 64:=by
 simp [pq,PyData.depth,PyData.depthAll]
section
variable {P:Program} {w:World} {K:PySem.W.Frag} {mg:Str->Option Value} {base:Heap}
theorem DefAt.okE {x:Str} {st:Stmt} {N ps:List Str} {k:Nat} {sp:Sp} (D:DefAt K mg x st) (S:zB5 N ps (zA5 st)) (len:∀ vs H Q E,sp vs H Q E->vs.length = ps.length)
  (hb:∀ (kV doc pm:Value) (an:Option Addr) (cdv ct:Value) (us:List Value),us.length = ps.length->bindArgs (PySem.W.fnOf x x (zB3 st) (zB0 st) (zA5 st) .none kV doc pm an cdv ct) ⟨us,[]⟩ = pure (ps.zip us))
  (hbody:∀ (f:Addr) (cdv:Value) (A:Around) (outer:List Env) (s:Shared) (H:Hp) (vs:List V) (Q:VK) (E:XK),Room k (A.deeper (envOfC x (zA5 st) s.heap.objs.size f cdv))->sp vs H Q E ->
   ∃ t,PSs (cxOf (CXE P w) P w K mg base N x (zA5 st) f cdv A outer s H E) (zB0 st) t /\ t { nx:=fun _ H'=>Q .non H',rt:=Q } (start N vs) H):FnAt P w K mg base (CXE P w) (k + 1) x ps sp:=by
 obtain ⟨f,fd,F,m⟩:=D.ex
 have hF:=F
 obtain ⟨oc,od,kV,doc,pm,an,cdv,ct,osl,rfl,lk,hcd⟩:=F.ex
 exact ⟨f,_,xW5 lk hcd S len fun A outer s H vs Q E hr hsp=>hbody f cdv A outer s H vs Q E hr hsp,m,hF.kp,hF.binds hb⟩
end
theorem xU5 {X:Cx}:yL7 (CXE X.prog X.w) X E0:=fun _ _ _ _ _ _ _ ⟨_,_,_,_,_,_,_,_,_,_,q⟩=>q.elim
end L2
namespace Tc
open PySem L2
noncomputable abbrev fq (r:Rat):List V:=[.int r.num,.int (r.den:Nat)]
noncomputable def FrV (H:Hp) (v:V) (r:Rat):Prop:=∃ a,v = .ref a /\ H a = some (.tup (fq r))
theorem FrV.same {H H':Hp} {v:V} {r:Rat} (h:FrV H v r) (s:Same H H'):FrV H' v r:=let ⟨a,e,h⟩:=h; ⟨a,e,s _ _ h⟩
theorem FrV.upd {H:Hp} {v:V} {r:Rat} {p:Addr} {o:HO} (h:FrV H v r) (n:H p = none):FrV (upd H p o) v r:=h.same (Same.upd n)
theorem FrV.new {H:Hp} {r:Rat} {p:Addr}:FrV (L2.upd H p (.tup (fq r))) (.ref p) r:=⟨p,rfl,zA1⟩
theorem FrV.newOf {H:Hp} {r:Rat} {p:Addr} {t b:Int} (h1:t = r.num) (h2:b = (r.den:Int)):FrV (L2.upd H p (.tup [.int t,.int b])) (.ref p) r:=by
 subst h1 h2; exact FrV.new
theorem FrV.ty {H:Hp} {v:V} {r:Rat} (h:FrV H v r):tyS H v = some "tuple":=by
 obtain ⟨a,rfl,h⟩:=h
 show tyH (H a) = _
 rw [h]; rfl
theorem FrV.rep {K:PySem.W.Frag} {H:Hp} {v:V} {r:Rat} (h:FrV H v r):RepD K H (pq r.num r.den) v:=by
 obtain ⟨a,rfl,h⟩:=h
 exact yA0 (SqT.of h)
theorem yT2 (r q:Rat):decide (r.num = q.num /\ (r.den:Int) = q.den) = decide (r = q):=by
 rw [decide_eq_decide]
 constructor
 ·rintro ⟨h1,h2⟩; exact xW4 h1 h2
 ·rintro rfl; exact ⟨rfl,rfl⟩
structure Bd (n:Nat) (r:Rat):Prop where
 num:r.num.natAbs < 2 ^ n
 den:r.den < 2 ^ n
theorem zM4 {m n:Nat} (h:m <= n):(2:Nat) ^ m <= 2 ^ n:=Nat.pow_le_pow_right (by decide) h
theorem Bd.mono {m n:Nat} {r:Rat} (b:Bd m r) (h:m <= n):Bd n r:=⟨Nat.lt_of_lt_of_le b.num (zM4 h),Nat.lt_of_lt_of_le b.den (zM4 h)⟩
theorem Bd.neg {n:Nat} {r:Rat} (b:Bd n r):Bd n (-r):=⟨by rw [Rat.neg_num,Int.natAbs_neg]; exact b.num,by rw [Rat.neg_den]; exact b.den⟩
theorem zL0 {a b:Int} {m n:Nat} (ha:a.natAbs < 2 ^ m) (hb:b.natAbs < 2 ^ n):(a * b).natAbs < 2 ^ (m + n):=by
 rw [Int.natAbs_mul,Nat.pow_add]
 exact Nat.mul_lt_mul'' ha hb
theorem xD5 (t b:Int) (hb:b ≠ 0):(Rat.divInt t b).num.natAbs <= t.natAbs:=by
 rw [<- yT7 hb]
 have h:=Int.fdiv_mul_cancel (zO1 t b)
 have h2:((t.fdiv (dv t b)) * dv t b).natAbs = t.natAbs:=by rw [h]
 rw [Int.natAbs_mul] at h2
 have h3:0 < (dv t b).natAbs:=by have:=yJ9 (t:=t) hb; omega
 rw [<- h2]
 exact Nat.le_mul_of_pos_right _ h3
theorem zR7 (t b:Int) (hb:b ≠ 0):(Rat.divInt t b).den <= b.natAbs:=by
 have e:=yT8 (t:=t) hb
 have h:=Int.fdiv_mul_cancel (zM5 t b)
 have h2:((b.fdiv (dv t b)) * dv t b).natAbs = b.natAbs:=by rw [h]
 rw [Int.natAbs_mul,e] at h2
 have h3:0 < (dv t b).natAbs:=by have:=yJ9 (t:=t) hb; omega
 have:(((Rat.divInt t b).den:Int)).natAbs <= b.natAbs:=by rw [<- h2]; exact Nat.le_mul_of_pos_right _ h3
 omega
theorem Bd.divInt {n:Nat} {t b:Int} (hb:b ≠ 0) (h1:t.natAbs < 2 ^ n) (h2:b.natAbs < 2 ^ n):Bd n (Rat.divInt t b):=⟨Nat.lt_of_le_of_lt (xD5 t b hb) h1,Nat.lt_of_le_of_lt (zR7 t b hb) h2⟩
theorem xY0 (r q:Rat):r + q = Rat.divInt (r.num * q.den + q.num * r.den) (r.den * q.den):=by
 have h:=Rat.divInt_add_divInt r.num q.num (d₁:=r.den) (d₂:=q.den) (by have:=zD7 r; omega) (by have:=zD7 q; omega)
 rw [Rat.num_divInt_den,Rat.num_divInt_den] at h
 exact h
theorem Bd.mul {m n:Nat} {r q:Rat} (b1:Bd m r) (b2:Bd n q):Bd (m + n) (r * q):=by
 rw [<- xB8]
 have d1:=zD7 r
 have d2:=zD7 q
 have n1:((r.den:Int)).natAbs < 2 ^ m:=b1.den
 have n2:((q.den:Int)).natAbs < 2 ^ n:=b2.den
 exact Bd.divInt (Int.mul_ne_zero (by omega) (by omega)) (zL0 b1.num b2.num) (zL0 n1 n2)
theorem Bd.divR {n:Nat} {r:Rat} (b:Bd n r) (h:n <= 8999) {i d:Int} (hd:d ≠ 0) (hl:d.natAbs <= r.den):zY8 i d :=
 zT5 hd (Nat.lt_of_le_of_lt hl (Nat.lt_of_lt_of_le b.den (zM4 (by omega))))
theorem zC4 {α β:Type} {F:α->β->Prop}:∀ {xs:List α} {ys:List β} {i:Nat} {x:α},Paired F xs ys->xs[i]? = some x->∃ y,ys[i]? = some y /\ F x y
 | _,_,_,_,.nil,e=>by simp at e
 | _,_,0,_,.cons r _,e=>by simp at e; subst e; exact ⟨_,rfl,r⟩
 | _,_,i + 1,x,.cons _ t,e=>by
  obtain ⟨u,h1,h2⟩:=zC4 (i:=i) (x:=x) t (by simpa using e)
  exact ⟨u,by simpa using h1,h2⟩
noncomputable def yM1:Sp:=fun vs H Q _=>∃ v n,vs = [v] /\ tyS H v = some n /\ Q (.bl (n == "int")) H
noncomputable def spCd:Sp:=fun vs H Q _=>∃ t b:Int,vs = [.int t,.int b] /\ b ≠ 0 /\ Q (.int (dv t b)) H
noncomputable def sp2 (n:Nat) (f:Rat->Rat->Rat):Sp:=fun vs H Q _=>∃ x y r q,vs = [x,y] /\ FrV H x r /\ FrV H y q /\ Bd n r /\ Bd n q /\ ∀ v H',Same H H'->FrV H' v (f r q)->Q v H'
noncomputable abbrev yH1:Sp:=sp2 8000 (· + ·)
noncomputable abbrev yB7:Sp:=sp2 8000 (· - ·)
noncomputable abbrev spTimes:Sp:=fun vs H Q _=>∃ x y a b t1 b1 t2 b2,vs = [x,y] /\ x = .ref a /\ H a = some (.tup [.int t1,.int b1]) /\ y = .ref b /\ H b = some (.tup [.int t2,.int b2]) /\ 0 < b1 /\ b2 ≠ 0 /\ Int.gcd t1 b1 = 1 /\ Int.gcd t2 b2 = 1 /\
 (t1.natAbs < 2 ^ 8000 /\ b1.natAbs < 2 ^ 8000 /\ t2.natAbs < 2 ^ 8000 /\ b2.natAbs < 2 ^ 8000) /\ ∀ v H',Same H H'->FrV H' v (Rat.divInt (t1 * t2) (b1 * b2))->Q v H'
theorem spTimes.of {vs:List V} {H:Hp} {Q:VK} {E:XK} {x y:V} {r q:Rat} (e:vs = [x,y]) (h1:FrV H x r) (h2:FrV H y q) (b1:Bd 8000 r) (b2:Bd 8000 q) (k:∀ v H',Same H H'->FrV H' v (r * q)->Q v H'):spTimes vs H Q E:=by
 obtain ⟨a,rfl,ha⟩:=h1
 obtain ⟨b,rfl,hb⟩:=h2
 have d1:=zD7 r
 have d2:=zD7 q
 exact ⟨_,_,a,b,r.num,r.den,q.num,q.den,e,rfl,ha,rfl,hb,d1,by omega,yC0 r,yC0 q,⟨b1.num,b1.den,b2.num,b2.den⟩,fun v H' s h=>k v H' s (by rw [<- xB8]; exact h)⟩
noncomputable def xL0 (C:Addr):Sp:=fun vs H Q E=>∃ x y r q,vs = [x,y] /\ FrV H x r /\ FrV H y q /\ Bd 8000 r /\ Bd 8000 q /\ (q ≠ 0->∀ v H',Same H H'->FrV H' v (r / q)->Q v H') /\ (q = 0->E (.ref C) none H)
noncomputable def yY0:Sp:=fun vs H Q _=>∃ x y r q,vs = [x,y] /\ FrV H x r /\ FrV H y q /\ Bd 8000 r /\ Bd 8000 q /\ Q (.bl (decide (r < q))) H
noncomputable def sumQ (rs:List Rat):Rat:=rs.foldl (· + ·) 0
theorem yG5 {rs:List Rat} {i:Nat} {r:Rat} (h:rs[i]? = some r):sumQ (rs.take (i + 1)) = sumQ (rs.take i) + r:=by
 unfold sumQ
 rw [List.take_add_one,h,List.foldl_append]; rfl
noncomputable def yM2 (K:PySem.W.Frag):Sp:=fun vs H Q _=>∃ (a:Addr) (xs:List V) (rs:List Rat),vs = [.ref a] /\ SqL K H a xs /\ Paired (FrV H) xs rs /\ (∀ r ∈ rs,Bd 8000 r) /\ (∀ k,k <= rs.length->Bd 8000 (sumQ (rs.take k))) /\ ∀ v H',Same H H'->FrV H' v (sumQ rs)->Q v H'
noncomputable def yY7 (K:PySem.W.Frag):Sp:=fun vs H Q _=>∃ (a:Addr) (ns:List Int) (k:Int),vs = [.ref a,.int k] /\ SqL K H a (ns.map V.int) /\ 0 <= k /\ ∀ c:Int,Q (.int c) H
noncomputable def yB6:Sp:=fun vs H Q _=>∃ c:Int,vs = [.int c] /\ ∀ m:Int,0 <= m->m < 10 ^ 60 + 7->Q (.int m) H
noncomputable def yH3:Sp:=fun vs H Q _=>∃ a b:Int,vs = [.int a,.int b] /\ Q (.int (Int.gcd a b:Nat)) H
noncomputable def zR0:Sp:=fun vs H Q _=>∃ t b:Int,vs = [.int t,.int b] /\ b ≠ 0 /\ b.natAbs < 2 ^ 9000 /\ ∀ v H',Same H H'->FrV H' v (Rat.divInt t b)->Q v H'
noncomputable def yY8:Sp:=fun vs H Q _=>∃ x y r q,vs = [x,y] /\ FrV H x r /\ FrV H y q /\ Q (.bl (decide (r = q))) H
noncomputable def spLaw (K:PySem.W.Frag):Sp:=fun vs H Q _=>∃ (a:Addr) (ns:List Int),vs = [.ref a] /\ SqL K H a (ns.map V.int) /\ ns.length <= 63 /\ ∀ H',Q (.bl true) H'
theorem sz {n:Nat} (h:n <= 1000):n <= sizeLine:=Nat.le_of_lt (zR1 h)
theorem xV2 {ns:List Int} {k:Int} (h0:0 <= k) (h1:k < (ns.map V.int).length):∃ c:Int,atI (ns.map V.int) k = some (V.int c):=by
 obtain ⟨j,rfl⟩:=Int.eq_ofNat_of_zero_le h0
 have hj:j < ns.length:=by rw [List.length_map] at h1; omega
 refine ⟨ns[j],zU0 ?_⟩
 rw [List.getElem?_map,List.getElem?_eq_getElem hj]
 rfl
theorem xH3:(10:Int) ^ (60:Int).toNat = 1000000000000000000000000000000000000000000000000000000000000:=by decide
theorem zE5 {c m:Int} (h:0 < m):0 <= c.fmod m /\ c.fmod m < m:=zV2 h
theorem sub_int (n:String):subS n "int" = (n == "int" || n == "bool"):=by simp [subS]
theorem xG4 (n:String):subS n "bool" = (n == "bool"):=by simp [subS]
theorem zO2 {p:Prop} [Decidable p] {A B:Prop} (hp:p) (h:A):if decide p = true then A else B:=by
 rw [decide_eq_true hp]; exact iteT h
theorem zM1 {p:Prop} [Decidable p] {A B:Prop} (hp:¬ p) (h:B):if decide p = true then A else B:=by
 rw [decide_eq_false hp]; exact iteF h
theorem yV4 {α β:Type} {F:α->β->Prop} {xs:List α} {ys:List β} (h:Paired F xs ys):Paired F xs.reverse ys.reverse:=by
 induction h with
 | nil=>exact .nil
 | cons r t ih=>rw [List.reverse_cons,List.reverse_cons]; exact ih.snoc r
end Tc
namespace L2
open PySem PySem.Spec PyProof.Rows
theorem xX6:bootBuiltins "any" = some (.builtin "any"):=by decide +kernel
theorem zS0:∀ {bs:List Bool} {vs:List Value},Vals (bs.map V.bl) vs->LSm.BoolsAre vs bs
 | [],_,.nil=>.nil
 | b :: bs,_,.cons r t=>by cases r; exact .cons b (zS0 t)
section
variable {X:Cx}
theorem Inv.newsAll {pins:List (Addr × Obj)} {σ:St} {H:Hp} {s:Shared} {h':Heap} {tk:Nat} {m:Str->Option Value} (I:Inv X pins σ H s) (hm:s.heap.Ns X.env.locals m) (F:Fr X.base X.env.locals h' m)
  (N:News X.base X.env.locals h' (yF9 X.base s.heap X.env.locals)):Inv X pins σ H { s with heap:=h',toks:=tk }:=by
 have kk:∀ b o,b ≠ X.env.locals->s.heap.get? b = some o->h'.get? b = some o:=fun b o hb e=>by
  cases q:X.base.get? b with
  | none=>exact (N (b,o) (yN8 hb q e)).1
  | some u =>
   have z:=I.bk b u q
   rw [e] at z; cases z
   exact F.keep b _ q
 have hL:∃ o',h'.get? X.env.locals = some o':=let ⟨o,_,_,e,_⟩:=F.ns; ⟨o,e⟩
 refine I.step (g':=s.gens) (d':=s.drawn) (ch:=[]) (fun _ z=>nomatch z) (fun b o hb _ _ e _=>kk b o hb e) (fun b o hb _ _ e _=>⟨o.slots,kk b o hb e⟩) (fun _ _ _ _ n=>n) (fun b o _ e=>?_)
  (fun _ _ e=>e) (fun _ _ _ e=>e) (fun b ps e=>⟨#[],by rw [e]; simp⟩) (fun m' hm'=>?_) (fun b u e=>?_) I.bare
 ·by_cases hb:b = X.env.locals
  ·rw [hb]; exact hL
  ·exact ⟨o,kk b o hb e⟩
 ·have em:m' = m:=by
   obtain ⟨o1,es1,ep1,g1,d1,_,f1⟩:=hm
   obtain ⟨o2,es2,ep2,g2,d2,_,f2⟩:=hm'
   rw [g1] at g2; cases g2
   rw [d1] at d2; cases d2
   funext z
   exact (f2 z).symm.trans (f1 z)
  rw [em]; exact F.ns
 ·refine (I.hok b u e).stay (fun c v hc q=>kk c v ?_ q) (fun _ q=>q) fun _ _ q=>q
  intro z
  subst z
  rcases hc with z | z
  ·rw [<- z,I.free] at e; cases e
  ·rw [I.free] at z; cases z
theorem xJ9 (hc:X.calm = true):zO3 X (.builtin "any") (fun xs H Q=>∃ (a:Addr) (bs:List Bool),xs = [V.ref a] /\ SqL X.K H a (bs.map V.bl) /\ Q (.bl (bs.any id)) H):=by
 intro pins s σ H xs us Q I r h
 obtain ⟨l,bs,rfl,hq,q⟩:=h
 obtain ⟨u,rfl,ru⟩:=zU3 r
 cases ru
 obtain ⟨vs,rv,p,_⟩:=I.list hq
 obtain ⟨m,hm,_⟩:=id I.loc
 have F0:Fr X.base X.env.locals s.heap m:=⟨hm,I.bk,Nat.le_trans I.ok.bsz I.ok.above⟩
 exact LSm.any_bools F0 xI2 (I.ok.hd hc) p.isList (zS0 rv) fun h' tk F' N'=>⟨.bl _,H,I.newsAll hm F' N',rfl,q⟩
end
section
variable {X:Cx} {K:PySem.W.Frag}
theorem zA7 (h:X.K = K):IxR X (rIxT K):=by subst h; exact xV7
theorem zD4 (h:X.K = K):IxR X (rIxL K):=by subst h; exact xQ5
theorem yQ8 (h:X.K = K):SlR X (rSlL K):=by subst h; exact xO6
theorem zX1 {k:Nat} (h:X.K = K) (hr:Room k X.A):OpR X (compareOp .Eq) (rEqD K):=by subst h; exact xU8 hr
theorem zQ5 {k:Nat} (h:X.K = K) (hr:Room k X.A):OpR X (compareOp .NotEq) (rNeD K):=by subst h; exact xU7 hr
theorem zF0 (h:X.K = K):zO3 X (.builtin "len") (fun xs H Q=>∃ x n,xs = [x] /\ LenV K x H n /\ Q (.int n) H):=by subst h; exact xJ7
theorem zP1 (h:X.K = K):zO3 X (.builtin "isinstance") (fun xs H Q=>∃ x n t b,xs = [x,.ty n] /\ TyOf K H x t /\ PySem.W.kitOne K t (.type n) = some b /\ Q (.bl b) H):=by subst h; exact xJ8
theorem zR9 (h:X.K = K):zO3 X (.type "list") (fun xs H Q=>∃ p ys,xs = [.ref p] /\ (SqL K H p ys \/ SqT K H p ys) /\ ∀ l,H l = none->Q (.ref l) (upd H l (.lst ys))):=by subst h; exact yK4
theorem xF4 (h:X.K = K) (hc:X.calm = true):zO3 X (.builtin "any") (fun xs H Q=>∃ (a:Addr) (bs:List Bool),xs = [V.ref a] /\ SqL K H a (bs.map V.bl) /\ Q (.bl (bs.any id)) H):=by subst h; exact xJ9 hc
theorem zD5 {tg l:Expr} {tl:TE} (h:X.K = K) (hl:PE X l tl):PI X tg l (xW0 K tl):=by subst h; exact xP5 hl
end
theorem Same.updD {H H':Hp} {D:Addr} {o:HO} (s:Same H H') (h:H D = none):Same H (L2.upd H' D o):=fun b u e=>by
 rw [L2.upd_ne (zA8 e h)]; exact s b u e
end L2
namespace L2
open PySem PySem.Spec PyProof.Rows
theorem zM3:∀ {ys:List Str} {vs:List Value},Vals (ys.map V.str) vs->StrsAre vs ys
 | [],_,.nil=>.nil
 | y :: ys,_,.cons r t=>by obtain ⟨tk,rfl⟩:=r; exact .cons y tk (zM3 t)
section
variable {X:Cx} {K:PySem.W.Frag}
theorem xU4 {o e:Expr} {es:List Expr} {to:TE} {t:TA} {name:Str} {apos cpos:Pos} {T id:String} {r:V->List V->Hp->VK->Prop} (h:X.K = K) (pa:PlainAttrs T) (slot:Slot T name id) (hty:typeOf (.builtin id) = pure (.type "method_descriptor"))
  (hm:MtR X id r) (ho:PE X o to) (ha:PA X (e :: es) t) (hbase:attributeBase o name X.env (eval o X.env) = eval o X.env:=by rfl)
  (hfew:((backTo cpos (starEach (e :: es) X.env)).all (fun x=>!x.1) && (backToKw cpos (keywordEach [] X.env)).all (fun x=>x.1.isSome) && decide ((e :: es).length + ([]:List Keyword).length + (if ([]:List Keyword).isEmpty then 0 else 1) < 30)) = true:=by rfl)
  (hline:(apos.endLine == cpos.line) = true:=by rfl) (hs:starEach (e :: es) X.env = (false,eval e X.env) :: starEach es X.env:=by rfl) (hplain:(backTo cpos (starEach es X.env)).any (·.1) = false:=by rfl) :
  PE X (.Call (.Attribute o name apos) (e :: es) [] cpos) (tBM K T r to t):=by subst h; exact yC5 pa slot hty hm ho ha hbase hfew hline hs hplain
theorem yM6 {es:List Expr} {k:Nat} {t:TGs} {n:Nat} {pos:Pos} (h:X.K = K) (hc:X.calm = true) (hp:PGs X es t) (hn:(assignEach es X.env).length = n:=by rfl) (hst:(assignEach es X.env).findIdx? (·.1) = none:=by rfl) :
  PG X (.Tuple es k pos) (gTup K n t):=by subst h; exact zP9 hc hp hn hst
end
end L2
namespace L2
open PySem PySem.Spec PyProof.Rows
section
variable {X:Cx} {K:PySem.W.Frag} {k:Nat}
end
end L2
namespace Tc
open PySem L2
noncomputable abbrev one1 (c:Nat):Str:=⟨#[c]⟩
theorem yG6 {zs:List Str} {k:Int} (h0:0 <= k) (h1:k < zs.length):∃ z,z ∈ zs /\ atI (zs.map V.str) k = some (V.str z):=by
 obtain ⟨j,rfl⟩:=Int.eq_ofNat_of_zero_le h0
 have hj:j < zs.length:=by omega
 refine ⟨zs[j],List.getElem_mem hj,zU0 ?_⟩
 rw [List.getElem?_map,List.getElem?_eq_getElem hj]; rfl
theorem ddv {i d:Int} (h1:0 < d) (h2:d <= 1000000):zY8 i d:=zT5 (by omega) (Nat.lt_of_le_of_lt (m:=1000000) (by omega) (by decide))
end Tc
namespace L2
open PySem PySem.Spec PyProof.Rows
noncomputable def RawD (h:Heap) (d:Addr) (es:Array DictEntry) (ep:Nat):Prop:=∃ o,h.get? d = some o /\ o.ExactDict /\ o.data = .dict es ep
theorem RawD.at {h h':Heap} {d:Addr} {es:Array DictEntry} {ep:Nat} (x:RawD h d es ep) (e:∀ o,h.get? d = some o->h'.get? d = some o):RawD h' d es ep:=let ⟨o,q,r⟩:=x; ⟨o,e o q,r⟩
theorem RawD.ty {s:Shared} {d:Addr} {es:Array DictEntry} {ep:Nat} (x:RawD s.heap d es ep):s.TypeIs (.ref d) "dict":=let ⟨o,q,c,_⟩:=x; ⟨o,q,c.1⟩
section
variable {prog:Program} {w:World} {A:Around} {E:Value->Shared->Prop} {s:Shared} {it d vw:Addr} {i ep:Nat} {es:Array DictEntry} {ok ov:Value}
theorem yZ7 (hd:(d == sysModules) = false):MeetsIn prog w (Builtin.«dict.items» ⟨[.ref d],[]⟩) (fun _ R s=>(∃ es ep,RawD s.heap d es ep) /\ R (.ok (.ret (.ref s.heap.objs.size))) { s with heap:=s.heap.push { cls:=.type "dict_items",data:=.fields #[.ref d] } }) :=
 .of_wp fun A R s ⟨⟨es,ep,hm⟩,h⟩=>by
  unfold Builtin.«dict.items» Builtin.Dict.noArgs
  refine wpAny_bind (wpAny_bind (wpAny_notOrdered_dict hm.ty ?_)); show wpAny _ _ (pure d) _ _ s
  refine wpAny_pure ?_; show wpAny _ _ (Builtin.Dict.showsAll d >>= _) _ _ s
  unfold Builtin.Dict.showsAll
  rw [if_neg (show ¬ ((d == sysModules) = true) by rw [hd]; simp)]
  exact wpAny_bind (wpAny_pure (wpAny_bind (wpAny_newObj_type (wpAny_pure ⟨_,rfl,h⟩))))
theorem xG8 {Q:Value->Shared->Prop} (hv:s.heap.IsItemsView vw d) (hm:RawD s.heap d es ep)
  (q:Q (.ref s.heap.objs.size) { s with heap:=s.heap.push { cls:=.type "dict_itemiterator",data:=.fields #[.none,.bool false,.ref d,.int 0 0,.int es.size 0,.int ep 0,.none,.none] } }):wpAny (model prog w) A (pyIter (.ref vw)) Q E s:=by
 obtain ⟨o1,g1,c1,f1⟩:=id hv
 obtain ⟨o2,g2,c2,f2⟩:=id hm
 refine wpAny_pyIter_slot hv.typeIs F.slot_dict_items_iter (wpAny_call_entry F.slot_dict_items_iter hv.typeIs F.entry_dict_items_iter (?_) (F.args_dict_items_iter_1 (_)))
 unfold Builtin.«dict_items.__iter__» Builtin.Dict_items.dictOf Builtin.Dict_items.newIterator
 refine wpAny_bind (wpAny_pure (wpAny_bind (wpAny_bind (wpAny_field g1 f1 (x:=.ref d) rfl (wpAny_pure (wpAny_bind (wpAny_bind (wpAny_dictEntries g2 f2 (wpAny_bind (wpAny_dictEpoch g2 f2 ?_))))))))))
 have hown:(Builtin.Dict_items.ownsTuple "dict_itemiterator") = true:=by decide
 simp only [hown,if_true]
 refine wpAny_newObj_type (wpAny_pure ⟨_,rfl,"dict_itemiterator",_,⟨_,Heap.get?_push_size (_) rfl,rfl⟩,F.slot_dict_itemiterator_next.lookup,(?_)⟩) (by
  simp only [sizeOk,Builtin.Dict_items.ownedTupleFields,List.size_toArray,List.length_append,List.length_cons,List.length_nil,sizeLine_eq]
  omega)
 simpa [rawInt,Builtin.Dict_items.ownedTupleFields] using q
theorem xG7 {Q:Option Value->Shared->Prop} (hit:IsItemIter s.heap it d i es.size ep ok ov) (hm:RawD s.heap d es ep) (hi:i < es.size)
  (q:∀ h',IsItemIterOut h' it d (i + 1) es.size ep es[i].key es[i].val s.heap.objs.size->h'.get? s.heap.objs.size = some { cls:=.type "tuple",data:=.seq #[es[i].key,es[i].val] } ->
   (∀ b o,b ≠ it->s.heap.get? b = some o->h'.get? b = some o)->Q (some (.ref s.heap.objs.size)) { s with heap:=h' }):wpAny (model prog w) A (pyNext (.ref it)) Q E s:=by
 obtain ⟨h0,g,dr,tk,os⟩:=s
 obtain ⟨o2,g2,c2,f2⟩:=id hm
 have ty:Shared.TypeIs ⟨h0,g,dr,tk,os⟩ (.ref it) "dict_itemiterator":=⟨_,hit,rfl⟩
 have hown:(Builtin.Dict_items.ownsTuple "dict_itemiterator") = true:=by decide
 unfold pyNext
 refine wpAny_bind (wpAny_attempt (wpAny_callSpecial?_slot (name:=Str.ofString "__next__") ty F.slot_dict_itemiterator_next (wpAny_call_entry F.slot_dict_itemiterator_next ty F.entry_dict_itemiterator_next ?_ (F.args_dict_itemiterator_next_1 _))))
 refine wpAny_bind (wpAny_pure (wpAny_bind (wpAny_bind ?_)))
 first | refine wpAny_bind (wpAny_typeNameOfWhole_itemiter ty (wpAny_pure (wpAny_bind (wpAny_fieldsOf hit rfl ?_)))) | refine wpAny_bind (wpAny_typeNameOf_itemiter ty (wpAny_pure (wpAny_bind (wpAny_fieldsOf hit rfl ?_))))
 simp only [hown,if_true]
 show wpAny _ _ (if (Value.ref d == .none) = true then _ else _) _ _ _
 rw [if_neg (show ¬ ((Value.ref d == .none) = true) from Bool.false_ne_true)]
 refine wpAny_bind (wpAny_pure (wpAny_bind (wpAny_dictEntries g2 f2 ?_)))
 rw [if_neg (show ¬ _ by simp)]
 refine wpAny_bind (wpAny_pure (wpAny_bind (wpAny_dictEpoch g2 f2 ?_)))
 rw [if_neg (show ¬ _ by simp)]
 refine wpAny_pure ?_
 simp only [show ¬ ((i:Int) < 0) by omega,if_false,Int.toNat_natCast,Array.getElem?_eq_getElem hi]
 refine wpAny_bind ?_
 first | refine wpAny_bind (wpAny_typeNameOfWhole_itemiter ty (wpAny_pure (wpAny_bind (wpAny_isOneOf_itemiter ty ?_)))) | refine wpAny_bind (wpAny_typeNameOf_itemiter ty (wpAny_pure (wpAny_bind (wpAny_isOneOf_itemiter ty ?_))))
 show wpAny _ _ (setField (.ref it) 3 (rawInt ((i:Int) + 1)) >>= _) _ _ (⟨h0,g,dr,tk,os⟩:Shared)
 refine wpAny_bind (wpAny_setField_rec hit (by simp) fun ha ia sa=>?_)
 have sa:Heap.SameBut it h0 ha:=sa
 have ia:IsItemIter ha it d (i + 1) es.size ep ok ov:=by
  have e:((i + 1:Nat):Int) = (i:Int) + 1:=rfl
  unfold IsItemIter; rw [e]; simpa [rawInt] using ia
 have tya:Shared.TypeIs ⟨ha,g,dr,tk,os⟩ (.ref it) "dict_itemiterator":=⟨_,ia,rfl⟩
 refine wpAny_bind (wpAny_holding (wpAny_bind (wpAny_isOneOf_itemiter tya (wpAny_bind (wpAny_isOneOf_itemiter tya ?_)))))
 show wpAny _ _ (Builtin.Dict_items.pairFromOwner (.ref it) 6 es[i].key es[i].val) _ _ (⟨ha,g,dr,tk,os⟩:Shared)
 unfold Builtin.Dict_items.pairFromOwner
 refine wpAny_bind (wpAny_newTuple ?_)
 have za:ha.objs.size = h0.objs.size:=sa.1
 have lt:it < h0.objs.size:=Heap.lt_size hit
 have ne:h0.objs.size ≠ it:=Nat.ne_of_gt lt
 obtain ⟨hb,ehb⟩:∃ hb,hb = ha.push { cls:=.type "tuple",data:=.seq #[es[i].key,es[i].val] }:=⟨_,rfl⟩
 have ib:IsItemIter hb it d (i + 1) es.size ep ok ov:=by rw [ehb]; exact Heap.get?_push_of_some _ ia
 have tb:hb.get? h0.objs.size = some { cls:=.type "tuple",data:=.seq #[es[i].key,es[i].val] }:=by rw [ehb,<- za]; exact Heap.get?_push_size _ rfl
 have kb:∀ b o,b ≠ it->h0.get? b = some o->hb.get? b = some o:=fun b o n e=>by rw [ehb]; exact Heap.get?_push_of_some _ (sa.extBut b o n e)
 rw [<- ehb]
 show wpAny _ _ (Builtin.Dict_items.ownedTupleIsFree (.ref it) >>= _) _ _ (⟨hb,g,dr,tk,os⟩:Shared)
 rw [za]
 unfold Builtin.Dict_items.ownedTupleIsFree
 refine wpAny_bind (wpAny_bind (wpAny_field ib rfl (x:=.none) rfl (wpAny_pure ?_)))
 simp only [if_true]
 refine wpAny_bind (wpAny_field ib rfl (x:=ok) rfl (wpAny_bind (wpAny_field ib rfl (x:=ov) rfl (wpAny_bind (wpAny_setField_rec ib (by simp) fun hc ic sc=>?_)))))
 have sc:Heap.SameBut it hb hc:=sc
 have ic:IsItemIter hc it d (i + 1) es.size ep es[i].key ov:=ic
 refine wpAny_bind (wpAny_setField_rec ic (by simp) fun hd' id' sd=>?_)
 have sd:Heap.SameBut it hc hd':=sd
 have id':IsItemIter hd' it d (i + 1) es.size ep es[i].key es[i].val:=id'
 refine wpAny_bind (wpAny_setField_rec id' (by simp) fun he ie se=>?_)
 have se:Heap.SameBut it hd' he:=se
 have ie:IsItemIterOut he it d (i + 1) es.size ep es[i].key es[i].val h0.objs.size:=ie
 refine wpAny_bind (wpAny_setField_rec ie (by simp) fun hf jf sf=>?_)
 have sf:Heap.SameBut it he hf:=sf
 have jf:IsItemIterOut hf it d (i + 1) es.size ep es[i].key es[i].val h0.objs.size:=jf
 have up:∀ b o,b ≠ it->hb.get? b = some o->hf.get? b = some o:=fun b o n e=>sf.extBut b o n (se.extBut b o n (sd.extBut b o n (sc.extBut b o n e)))
 exact wpAny_bind (wpAny_letGo (wpAny_pure (wpAny_pure ⟨_,rfl,wpAny_pure (q hf jf (up _ _ ne tb) fun b o n e=>up b o n (kb b o n e))⟩)))
theorem xO7 {Q:Option Value->Shared->Prop} (hh:A.handled = none) (hit:IsItemIter s.heap it d i es.size ep ok ov) (hm:RawD s.heap d es ep) (hi:es.size <= i)
  (q:∀ h',Heap.ExtBut it s.heap h'->Q none { s with heap:=h' }):wpAny (model prog w) A (pyNext (.ref it)) Q E s:=by
 obtain ⟨o2,g2,c2,f2⟩:=id hm
 have ty:s.TypeIs (.ref it) "dict_itemiterator":=⟨_,hit,rfl⟩
 have hown:(Builtin.Dict_items.ownsTuple "dict_itemiterator") = true:=by decide
 unfold pyNext
 refine wpAny_bind (wpAny_attempt (wpAny_callSpecial?_slot (name:=Str.ofString "__next__") ty F.slot_dict_itemiterator_next (wpAny_call_entry F.slot_dict_itemiterator_next ty F.entry_dict_itemiterator_next ?_ (F.args_dict_itemiterator_next_1 _))))
 refine wpAny_bind (wpAny_pure (wpAny_bind (wpAny_bind ?_)))
 first | refine wpAny_bind (wpAny_typeNameOfWhole_itemiter ty (wpAny_pure (wpAny_bind (wpAny_fieldsOf hit rfl ?_)))) | refine wpAny_bind (wpAny_typeNameOf_itemiter ty (wpAny_pure (wpAny_bind (wpAny_fieldsOf hit rfl ?_))))
 simp only [hown,if_true]
 show wpAny _ _ (if (Value.ref d == .none) = true then _ else _) _ _ _
 rw [if_neg (show ¬ ((Value.ref d == .none) = true) from Bool.false_ne_true)]
 refine wpAny_bind (wpAny_pure (wpAny_bind (wpAny_dictEntries g2 f2 ?_)))
 rw [if_neg (show ¬ _ by simp)]
 refine wpAny_bind (wpAny_pure (wpAny_bind (wpAny_dictEpoch g2 f2 ?_)))
 rw [if_neg (show ¬ _ by simp)]
 refine wpAny_pure ?_
 simp only [show ¬ ((i:Int) < 0) by omega,if_false,Int.toNat_natCast,Array.getElem?_eq_none hi]
 refine wpAny_bind ?_
 first | refine wpAny_bind (wpAny_typeNameOfWhole_itemiter ty (wpAny_pure ?_)) | refine wpAny_bind (wpAny_typeNameOf_itemiter ty (wpAny_pure ?_))
 show wpAny _ _ (setField (.ref it) 2 .none >>= _) _ _ (s)
 refine wpAny_bind (wpAny_setField hit rfl (by simp) (show wpAny _ _ (newExc (.type "StopIteration") [] >>= _) _ _ _ from wpAny_bind ?_))
 simp only [newExc,newTuple]
 refine wpAny_bind (wpAny_newObj_type (wpAny_bind (m:=firstArgMember _ _) (wpAny_of_eq (a:=Value.none) (by first | rfl | (simp only [firstArgMember]; rfl)) (wpAny_newObj_type ?_ (by size_fits)))) (by size_fits))
 simp only [raiseNew]
 refine wpAny_bind (wpAny_handled ?_)
 rw [show (Around.in1 A).handled = none from hh]
 refine wpAny_bind (wpAny_pure (wpAny_throw (?_)))
 refine wpAny_bind (wpAny_isInstance (b:=true) (T:="StopIteration") ⟨_,Heap.get?_push_size _ rfl,rfl⟩ isSubtype_stop (?_))
 exact wpAny_pure (q _ (((Heap.SameBut.update ..).extBut.push _).push _))
end
end L2
namespace L2
open PySem PySem.Spec PyProof.Rows
noncomputable def isDk:HO->Bool
 | .dK _=>true
 | .dT _=>true
 | _=>false
section
variable {X:Cx} {pins:List (Addr × Obj)} {σ:St} {H:Hp} {s:Shared} {d:Addr} {u:HO} {o:Obj}
theorem xV1 (hd:H d = some u) (hu:isDk u = true):∀ c v,H c = some v->isDk v = false->c ≠ d:=fun c v e f z=>by
 subst z; rw [hd] at e; cases e; rw [hu] at f; cases f
theorem Inv.freeze (I:Inv X pins σ H s) (hd:H d = some u) (hu:isDk u = true) (ho:s.heap.get? d = some o):Inv X pins σ (upd H d (.frz o u)) s:=by
 have mu:Mut (H d):=by rw [hd]; cases u <;> first | trivial | (simp [isDk] at hu)
 refine I.write (x:=d) (e:=d) (o:=.frz o u) (h':=s.heap) (t':=s.toks) mu (.inl rfl) (fun _ _ _ q=>q) ⟨o,ho⟩ ⟨ho,?_⟩
 exact (I.hok d u hd).stay (fun _ _ _ q=>q) (fun c q=>by rw [upd_ne (xV1 hd hu c _ q rfl)]; exact q) fun c xs q=>by rw [upd_ne (xV1 hd hu c _ q rfl)]; exact q
theorem Inv.unfrozen (I:Inv X pins σ H s) (hd:H d = some u) (hu:isDk u = true) (ob:Obj) (v:HO):X.H₀ d ≠ some (.frz ob v):=fun e=>by
 have z:=I.base.frzs d ob v e
 rw [hd] at z; cases z; cases hu
theorem Inv.thaw (I:Inv X pins σ H s) (hd:H d = some (.frz o u)) (h0:∀ ob v,X.H₀ d ≠ some (.frz ob v)):Inv X pins σ (upd H d u) s:=by
 have ne:∀ c v,H c = some v->(∀ ob w,v ≠ .frz ob w)->c ≠ d:=fun c v e f z=>by
  subst z; rw [hd] at e; cases e; exact f _ _ rfl
 have nn:∀ c,H c = none->c ≠ d:=fun c e z=>by subst z; rw [hd] at e; cases e
 refine ⟨I.ok,I.os,I.bare,⟨I.base.keep,I.base.slot,fun b ob e n hx=>?_,I.base.there,fun b xs e=>?_,fun b ob w e=>?_,fun b ps e=>?_⟩,I.loc,I.cell,?_,fun x c e=>?_,fun p hp=>?_,fun b w e=>?_,I.len⟩
 ·have q:=I.base.free b ob e n hx
  rw [upd_ne (nn b q)]; exact q
 ·have q:=I.base.tups b xs e
  rw [upd_ne (ne b _ q fun _ _ z=>by cases z)]; exact q
 ·have q:=I.base.frzs b ob w e
  rw [upd_ne (fun z=>h0 ob w (by rw [<- z]; exact e))]; exact q
 ·obtain ⟨m,q⟩:=I.base.tbls b ps e
  exact ⟨m,by rw [upd_ne (ne b _ q fun _ _ z=>by cases z)]; exact q⟩
 ·rw [upd_ne (nn _ I.free)]; exact I.free
 ·rw [upd_ne (nn _ (I.freeC x c e))]; exact I.freeC x c e
 ·obtain ⟨e1,e2,e3⟩:=I.pin p hp
  exact ⟨e1,by rw [upd_ne (nn _ e2)]; exact e2,e3⟩
 ·have go:∀ {a:Addr} {v:HO},ObjOk X.prog X.w H s.heap a v->ObjOk X.prog X.w (upd H d u) s.heap a v:=fun q =>
   q.stay (fun _ _ _ q=>q) (fun c q=>by rw [upd_ne (ne c _ q fun _ _ z=>by cases z)]; exact q) fun c xs q=>by rw [upd_ne (ne c _ q fun _ _ z=>by cases z)]; exact q
  by_cases z:b = d
  ·subst z; rw [zA1] at e; cases e
   exact go (I.hok b _ hd).2
  ·rw [upd_ne z] at e
   exact go (I.hok b w e)
noncomputable def xY2 (d:Addr) (D:Ends):Ends where
 nx:=fun σ H=>∃ o u,H d = some (.frz o u) /\ D.nx σ (upd H d u)
 rt:=fun v H=>∃ o u,H d = some (.frz o u) /\ D.rt v (upd H d u)
 bk:=fun σ H=>∃ o u,H d = some (.frz o u) /\ D.bk σ (upd H d u)
 ct:=fun σ H=>∃ o u,H d = some (.frz o u) /\ D.ct σ (upd H d u)
noncomputable def xY4 (t:TS):TS:=fun D σ H=>∃ d u,H d = some u /\ isDk u = true /\ t (xY2 d D) σ H
theorem zO8 {st:Stmt} {t:TS} (h:PS X st t):PS X st (xY4 t):=by
 intro pins s σ H D I hq
 obtain ⟨d,u,hd,hu,ht⟩:=hq
 have h0:=I.unfrozen hd hu
 refine thn (h pins s σ H _ I ht) fun f s1 q=>?_
 cases f with
 | next=>obtain ⟨σ',H',I',o,v,e,q⟩:=q; exact ⟨σ',_,I'.thaw e h0,q⟩
 | brk=>obtain ⟨σ',H',I',o,v,e,q⟩:=q; exact ⟨σ',_,I'.thaw e h0,q⟩
 | cont=>obtain ⟨σ',H',I',o,v,e,q⟩:=q; exact ⟨σ',_,I'.thaw e h0,q⟩
 | ret w=>obtain ⟨x,σ',H',I',r,o,v,e,q⟩:=q; exact ⟨x,σ',_,I'.thaw e h0,r,q⟩
noncomputable def xS1 (t:TE):TE:=fun σ H Q=>∃ d u,H d = some u /\ isDk u = true /\ t σ H fun v H1=>∃ o w,H1 d = some (.frz o w) /\ Q v (upd H1 d w)
theorem yC3 {e:Expr} {t:TE} (h:PE X e t):PE X e (xS1 t):=by
 intro pins s σ H Q I hq
 obtain ⟨d,u,hd,hu,ht⟩:=hq
 have h0:=I.unfrozen hd hu
 refine thn (h pins s σ H _ I ht) fun v s1 q=>?_
 obtain ⟨x,H',I',r,o,w,e,q⟩:=q
 exact ⟨x,_,I'.thaw e h0,r,q⟩
noncomputable abbrev yW7 (ps:List (V × V)) (es:List DictEntry):Prop:=Paired (fun p e=>RelV p.1 e.key /\ RelV p.2 e.val) ps es
noncomputable def Pss (H:Hp):HO->List (V × V)->Prop
 | .dK kvs,ps=>ps = kvs.map fun kv=>(kV kv.1,kv.2)
 | .dT kvs,ps=>Paired (fun kv p=>∃ b,p = (V.ref b,kv.2) /\ H b = some (.tup (kv.1.map kV))) kvs ps
 | _,_=>False
theorem zW5 {P:Program} {w:World}:∀ {kvs:List (Key × V)} {vs:List (Key × Value)} {es:List DictEntry},KV kvs vs->Pairs (zD9 P w) es vs->yW7 (kvs.map fun kv=>(kV kv.1,kv.2)) es
 | [],[],_,_,p=>by cases p; exact .nil
 | [],_ :: _,_,r,_=>nomatch r
 | _ :: _,[],_,r,_=>nomatch r
 | kv :: kvs,v :: vs,es,.cons h r,p=>by
  cases p with
  | cons a b c =>
   refine .cons ⟨?_,?_⟩ (zW5 r c)
   ·have a:=a
    rw [<- h.1] at a
    rcases zF2 a with ⟨i,t,e1,e2⟩ | ⟨x,t,e1,e2⟩
    ·show RelV (kV kv.1) _; rw [e1,e2]; exact ⟨t,rfl⟩
    ·show RelV (kV kv.1) _; rw [e1,e2]; exact ⟨t,rfl⟩
   ·rw [b]; exact h.2
theorem yA1 {P:Program} {w:World} {H:Hp}:∀ {kvs:List (List Key × V)} {xs:List (List Key × Addr × Value)},KT H kvs xs->∃ ps,Paired (fun kv p=>∃ b,p = (V.ref b,kv.2) /\ H b = some (.tup (kv.1.map kV))) kvs ps /\ yW7 ps (xs.map (entryOfKey (tupleKind (zD9 P w))))
 | _,_,.nil=>⟨[],.nil,.nil⟩
 | kv :: _,x :: _,.cons h r=>by
  obtain ⟨ps,h1,h2⟩:=yA1 (P:=P) (w:=w) r
  exact ⟨(.ref x.2.1,kv.2) :: ps,.cons ⟨x.2.1,rfl,h.2.1⟩ h1,.cons ⟨rfl,h.2.2⟩ h2⟩
theorem Inv.raw (I:Inv X pins σ H s) (hd:H d = some u) (hu:isDk u = true):∃ o es ep ps,s.heap.get? d = some o /\ o.ExactDict /\ o.data = .dict es ep /\ (d == sysModules) = false /\ Pss H u ps /\ yW7 ps es.toList:=by
 have ok:=I.hok d u hd
 cases u with
 | dK kvs =>
  obtain ⟨_,hs,vs,kv,o,es,ep,g,ex,dat,_,pr,_⟩:=ok
  exact ⟨o,es,ep,_,g,ex,dat,hs,rfl,zW5 kv pr⟩
 | dT kvs =>
  obtain ⟨_,hs,xs,kt,o,es,ep,g,ex,dat,he,_⟩:=ok
  obtain ⟨ps,h1,h2⟩:=yA1 (P:=X.prog) (w:=X.w) kt
  exact ⟨o,es,ep,ps,g,ex,dat,hs,h1,by rw [he]; exact h2⟩
 | _=>cases hu
noncomputable def ItD (d:Addr) (o:Obj) (u:HO) (ps:List (V × V)):It :=
 ⟨fun i H=>i < ps.length /\ H d = some (.frz o u),fun i H x H'=>∃ k v T,ps[i]? = some (k,v) /\ x = .ref T /\ H T = none /\ H' = upd H T (.tup [k,v]),fun i H=>i = ps.length /\ H d = some (.frz o u)⟩
theorem yC6 {α β:Type} {F:α->β->Prop}:∀ {xs:List α} {ys:List β} {i:Nat} {x:α},Paired F xs ys->xs[i]? = some x->∃ y,ys[i]? = some y /\ F x y
 | _,_,_,_,.nil,e=>by simp at e
 | _,_,0,_,.cons r _,e=>by simp at e; subst e; exact ⟨_,rfl,r⟩
 | _,_,i + 1,x,.cons _ t,e=>by
  obtain ⟨u,h1,h2⟩:=yC6 (i:=i) (x:=x) t (by simpa using e)
  exact ⟨u,by simpa using h1,h2⟩
theorem yV0 {P:Program} {w:World} {K:PySem.W.Frag} {elts:List Expr} {kk:Nat} {pos:Pos} {d it:Addr} {o:Obj} {u:HO} {ps:List (V × V)} {es:Array DictEntry} {ep:Nat} (hx:o.ExactDict) (dat:o.data = .dict es ep) (rel:yW7 ps es.toList) :
  Turn P w K (.Tuple elts kk pos) (ItD d o u ps) [it] it (fun i h=>∃ ok ov,IsItemIter h it d i es.size ep ok ov) where
 mem:=by simp
 obj:=fun i h st b hb=>by
  have e:b = it:=by simpa using hb
  subst e
  obtain ⟨ok,ov,st⟩:=st
  exact ⟨_,st,fun v z=>by cases z⟩
 keep:=fun i h h' st k=>let ⟨ok,ov,st⟩:=st; ⟨ok,ov,k it (by simp) _ st⟩
 item:=by
  intro X hP hw hK hc i pins s σ H E I hf st hg
  subst hP hw hK
  obtain ⟨f0,f1,_,f3,f4,f5⟩:=hf it (by simp)
  obtain ⟨ok,ov,st⟩:=st
  obtain ⟨hi,hd⟩:=hg
  have hlen:ps.length = es.size:=by rw [rel.length]; simp
  have hi':i < es.size:=by omega
  refine xG7 st ⟨o,(I.hok d _ hd).1,hx,dat⟩ hi' fun h' jo ht kk=>?_
  refine ⟨_,rfl,wpAny_letOwnedTupleGo_items jo fun h2 he2 sb=>?_⟩
  obtain ⟨p,hp⟩:∃ p,ps[i]? = some p:=⟨ps[i],by simp [hi]⟩
  obtain ⟨e',he',rk,rv⟩:=yC6 rel hp
  have ee:e' = es[i]:=by
   have:es.toList[i]? = some es[i]:=by simp [hi']
   rw [this] at he'; exact (Option.some.inj he').symm
  subst ee
  have nT:s.heap.objs.size ≠ it:=Nat.ne_of_gt (Heap.lt_size st)
  have I1:Inv X pins σ H { s with heap:=h2,toks:=s.toks }:=I.turned (fun b ob hb e=>sb.extBut b ob hb (kk b ob hb e)) f0 f1 f3 f4 f5
  have hT2:h2.get? s.heap.objs.size = some { cls:=.type "tuple",data:=.seq #[es[i].key,es[i].val] }:=sb.extBut _ _ nT ht
  obtain ⟨g0,g1,_,_,g4,g5⟩:=I.fpOk (Nat.le_refl _) I.fresh
  have I2:=I1.track (a:=s.heap.objs.size) (o:=.tup [p.1,p.2]) g0 (by
   cases q:X.s₀.heap.get? s.heap.objs.size with
   | none=>rfl
   | some ob=>exact absurd (Nat.lt_of_lt_of_le (Heap.lt_size q) I.sz) (Nat.lt_irrefl _)) g1 g4 g5 ⟨zR1 (by simp) |> Nat.le_of_lt,[es[i].key,es[i].val],.cons rk (.cons rv .nil),⟨_,hT2,rfl,_,rfl⟩⟩
  refine ⟨.ref _,_,I2,rfl,⟨p.1,p.2,_,hp,rfl,g0,rfl⟩,⟨_,_,he2⟩,fun b hb=>?_⟩
  have e:b = it:=by simpa using hb
  subst e
  rw [upd_ne (Ne.symm nT)]; exact f0
 done:=by
  intro X hP hw hK hc i pins s σ H E I hf st hg
  subst hP hw hK
  obtain ⟨f0,f1,_,f3,f4,f5⟩:=hf it (by simp)
  obtain ⟨ok,ov,st⟩:=st
  obtain ⟨hi,hd⟩:=hg
  have hlen:ps.length = es.size:=by rw [rel.length]; simp
  exact xO7 (I.ok.hd hc) st ⟨o,(I.hok d _ hd).1,hx,dat⟩ (by rw [hi,hlen]; exact Nat.le_refl _) fun h' eb=>⟨rfl,I.turned (t':=s.toks) (fun b ob hb e=>eb b ob hb e) f0 f1 f3 f4 f5⟩
 self:=fun A i s Q E st h=>let ⟨_,_,st⟩:=st; PySem.W.kcp_self st h
noncomputable def zQ6 (v d:Addr):HO:=.ext fun h=>h.IsItemsView v d
noncomputable def xT5:V->List V->Hp->VK->Prop:=fun x vs H Q=>∃ d u,x = .ref d /\ vs = [] /\ H d = some u /\ isDk u = true /\ ∀ p,H p = none->Q (.ref p) (upd H p (zQ6 p d))
theorem zO0:MtR X "dict.items" xT5:=by
 intro pins s σ H x xs v us Q I rx rv h
 obtain ⟨d,u,rfl,rfl,hd,hu,q⟩:=h
 cases rx
 cases rv
 obtain ⟨o,es,ep,ps,g,ex,dat,hs,_,_⟩:=I.raw hd hu
 have rw0:RawD s.heap d es ep:=⟨o,g,ex,dat⟩
 refine call_meetsIn PySem.F.slot_dict_items rw0.ty PySem.F.entry_dict_items (PySem.F.args_dict_items_1 (_)) (yZ7 hs) ⟨⟨es,ep,rw0⟩,?_⟩
 refine ⟨.ref _,_,I.laid (t':=s.toks) (o:=zQ6 s.heap.objs.size d) (fun b ob e=>Heap.get?_push_of_some _ e) (Nat.le_refl _) ?_,rfl,q _ I.fresh⟩
 exact ⟨⟨_,Heap.get?_push_size _ rfl,rfl,rfl⟩,⟨_,Heap.get?_push_size _ rfl⟩,fun h1 h2 ⟨ob,e,c⟩ k=>⟨ob,k ob e,c⟩⟩
noncomputable def xW1 (tl:TE):TI:=fun σ H R=>tl σ H fun x H1=>∃ v d u,x = .ref v /\ H1 v = some (zQ6 v d) /\ H1 d = some u /\ isDk u = true /\ ∀ o ps,Pss H1 u ps->R (ItD d o u ps) (upd H1 d (.frz o u))
theorem zN9 {elts:List Expr} {kk:Nat} {pos:Pos} {l:Expr} {tl:TE} (hl:PE X l tl):PI X (.Tuple elts kk pos) l (xW1 tl):=by
 intro pins s σ H R I h
 refine thn (hl pins s σ H _ I h) fun v s1 ⟨x,H1,I1,r1,q1⟩=>?_
 obtain ⟨vw,d,u,rfl,hv,hd,hu,q⟩:=q1
 cases r1
 obtain ⟨o,es,ep,ps,g,ex,dat,hs,hps,rel⟩:=I1.raw hd hu
 have hv':s1.heap.IsItemsView vw d:=(I1.hok vw _ hv).1
 refine xG8 hv' ⟨o,g,ex,dat⟩ ?_
 have I2:Inv X pins σ H1 _:=I1.kept (t':=s1.toks) (h':=s1.heap.push { cls:=.type "dict_itemiterator",data:=.fields #[.none,.bool false,.ref d,.int 0 0,.int es.size 0,.int ep 0,.none,.none] }) fun b ob e=>Heap.get?_push_of_some _ e
 refine ⟨s1.heap.objs.size,[s1.heap.objs.size],_,_,_,rfl,I2.freeze hd hu (Heap.get?_push_of_some _ g),yV0 ex dat rel,⟨_,_,Heap.get?_push_size _ rfl⟩,fun b hb=>?_,q o ps hps⟩
 have e:b = s1.heap.objs.size:=by simpa using hb
 subst e
 exact I1.fpOk (Nat.le_refl _) (by rw [upd_ne (zA8 hd I1.fresh).symm]; exact I1.fresh)
end
end L2
namespace L2
open PySem PySem.Spec PyProof.Rows
section
variable {prog:Program} {w:World} {A:Around} {E:Value->Shared->Prop} {s:Shared} {it d vw:Addr} {i ep:Nat} {es:Array DictEntry}
theorem yV1 (hd:(d == sysModules) = false):MeetsIn prog w (Builtin.«dict.values» ⟨[.ref d],[]⟩) (fun _ R s=>(∃ es ep,RawD s.heap d es ep) /\ R (.ok (.ret (.ref s.heap.objs.size))) { s with heap:=s.heap.push { cls:=.type "dict_values",data:=.fields #[.ref d] } }) :=
 .of_wp fun A R s ⟨⟨es,ep,hm⟩,h⟩=>by
  refine wpAny_bind (?_); unfold Builtin.Dict.noArgs
  refine wpAny_bind (wpAny_notOrdered_dict hm.ty ?_); show wpAny _ _ (pure d) _ _ s
  refine wpAny_pure ?_; show wpAny _ _ (Builtin.Dict.showsAll d >>= _) _ _ s
  unfold Builtin.Dict.showsAll
  rw [if_neg (show ¬ ((d == sysModules) = true) by rw [hd]; simp)]
  exact wpAny_bind (wpAny_pure (wpAny_bind (wpAny_newObj_type (wpAny_pure ⟨_,rfl,h⟩))))
theorem yH8 {Q:Value->Shared->Prop} (hv:s.heap.IsValuesView vw d) (hm:RawD s.heap d es ep)
  (q:Q (.ref s.heap.objs.size) { s with heap:=s.heap.push { cls:=.type "dict_valueiterator",data:=.fields #[.ref d,.int 0 0,.int es.size 0,.int ep 0] } }):wpAny (model prog w) A (pyIter (.ref vw)) Q E s:=by
 obtain ⟨o1,g1,c1,f1⟩:=id hv
 obtain ⟨o2,g2,c2,f2⟩:=id hm
 refine wpAny_pyIter_slot hv.typeIs F.slot_dict_values_iter (wpAny_call_entry F.slot_dict_values_iter hv.typeIs F.entry_dict_values_iter (?_) (F.args_dict_values_iter_1 (_)))
 unfold Builtin.«dict_values.__iter__» Builtin.Dict_items.dictOf Builtin.Dict_items.newIterator
 refine wpAny_bind (wpAny_pure (wpAny_bind (wpAny_bind (wpAny_field g1 f1 (x:=.ref d) rfl (wpAny_pure (wpAny_bind (wpAny_bind (wpAny_dictEntries g2 f2 (wpAny_bind (wpAny_dictEpoch g2 f2 ?_))))))))))
 have hown:(Builtin.Dict_items.ownsTuple "dict_valueiterator") = false:=by decide
 simp only [hown,Bool.false_eq_true,if_false]
 refine wpAny_newObj_type (wpAny_pure ⟨_,rfl,"dict_valueiterator",_,⟨_,Heap.get?_push_size (_) rfl,rfl⟩,F.slot_dict_valueiterator_next.lookup,(?_)⟩)
 simpa [rawInt] using q
theorem yH7 {Q:Option Value->Shared->Prop} (hit:s.heap.IsValIter it d i es.size ep) (hm:RawD s.heap d es ep) (hi:i < es.size)
  (q:∀ h',h'.IsValIter it d (i + 1) es.size ep->Heap.SameBut it s.heap h'->Q (some es[i].val) { s with heap:=h' }):wpAny (model prog w) A (pyNext (.ref it)) Q E s:=by
 obtain ⟨o,ho,hc,hd⟩:=id hit
 obtain ⟨o2,g2,c2,f2⟩:=id hm
 have hown:(Builtin.Dict_items.ownsTuple "dict_valueiterator") = false:=by decide
 unfold pyNext
 refine wpAny_bind (wpAny_attempt (wpAny_callSpecial?_slot (name:=Str.ofString "__next__") hit.typeIs F.slot_dict_valueiterator_next (wpAny_call_entry F.slot_dict_valueiterator_next hit.typeIs F.entry_dict_valueiterator_next ?_ (F.args_dict_valueiterator_next_1 _))))
 refine wpAny_bind (wpAny_pure (wpAny_bind (wpAny_bind ?_)))
 first | refine wpAny_bind (wpAny_typeNameOfWhole_valiter hit.typeIs (wpAny_pure (wpAny_bind (wpAny_fieldsOf ho hd ?_)))) | refine wpAny_bind (wpAny_typeNameOf_valiter hit.typeIs (wpAny_pure (wpAny_bind (wpAny_fieldsOf ho hd ?_))))
 simp only [hown,Bool.false_eq_true,if_false]
 show wpAny _ _ (if (Value.ref d == .none) = true then _ else _) _ _ _
 rw [if_neg (show ¬ ((Value.ref d == .none) = true) from Bool.false_ne_true)]
 refine wpAny_bind (wpAny_pure (wpAny_bind (wpAny_dictEntries g2 f2 ?_)))
 rw [if_neg (show ¬ _ by simp)]
 refine wpAny_bind (wpAny_pure (wpAny_bind (wpAny_dictEpoch g2 f2 ?_)))
 rw [if_neg (show ¬ _ by simp)]
 refine wpAny_pure ?_
 simp only [show ¬ ((i:Int) < 0) by omega,if_false,Int.toNat_natCast,Array.getElem?_eq_getElem hi]
 refine wpAny_bind ?_
 first | refine wpAny_bind (wpAny_typeNameOfWhole_valiter hit.typeIs (wpAny_pure (wpAny_bind (wpAny_isOneOf_valiter hit.typeIs ?_)))) | refine wpAny_bind (wpAny_typeNameOf_valiter hit.typeIs (wpAny_pure (wpAny_bind (wpAny_isOneOf_valiter hit.typeIs ?_))))
 show wpAny _ _ (setField (.ref it) 1 (rawInt ((i:Int) + 1)) >>= _) _ _ (s)
 have st:(s.heap.update it (Obj.mapFields (·.setIfInBounds 1 (rawInt ((i:Int) + 1))))).IsValIter it d (i + 1) es.size ep:=⟨_,Heap.get?_update_self _ ho (Obj.isFreed_of_fields (Obj.data_mapFields hd _)),(Obj.cls_mapFields ..).trans hc,by rw [Obj.data_mapFields hd]; simp [rawInt]⟩
 refine wpAny_bind (wpAny_setField ho hd (by simp) (wpAny_bind (wpAny_holding (wpAny_bind (wpAny_isOneOf_valiter (s:={ s with heap:=s.heap.update it (Obj.mapFields (·.setIfInBounds 1 (rawInt ((i:Int) + 1)))) }) st.typeIs (wpAny_bind (wpAny_isOneOf_valiter (s:={ s with heap:=s.heap.update it (Obj.mapFields (·.setIfInBounds 1 (rawInt ((i:Int) + 1)))) }) st.typeIs ?_)))))))
 show wpAny _ _ (pure es[i].val) _ _ (_)
 exact wpAny_pure (wpAny_pure ⟨_,rfl,wpAny_pure (q _ st (Heap.SameBut.update ..))⟩)
theorem yR1 {Q:Option Value->Shared->Prop} (hh:A.handled = none) (hit:s.heap.IsValIter it d i es.size ep) (hm:RawD s.heap d es ep) (hi:es.size <= i)
  (q:∀ h',Heap.ExtBut it s.heap h'->Q none { s with heap:=h' }):wpAny (model prog w) A (pyNext (.ref it)) Q E s:=by
 obtain ⟨o,ho,hc,hd⟩:=id hit
 obtain ⟨o2,g2,c2,f2⟩:=id hm
 have hown:(Builtin.Dict_items.ownsTuple "dict_valueiterator") = false:=by decide
 unfold pyNext
 refine wpAny_bind (wpAny_attempt (wpAny_callSpecial?_slot (name:=Str.ofString "__next__") hit.typeIs F.slot_dict_valueiterator_next (wpAny_call_entry F.slot_dict_valueiterator_next hit.typeIs F.entry_dict_valueiterator_next ?_ (F.args_dict_valueiterator_next_1 _))))
 refine wpAny_bind (wpAny_pure (wpAny_bind (wpAny_bind ?_)))
 first | refine wpAny_bind (wpAny_typeNameOfWhole_valiter hit.typeIs (wpAny_pure (wpAny_bind (wpAny_fieldsOf ho hd ?_)))) | refine wpAny_bind (wpAny_typeNameOf_valiter hit.typeIs (wpAny_pure (wpAny_bind (wpAny_fieldsOf ho hd ?_))))
 simp only [hown,Bool.false_eq_true,if_false]
 show wpAny _ _ (if (Value.ref d == .none) = true then _ else _) _ _ _
 rw [if_neg (show ¬ ((Value.ref d == .none) = true) from Bool.false_ne_true)]
 refine wpAny_bind (wpAny_pure (wpAny_bind (wpAny_dictEntries g2 f2 ?_)))
 rw [if_neg (show ¬ _ by simp)]
 refine wpAny_bind (wpAny_pure (wpAny_bind (wpAny_dictEpoch g2 f2 ?_)))
 rw [if_neg (show ¬ _ by simp)]
 refine wpAny_pure ?_
 simp only [show ¬ ((i:Int) < 0) by omega,if_false,Int.toNat_natCast,Array.getElem?_eq_none hi]
 refine wpAny_bind ?_
 first | refine wpAny_bind (wpAny_typeNameOfWhole_valiter hit.typeIs (wpAny_pure (?_))) | refine wpAny_bind (wpAny_typeNameOf_valiter hit.typeIs (wpAny_pure (?_)))
 show wpAny _ _ (setField (.ref it) 0 .none >>= _) _ _ (s)
 refine wpAny_bind (wpAny_setField ho hd (by simp) (show wpAny _ _ (newExc (.type "StopIteration") [] >>= _) _ _ _ from wpAny_bind ?_))
 simp only [newExc,newTuple]
 refine wpAny_bind (wpAny_newObj_type (wpAny_bind (m:=firstArgMember _ _) (wpAny_of_eq (a:=Value.none) (by first | rfl | (simp only [firstArgMember]; rfl)) (wpAny_newObj_type ?_ (by size_fits)))) (by size_fits))
 simp only [raiseNew]
 refine wpAny_bind (wpAny_handled ?_)
 rw [show (Around.in1 A).handled = none from hh]
 refine wpAny_bind (wpAny_pure (wpAny_throw (?_)))
 refine wpAny_bind (wpAny_isInstance (b:=true) (T:="StopIteration") ⟨_,Heap.get?_push_size _ rfl,rfl⟩ isSubtype_stop (?_))
 exact wpAny_pure (q _ (((Heap.SameBut.update ..).extBut.push _).push _))
theorem yU7 (hh:A.handled = none) (I d:Addr) (hne:d ≠ I) (es:Array DictEntry) (ep:Nat):Walks prog w A I [I,d] [I] es.size (fun i v=>∃ e,es[i]? = some e /\ v = e.val) (fun i h=>h.IsValIter I d i es.size ep /\ RawD h d es ep) where
 sub:=fun b hb=>by simp at hb; simp [hb]
 frame:=fun _ _ _ st k=>⟨st.1.at fun o e=>k I (by simp) o e,st.2.at fun o e=>k d (by simp) o e⟩
 item:=fun i s Q E hi st q=>yH7 st.1 st.2 hi fun h' st' sb=>q _ h' s.toks ⟨es[i],by simp [hi],rfl⟩ ⟨st',st.2.at fun o e=>sb.extBut d o hne e⟩ fun b o hb e=>sb.extBut b o (fun z=>hb (by simp [z])) e
 done:=fun s Q E st q=>yR1 hh st.1 st.2 (Nat.le_refl _) fun h' eb=>q h' s.toks fun b o hb e=>eb b o (fun z=>hb (by simp [z])) e
 self:=fun _ _ _ _ st q=>wpAny_pyIter_valiter st.1 q
theorem xG5:PySem.W.KdlSrc prog w "dict_values" vw d es.size (fun i v=>∃ e,es[i]? = some e /\ v = e.val) (fun h=>h.IsValuesView vw d /\ RawD h d es ep) where
 type:=fun _ hm=>hm.1.typeIs
 there:=fun _ hm=>⟨let ⟨_,ho,_⟩:=hm.1; Heap.lt_size ho,let ⟨_,ho,_⟩:=hm.2; Heap.lt_size ho⟩
 keep:=fun _ _ hm k=>⟨let ⟨o,ho,x⟩:=hm.1; ⟨o,k vw (.inl rfl) o ho,x⟩,hm.2.at fun o e=>k d (.inr rfl) o e⟩
 notList:=by decide
 notTuple:=by decide
 hint:=fun _ _ _ _ hm q=>PySem.W.kdl_hint_values hm.1.typeIs q
 iter:=fun _ _ hh hm=>⟨_,_,(fun _ _ q=>yH8 hm.1 hm.2 q),yU7 hh _ d (Nat.ne_of_lt (let ⟨_,ho,_⟩:=hm.2; Heap.lt_size ho)) es ep,⟨⟨_,Heap.get?_push_size _ rfl,rfl,rfl⟩,hm.2.at fun o e=>Heap.get?_push_of_some _ e⟩⟩
end
section
variable {X:Cx} {K:PySem.W.Frag}
noncomputable def yM0 (v d:Addr):HO:=.ext fun h=>h.IsValuesView v d
noncomputable def xZ5:V->List V->Hp->VK->Prop:=fun x vs H Q=>∃ d u,x = .ref d /\ vs = [] /\ H d = some u /\ isDk u = true /\ ∀ p,H p = none->Q (.ref p) (upd H p (yM0 p d))
theorem yN6:MtR X "dict.values" xZ5:=by
 intro pins s σ H x xs v us Q I rx rv h
 obtain ⟨d,u,rfl,rfl,hd,hu,q⟩:=h
 cases rx
 cases rv
 obtain ⟨o,es,ep,ps,g,ex,dat,hs,_,_⟩:=I.raw hd hu
 have rw0:RawD s.heap d es ep:=⟨o,g,ex,dat⟩
 refine call_meetsIn PySem.F.slot_dict_values rw0.ty PySem.F.entry_dict_values (PySem.F.args_dict_values_1 (_)) (yV1 hs) ⟨⟨es,ep,rw0⟩,?_⟩
 refine ⟨.ref _,_,I.laid (t':=s.toks) (o:=yM0 s.heap.objs.size d) (fun b ob e=>Heap.get?_push_of_some _ e) (Nat.le_refl _) ?_,rfl,q _ I.fresh⟩
 exact ⟨⟨_,Heap.get?_push_size _ rfl,rfl,rfl⟩,⟨_,Heap.get?_push_size _ rfl⟩,fun h1 h2 ⟨ob,e,c⟩ k=>⟨ob,k ob e,c⟩⟩
theorem xN2 {H:Hp} {u:HO} {ps:List (V × V)} (h:Pss H u ps):isDk u = true->∀ {X:Cx} {pins:List (Addr × Obj)} {σ:St} {s:Shared} {d:Addr},Inv X pins σ H s->H d = some u->ps.length <= sizeLine:=by
 intro hu X pins σ s d I hd
 have ok:=I.hok d u hd
 cases u with
 | dK kvs=>obtain ⟨z,_⟩:=ok; have h:ps = _:=h; rw [h,List.length_map]; exact z
 | dT kvs=>obtain ⟨z,_⟩:=ok; have h:Paired _ kvs ps:=h; rw [<- h.length]; exact z
 | _=>cases hu
theorem zQ2 (hc:X.calm = true):zO3 X (.type "list") (fun xs H Q=>∃ v d u,xs = [V.ref v] /\ H v = some (yM0 v d) /\ H d = some u /\ isDk u = true /\ ∀ ps,Pss H u ps->∀ l,H l = none->Q (.ref l) (upd H l (.lst (ps.map (·.2))))):=by
 intro pins s σ H xs us Q I r h
 obtain ⟨v,d,u,rfl,hv,hd,hu,q⟩:=h
 obtain ⟨w0,rfl,rw0⟩:=zU3 r
 cases rw0
 obtain ⟨o,es,ep,ps,g,ex,dat,hs,hps,rel⟩:=I.raw hd hu
 have hl:=xN2 hps hu I hd
 have hlen:ps.length = es.size:=by rw [rel.length]; simp
 refine PySem.W.kdl_call (xG5 (es:=es) (ep:=ep)) (I.ok.hd hc) ⟨(I.hok v _ hv).1,⟨o,g,ex,dat⟩⟩ (by omega) fun h' tk acc c kk hD hacc=>?_
 have vr:Vals (ps.map (·.2)) acc.toList:=by
  have e1:acc.toList = es.toList.map (·.val):=by
   apply List.ext_getElem?
   intro j
   rw [List.getElem?_map]
   by_cases hj:j < es.size
   ·have hj2:j < acc.size:=by rw [hacc.1]; exact hj
    obtain ⟨e,he,hv⟩:=hacc.2 j acc[j] (by simp [hj2])
    have e2:es.toList[j]? = some e:=by simpa using he
    rw [e2]
    simp [hj2,hv]
   ·have hj2:¬ j < acc.size:=by rw [hacc.1]; exact hj
    rw [List.getElem?_eq_none (by simp; omega),List.getElem?_eq_none (by simp; omega)]; rfl
  rw [e1]
  clear hlen hl hps e1 hacc
  generalize es.toList = el at rel
  induction rel with
  | nil=>exact .nil
  | cons h t ih=>exact .cons h.2 ih
 refine ⟨.ref _,_,I.laid (a:=s.heap.objs.size) (o:=.lst (ps.map (·.2))) (t':=tk) kk (Nat.le_refl _) ⟨by rw [List.length_map]; exact hl,acc.toList,c,vr,by simpa using hD⟩,rfl,q ps hps _ I.fresh⟩
end
end L2
namespace L2
open PySem PySem.Spec PyProof.Rows
section
variable {prog:Program} {w:World} {A:Around} {E:Value->Shared->Prop} {s:Shared} {it d vw:Addr} {i ep:Nat} {es:Array DictEntry}
theorem yI0 {Q:Value->Shared->Prop} (hd:(d == sysModules) = false) (hm:RawD s.heap d es ep)
  (q:Q (.ref s.heap.objs.size) { s with heap:=s.heap.push { cls:=.type "dict_keyiterator",data:=.fields #[.ref d,.int 0 0,.int es.size 0,.int ep 0] } }):wpAny (model prog w) A (pyIter (.ref d)) Q E s:=by
 obtain ⟨o2,g2,c2,f2⟩:=id hm
 refine wpAny_pyIter_slot hm.ty F.slot_dict_iter (wpAny_call_entry F.slot_dict_iter hm.ty F.entry_dict_iter (?_) (F.args_dict_iter_1 (_)))
 unfold Builtin.«dict.__iter__» Builtin.Dict.dictSlotNone
 refine wpAny_bind (wpAny_bind (wpAny_notOrdered_dict hm.ty ?_)); show wpAny _ _ (pure (Value.ref d)) _ _ (s)
 refine wpAny_pure ?_; show wpAny _ _ (Builtin.Dict.showsAll d >>= _) _ _ s
 unfold Builtin.Dict.showsAll
 rw [if_neg (show ¬ ((d == sysModules) = true) by rw [hd]; simp)]
 refine wpAny_bind (wpAny_pure (wpAny_bind (wpAny_dictEntries g2 f2 (wpAny_bind (wpAny_dictEpoch g2 f2 (wpAny_bind (wpAny_newObj_type (wpAny_pure ⟨_,rfl,"dict_keyiterator",_,⟨_,Heap.get?_push_size (_) rfl,rfl⟩,F.slot_dict_keyiterator_next.lookup,(?_)⟩))))))))
 simpa [rawInt] using q
theorem yH9 {Q:Option Value->Shared->Prop} (hit:s.heap.IsKeyIter it d i es.size ep) (hm:RawD s.heap d es ep) (hi:i < es.size)
  (q:∀ h',h'.IsKeyIter it d (i + 1) es.size ep->Heap.SameBut it s.heap h'->Q (some es[i].key) { s with heap:=h' }):wpAny (model prog w) A (pyNext (.ref it)) Q E s:=by
 obtain ⟨o,ho,hc,hd⟩:=id hit
 obtain ⟨o2,g2,c2,f2⟩:=id hm
 have hown:(Builtin.Dict_items.ownsTuple "dict_keyiterator") = false:=by decide
 unfold pyNext
 refine wpAny_bind (wpAny_attempt (wpAny_callSpecial?_slot (name:=Str.ofString "__next__") hit.typeIs F.slot_dict_keyiterator_next (wpAny_call_entry F.slot_dict_keyiterator_next hit.typeIs F.entry_dict_keyiterator_next ?_ (F.args_dict_keyiterator_next_1 _))))
 refine wpAny_bind (wpAny_pure (wpAny_bind (wpAny_bind ?_)))
 first | refine wpAny_bind (wpAny_typeNameOfWhole_keyiter hit.typeIs (wpAny_pure (wpAny_bind (wpAny_fieldsOf ho hd ?_)))) | refine wpAny_bind (wpAny_typeNameOf_keyiter hit.typeIs (wpAny_pure (wpAny_bind (wpAny_fieldsOf ho hd ?_))))
 simp only [hown,Bool.false_eq_true,if_false]
 show wpAny _ _ (if (Value.ref d == .none) = true then _ else _) _ _ _
 rw [if_neg (show ¬ ((Value.ref d == .none) = true) from Bool.false_ne_true)]
 refine wpAny_bind (wpAny_pure (wpAny_bind (wpAny_dictEntries g2 f2 ?_)))
 rw [if_neg (show ¬ _ by simp)]
 refine wpAny_bind (wpAny_pure (wpAny_bind (wpAny_dictEpoch g2 f2 ?_)))
 rw [if_neg (show ¬ _ by simp)]
 refine wpAny_pure ?_
 simp only [show ¬ ((i:Int) < 0) by omega,if_false,Int.toNat_natCast,Array.getElem?_eq_getElem hi]
 refine wpAny_bind ?_
 first | refine wpAny_bind (wpAny_typeNameOfWhole_keyiter hit.typeIs (wpAny_pure (wpAny_bind (wpAny_isOneOf_keyiter hit.typeIs ?_)))) | refine wpAny_bind (wpAny_typeNameOf_keyiter hit.typeIs (wpAny_pure (wpAny_bind (wpAny_isOneOf_keyiter hit.typeIs ?_))))
 show wpAny _ _ (setField (.ref it) 1 (rawInt ((i:Int) + 1)) >>= _) _ _ (s)
 have st:(s.heap.update it (Obj.mapFields (·.setIfInBounds 1 (rawInt ((i:Int) + 1))))).IsKeyIter it d (i + 1) es.size ep:=⟨_,Heap.get?_update_self _ ho (Obj.isFreed_of_fields (Obj.data_mapFields hd _)),(Obj.cls_mapFields ..).trans hc,by rw [Obj.data_mapFields hd]; simp [rawInt]⟩
 refine wpAny_bind (wpAny_setField ho hd (by simp) (wpAny_bind (wpAny_holding (wpAny_bind (wpAny_isOneOf_keyiter (s:={ s with heap:=s.heap.update it (Obj.mapFields (·.setIfInBounds 1 (rawInt ((i:Int) + 1)))) }) st.typeIs ?_)))))
 exact wpAny_pure (wpAny_pure ⟨_,rfl,wpAny_pure (q _ st (Heap.SameBut.update ..))⟩)
theorem yR2 {Q:Option Value->Shared->Prop} (hh:A.handled = none) (hit:s.heap.IsKeyIter it d i es.size ep) (hm:RawD s.heap d es ep) (hi:es.size <= i)
  (q:∀ h',Heap.ExtBut it s.heap h'->Q none { s with heap:=h' }):wpAny (model prog w) A (pyNext (.ref it)) Q E s:=by
 obtain ⟨o,ho,hc,hd⟩:=id hit
 obtain ⟨o2,g2,c2,f2⟩:=id hm
 have hown:(Builtin.Dict_items.ownsTuple "dict_keyiterator") = false:=by decide
 unfold pyNext
 refine wpAny_bind (wpAny_attempt (wpAny_callSpecial?_slot (name:=Str.ofString "__next__") hit.typeIs F.slot_dict_keyiterator_next (wpAny_call_entry F.slot_dict_keyiterator_next hit.typeIs F.entry_dict_keyiterator_next ?_ (F.args_dict_keyiterator_next_1 _))))
 refine wpAny_bind (wpAny_pure (wpAny_bind (wpAny_bind ?_)))
 first | refine wpAny_bind (wpAny_typeNameOfWhole_keyiter hit.typeIs (wpAny_pure (wpAny_bind (wpAny_fieldsOf ho hd ?_)))) | refine wpAny_bind (wpAny_typeNameOf_keyiter hit.typeIs (wpAny_pure (wpAny_bind (wpAny_fieldsOf ho hd ?_))))
 simp only [hown,Bool.false_eq_true,if_false]
 show wpAny _ _ (if (Value.ref d == .none) = true then _ else _) _ _ _
 rw [if_neg (show ¬ ((Value.ref d == .none) = true) from Bool.false_ne_true)]
 refine wpAny_bind (wpAny_pure (wpAny_bind (wpAny_dictEntries g2 f2 ?_)))
 rw [if_neg (show ¬ _ by simp)]
 refine wpAny_bind (wpAny_pure (wpAny_bind (wpAny_dictEpoch g2 f2 ?_)))
 rw [if_neg (show ¬ _ by simp)]
 refine wpAny_pure ?_
 simp only [show ¬ ((i:Int) < 0) by omega,if_false,Int.toNat_natCast,Array.getElem?_eq_none hi]
 refine wpAny_bind ?_
 first | refine wpAny_bind (wpAny_typeNameOfWhole_keyiter hit.typeIs (wpAny_pure (?_))) | refine wpAny_bind (wpAny_typeNameOf_keyiter hit.typeIs (wpAny_pure (?_)))
 show wpAny _ _ (setField (.ref it) 0 .none >>= _) _ _ (s)
 refine wpAny_bind (wpAny_setField ho hd (by simp) (show wpAny _ _ (newExc (.type "StopIteration") [] >>= _) _ _ _ from wpAny_bind ?_))
 simp only [newExc,newTuple]
 refine wpAny_bind (wpAny_newObj_type (wpAny_bind (m:=firstArgMember _ _) (wpAny_of_eq (a:=Value.none) (by first | rfl | (simp only [firstArgMember]; rfl)) (wpAny_newObj_type ?_ (by size_fits)))) (by size_fits))
 simp only [raiseNew]
 refine wpAny_bind (wpAny_handled ?_)
 rw [show (Around.in1 A).handled = none from hh]
 refine wpAny_bind (wpAny_pure (wpAny_throw (?_)))
 refine wpAny_bind (wpAny_isInstance (b:=true) (T:="StopIteration") ⟨_,Heap.get?_push_size _ rfl,rfl⟩ isSubtype_stop (?_))
 exact wpAny_pure (q _ (((Heap.SameBut.update ..).extBut.push _).push _))
end
section
variable {X:Cx}
theorem zT8:zO3 X (.type "dict") (fun xs H Q=>∃ a kvs,xs = [V.ref a] /\ H a = some (.dK kvs) /\ ∀ p,H p = none->Q (.ref p) (upd H p (.dK kvs))):=by
 intro pins s σ H xs us Q I r h
 obtain ⟨a,kvs,rfl,ha,q⟩:=h
 obtain ⟨u,rfl,ru⟩:=zU3 r
 cases ru
 obtain ⟨z,y,vs,kv,D⟩:=xE4 I.hok ha
 have hl:vs.length = kvs.length:=kv.length.symm
 refine kt_call_dict y D (by omega) fun h' hm sb=>?_
 refine ⟨.ref _,_,I.laid (a:=s.heap.objs.size) (o:=.dK kvs) (t':=s.toks) (fun b ob e=>?_) (Nat.le_refl _) ⟨z,?_,vs,kv,hm⟩,rfl,q _ I.fresh⟩
 ·exact sb.extBut b ob (Nat.ne_of_lt (Heap.lt_size e)) (Heap.get?_push_of_some _ e)
 ·exact beq_eq_false_iff_ne.mpr (Nat.ne_of_gt I.big)
noncomputable def ItK (d:Addr) (o:Obj) (u:HO) (ps:List (V × V)):It :=
 ⟨fun i H=>i < ps.length /\ H d = some (.frz o u),fun i H x H'=>H' = H /\ ∃ v,ps[i]? = some (x,v),fun i H=>i = ps.length /\ H d = some (.frz o u)⟩
theorem yX2 {P:Program} {w:World} {K:PySem.W.Frag} {tg:Expr} {d it:Addr} {o:Obj} {u:HO} {ps:List (V × V)} {es:Array DictEntry} {ep:Nat} (hx:o.ExactDict) (dat:o.data = .dict es ep) (rel:yW7 ps es.toList) :
  Turn P w K tg (ItK d o u ps) [it] it (fun i h=>h.IsKeyIter it d i es.size ep) where
 mem:=by simp
 obj:=fun i h st b hb=>by
  have e:b = it:=by simpa using hb
  subst e
  obtain ⟨o,e,_,d⟩:=st
  exact ⟨o,e,fun v z=>by rw [d] at z; cases z⟩
 keep:=fun i h h' st k=>let ⟨o,e,r⟩:=st; ⟨o,k it (by simp) o e,r⟩
 item:=by
  intro X hP hw hK hc i pins s σ H E I hf st hg
  subst hP hw hK
  obtain ⟨f0,f1,_,f3,f4,f5⟩:=hf it (by simp)
  obtain ⟨hi,hd⟩:=hg
  have hlen:ps.length = es.size:=by rw [rel.length]; simp
  have hi':i < es.size:=by omega
  refine yH9 st ⟨o,(I.hok d _ hd).1,hx,dat⟩ hi' fun h' st' sb=>?_
  obtain ⟨p,hp⟩:∃ p,ps[i]? = some p:=⟨ps[i],by simp [hi]⟩
  obtain ⟨e',he',rk,rv⟩:=yC6 rel hp
  have ee:e' = es[i]:=by
   have:es.toList[i]? = some es[i]:=by simp [hi']
   rw [this] at he'; exact (Option.some.inj he').symm
  subst ee
  have I1:Inv X pins σ H { s with heap:=h',toks:=s.toks }:=I.turned (fun b ob hb e=>sb.extBut b ob hb e) f0 f1 f3 f4 f5
  obtain ⟨oi,ei,ci,di⟩:=id st'
  exact ⟨_,rfl,xD4 (s:={ s with heap:=h',toks:=s.toks }) ei ci di (by decide) ⟨p.1,H,I1,rk,⟨rfl,p.2,hp⟩,st',fun b hb=>(hf b hb).1⟩⟩
 done:=by
  intro X hP hw hK hc i pins s σ H E I hf st hg
  subst hP hw hK
  obtain ⟨f0,f1,_,f3,f4,f5⟩:=hf it (by simp)
  obtain ⟨hi,hd⟩:=hg
  have hlen:ps.length = es.size:=by rw [rel.length]; simp
  exact yR2 (I.ok.hd hc) st ⟨o,(I.hok d _ hd).1,hx,dat⟩ (by rw [hi,hlen]; exact Nat.le_refl _) fun h' eb=>⟨rfl,I.turned (t':=s.toks) (fun b ob hb e=>eb b ob hb e) f0 f1 f3 f4 f5⟩
 self:=fun A i s Q E st h=>wpAny_pyIter_keyiter st h
noncomputable def wA5 (tl:TE):TI:=fun σ H R=>tl σ H fun x H1=>∃ d u,x = .ref d /\ H1 d = some u /\ isDk u = true /\ ∀ o ps,Pss H1 u ps->R (ItK d o u ps) (upd H1 d (.frz o u))
theorem zS9 {tg l:Expr} {tl:TE} (hl:PE X l tl):PI X tg l (wA5 tl):=by
 intro pins s σ H R I h
 refine thn (hl pins s σ H _ I h) fun v s1 ⟨x,H1,I1,r1,q1⟩=>?_
 obtain ⟨d,u,rfl,hd,hu,q⟩:=q1
 cases r1
 obtain ⟨o,es,ep,ps,g,ex,dat,hs,hps,rel⟩:=I1.raw hd hu
 refine yI0 hs ⟨o,g,ex,dat⟩ ?_
 have I2:Inv X pins σ H1 _:=I1.kept (t':=s1.toks) (h':=s1.heap.push { cls:=.type "dict_keyiterator",data:=.fields #[.ref d,.int 0 0,.int es.size 0,.int ep 0] }) fun b ob e=>Heap.get?_push_of_some _ e
 refine ⟨s1.heap.objs.size,[s1.heap.objs.size],_,_,_,rfl,I2.freeze hd hu (Heap.get?_push_of_some _ g),yX2 ex dat rel,⟨_,Heap.get?_push_size _ rfl,rfl,rfl⟩,fun b hb=>?_,q o ps hps⟩
 have e:b = s1.heap.objs.size:=by simpa using hb
 subst e
 exact I1.fpOk (Nat.le_refl _) (by rw [upd_ne (zA8 hd I1.fresh).symm]; exact I1.fresh)
end
theorem zM0 {X:Cx} {K:PySem.W.Frag} {o:Expr} {to:TE} {name:Str} {apos cpos:Pos} {T id:String} {r:V->List V->Hp->VK->Prop} (h:X.K = K) (pa:PlainAttrs T) (slot:Slot T name id) (hty:typeOf (.builtin id) = pure (.type "method_descriptor")) (hm:MtR X id r) (ho:PE X o to)
  (hbase:attributeBase o name X.env (eval o X.env) = eval o X.env:=by rfl) (hline:(apos.endLine == cpos.line) = true:=by rfl):PE X (.Call (.Attribute o name apos) [] [] cpos) (tBM0 K T r to):=by subst h; exact xU3 pa slot hty hm ho hbase hline
theorem zN5 {d:Addr} {o:Obj} {u:HO} {ps:List (V × V)} {g:TG} {tb:TS} {D:Ends} {σ:St} {H:Hp} (Pv:Nat->St->Hp->Prop) (h0:Pv 0 σ H) (hf:∀ i σ H,Pv i σ H->H d = some (.frz o u))
  (hs:∀ i k v T σ H,ps[i]? = some (k,v)->Pv i σ H->H T = none->g (.ref T) σ (upd H T (.tup [k,v])) fun σ2 H2=>tb { D with nx:=Pv (i + 1),ct:=Pv (i + 1),bk:=D.nx } σ2 H2) (hd:∀ σ H,Pv ps.length σ H->D.nx σ H) :
  ∃ W:Nat->Nat->St->Hp->Prop,(∃ m,W 0 m σ H) /\ ∀ i m σ H,W i m σ H->((ItD d o u ps).stop i H /\ D.nx σ H) \/ ((ItD d o u ps).go i H /\ ∃ N:St->Hp->Prop,(∀ σ' H',N σ' H'->∃ m',m' < m /\ W (i + 1) m' σ' H') /\
   ∀ x H',(ItD d o u ps).yld i H x H'->g x σ H' fun σ2 H2=>tb { D with nx:=N,ct:=N,bk:=D.nx } σ2 H2):=by
 refine ⟨fun i m σ H=>m = ps.length - i /\ i <= ps.length /\ Pv i σ H,⟨_,rfl,Nat.zero_le _,h0⟩,?_⟩
 rintro i m σ H ⟨rfl,hi,p⟩
 by_cases hlt:i < ps.length
 ·refine .inr ⟨⟨hlt,hf i σ H p⟩,Pv (i + 1),fun σ' H' p'=>⟨ps.length - (i + 1),by omega,rfl,hlt,p'⟩,fun x H' y=>?_⟩
  obtain ⟨k,v,T,hk,e1,hT,e2⟩:=y
  subst e1 e2
  exact hs i k v T σ H hk p hT
 ·have e:i = ps.length:=by omega
  subst e
  exact .inl ⟨⟨rfl,hf _ σ H p⟩,hd σ H p⟩
theorem yT3 {d:Addr} {o:Obj} {u:HO} {ps:List (V × V)} {g:TG} {tb:TS} {D:Ends} {σ:St} {H:Hp} (Pv:Nat->St->Hp->Prop) (h0:Pv 0 σ H) (hf:∀ i σ H,Pv i σ H->H d = some (.frz o u))
  (hs:∀ i k v σ H,ps[i]? = some (k,v)->Pv i σ H->g k σ H fun σ2 H2=>tb { D with nx:=Pv (i + 1),ct:=Pv (i + 1),bk:=D.nx } σ2 H2) (hd:∀ σ H,Pv ps.length σ H->D.nx σ H) :
  ∃ W:Nat->Nat->St->Hp->Prop,(∃ m,W 0 m σ H) /\ ∀ i m σ H,W i m σ H->((ItK d o u ps).stop i H /\ D.nx σ H) \/ ((ItK d o u ps).go i H /\ ∃ N:St->Hp->Prop,(∀ σ' H',N σ' H'->∃ m',m' < m /\ W (i + 1) m' σ' H') /\
   ∀ x H',(ItK d o u ps).yld i H x H'->g x σ H' fun σ2 H2=>tb { D with nx:=N,ct:=N,bk:=D.nx } σ2 H2):=by
 refine ⟨fun i m σ H=>m = ps.length - i /\ i <= ps.length /\ Pv i σ H,⟨_,rfl,Nat.zero_le _,h0⟩,?_⟩
 rintro i m σ H ⟨rfl,hi,p⟩
 by_cases hlt:i < ps.length
 ·refine .inr ⟨⟨hlt,hf i σ H p⟩,Pv (i + 1),fun σ' H' p'=>⟨ps.length - (i + 1),by omega,rfl,hlt,p'⟩,fun x H' y=>?_⟩
  obtain ⟨e,v,hk⟩:=y
  subst e
  exact hs i x v σ _ hk p
 ·have e:i = ps.length:=by omega
  subst e
  exact .inl ⟨⟨rfl,hf _ σ H p⟩,hd σ H p⟩
end L2
namespace Tc
section
variable {α:Type} [DecidableEq α]
noncomputable def dlt (n:α):α->Rat:=fun z=>if z = n then 1 else 0
noncomputable def fw (x y:α) (t:Rat) (v:α->Rat):α->Rat:=fun z=>if z = y then v y + v x * t else if z = x then v x - v x * t else v z
noncomputable def bw (x y:α) (t:Rat) (R:α->α->Rat):α->α->Rat:=fun n=>if n = x then fun z=>R x z * (1 - t) + R y z * t else R n
theorem xW2 (x y:α) (t:Rat) (a b:α->Rat) (p q:Rat):fw x y t (fun z=>a z * p + b z * q) = fun z=>fw x y t a z * p + fw x y t b z * q:=by
 funext z
 unfold fw
 split
 ·grind
 ·split
  ·grind
  ·rfl
theorem wB2 (x' y':α) (t':Rat) (x y:α) (t:Rat) (R:α->α->Rat):bw x' y' t' (fun n=>fw x y t (R n)) = fun n=>fw x y t (bw x' y' t' R n):=by
 funext n
 unfold bw
 split
 ·exact (xW2 x y t (R x') (R y') (1 - t') t').symm
 ·rfl
theorem xX4 {x y:α} (t:Rat) (h:x ≠ y):bw x y t dlt = fun n=>fw x y t (dlt n):=by
 funext n z
 unfold bw fw dlt
 by_cases e:n = x
 ·rw [if_pos e]
  subst e
  by_cases e1:z = y
  ·subst e1
   have:z ≠ n:=fun q=>h q.symm
   grind
  ·by_cases e2:z = n
   ·subst e2; grind
   ·grind
 ·rw [if_neg e]
  grind
noncomputable def IsM (P k:Nat) (r:Rat):Prop:=0 <= r /\ ∃ m:Nat,m <= k * P /\ r * (P:Rat) = (m:Rat)
theorem xB6 {P:Nat} (h:0 < P):(P:Rat) ≠ 0:=by
 intro e
 have:(P:Rat) = ((0:Nat):Rat):=e
 have:=Rat.natCast_inj.mp this
 omega
theorem IsM.eq {P k:Nat} {r:Rat} (hP:0 < P) (h:IsM P k r):∃ m:Nat,m <= k * P /\ r = Rat.divInt m P:=by
 obtain ⟨_,m,hm,e⟩:=h
 refine ⟨m,hm,?_⟩
 rw [Rat.divInt_eq_div,Rat.intCast_natCast,Rat.intCast_natCast]
 have:=xB6 hP
 grind
theorem IsM.zero (P k:Nat):IsM P k 0:=⟨by decide,0,Nat.zero_le _,by rw [Rat.zero_mul]; rfl⟩
theorem IsM.one (P:Nat):IsM P 1 1:=⟨by decide,P,by omega,by rw [Rat.one_mul]⟩
theorem IsM.add {P k j:Nat} {r q:Rat} (h:IsM P k r) (g:IsM P j q):IsM P (k + j) (r + q):=by
 obtain ⟨h0,m,hm,e⟩:=h
 obtain ⟨g0,n,hn,f⟩:=g
 refine ⟨Rat.add_nonneg h0 g0,m + n,by rw [Nat.add_mul]; omega,?_⟩
 rw [Rat.add_mul,e,f,Rat.natCast_add]
theorem xQ3 (t:Rat):t * (t.den:Rat) = (t.num:Rat):=by
 have h:=Rat.num_divInt_den t
 rw [Rat.divInt_eq_div,Rat.intCast_natCast] at h
 have:=xB6 t.den_pos
 grind
theorem parts {t:Rat} (h0:0 <= t) (h1:t <= 1):∃ u w:Nat,t.den = u + w /\ t * (t.den:Rat) = (u:Rat) /\ (1 - t) * (t.den:Rat) = (w:Rat):=by
 have n0:=Rat.num_nonneg.mpr h0
 have n1:=(Rat.le_iff t 1).mp h1
 have n1:t.num <= t.den:=by simpa using n1
 obtain ⟨u,hu⟩:=Int.eq_ofNat_of_zero_le n0
 have hw:t.den = u + (t.den - u):=by omega
 have e:=xQ3 t
 rw [hu,Rat.intCast_natCast] at e
 refine ⟨u,t.den - u,hw,e,?_⟩
 have e2:(t.den:Rat) = (u:Rat) + ((t.den - u:Nat):Rat):=by rw [<- Rat.natCast_add,<- hw]
 grind
theorem IsM.mulL {P k:Nat} {a t:Rat} (h:IsM P k a) (h0:0 <= t) (h1:t <= 1):IsM (P * t.den) k (a * t):=by
 obtain ⟨a0,m,hm,e⟩:=h
 obtain ⟨u,w,hd,eu,ew⟩:=parts h0 h1
 refine ⟨Rat.mul_nonneg a0 h0,m * u,?_,?_⟩
 ·rw [hd,<- Nat.mul_assoc]
  exact Nat.mul_le_mul hm (by omega)
 ·rw [Rat.natCast_mul,Rat.natCast_mul,<- e,<- eu]; grind
theorem zM8 {t:Rat} (h1:t <= 1):0 <= 1 - t:=by grind
theorem IsM.mix {P k:Nat} {a b t:Rat} (h:IsM P k a) (g:IsM P k b) (h0:0 <= t) (h1:t <= 1):IsM (P * t.den) k (a * (1 - t) + b * t):=by
 obtain ⟨a0,m,hm,e⟩:=h
 obtain ⟨b0,n,hn,f⟩:=g
 obtain ⟨u,w,hd,eu,ew⟩:=parts h0 h1
 refine ⟨Rat.add_nonneg (Rat.mul_nonneg a0 (zM8 h1)) (Rat.mul_nonneg b0 h0),m * w + n * u,?_,?_⟩
 ·rw [hd,<- Nat.mul_assoc,Nat.mul_add]
  have:=Nat.mul_le_mul_right w hm
  have:=Nat.mul_le_mul_right u hn
  omega
 ·rw [Rat.natCast_add,Rat.natCast_mul,Rat.natCast_mul,Rat.natCast_mul,<- e,<- f,<- eu,<- ew]; grind
theorem IsM.mulR {P k:Nat} {a t:Rat} (h:IsM P k a) (h0:0 <= t) (h1:t <= 1):IsM (P * t.den) k (a * (1 - t)):=by
 have:=h.mix (IsM.zero P k) h0 h1
 rw [Rat.zero_mul,Rat.add_zero] at this
 exact this
theorem IsM.up {P k:Nat} {a:Rat} (h:IsM P k a) (d:Nat):IsM (P * d) k a:=by
 obtain ⟨a0,m,hm,e⟩:=h
 refine ⟨a0,m * d,by rw [<- Nat.mul_assoc]; exact Nat.mul_le_mul_right d hm,?_⟩
 rw [Rat.natCast_mul,Rat.natCast_mul,<- e]; grind
noncomputable def sumL (L:List α) (f:α->Rat):Rat:=(L.map f).foldl (· + ·) 0
theorem yW6 (rs:List Rat) (a:Rat):rs.foldl (· + ·) a = a + rs.foldl (· + ·) 0:=by
 induction rs generalizing a with
 | nil=>simp [Rat.add_zero]
 | cons r rs ih =>
  rw [List.foldl_cons,List.foldl_cons,ih (a + r),ih (0 + r),Rat.zero_add,Rat.add_assoc]
theorem zG2 (f:α->Rat):sumL [] f = 0:=rfl
theorem zB2 (z:α) (L:List α) (f:α->Rat):sumL (z :: L) f = f z + sumL L f:=by
 unfold sumL
 rw [List.map_cons,List.foldl_cons,yW6,Rat.zero_add]
theorem zV7 (z:α) (L:List α) (f:α->Rat):sumL (L ++ [z]) f = sumL L f + f z:=by
 unfold sumL
 rw [List.map_append,List.foldl_append]; rfl
theorem yB2 (L:List α) (a b:α->Rat) (t:Rat):sumL L (fun z=>a z * (1 - t) + b z * t) = sumL L a * (1 - t) + sumL L b * t:=by
 induction L with
 | nil=>simp only [zG2]; grind
 | cons z L ih=>rw [zB2,zB2,zB2,ih]; grind
theorem zK6 (L:List α) (f:α->Rat) (h:∀ z ∈ L,f z = 0):sumL L f = 0:=by
 induction L with
 | nil=>rfl
 | cons z L ih=>rw [zB2,h z List.mem_cons_self,ih fun y hy=>h y (List.mem_cons_of_mem _ hy),Rat.add_zero]
theorem yP9 {L:List α} (hn:L.Nodup) {n:α} (h:n ∈ L):sumL L (dlt n) = 1:=by
 induction L with
 | nil=>simp at h
 | cons z L ih =>
  rw [zB2]
  rw [List.nodup_cons] at hn
  by_cases e:z = n
  ·subst e
   rw [zK6 L _ fun y hy=>?_]
   ·simp [dlt,Rat.add_zero]
   ·unfold dlt; rw [if_neg]; rintro rfl; exact hn.1 hy
  ·have:n ∈ L:=by
    rcases List.mem_cons.mp h with q | q
    ·exact absurd q.symm e
    ·exact q
   rw [ih hn.2 this]
   unfold dlt; rw [if_neg e,Rat.zero_add]
theorem zM7 {L:List α} {z:α} (h:z ∈ L) (f:α->Rat):sumL L f = f z + sumL (L.erase z) f:=by
 induction L with
 | nil=>simp at h
 | cons y L ih =>
  rw [List.erase_cons]
  by_cases e:y = z
  ·subst e; simp [zB2]
  ·have hz:z ∈ L:=by
    rcases List.mem_cons.mp h with q | q
    ·exact absurd q.symm e
    ·exact q
   have:¬ (y == z) = true:=by simpa using e
   rw [if_neg this,zB2,zB2,ih hz]; grind
theorem zM2:∀ {L ks:List α} (f:α->Rat),L.Nodup->ks.Nodup->(∀ z ∈ ks,z ∈ L)->(∀ z ∈ L,f z ≠ 0->z ∈ ks)->sumL ks f = sumL L f
 | [],ks,f,_,_,h,_=>by
  cases ks with
  | nil=>rfl
  | cons z _=>exact absurd (h z List.mem_cons_self) (by simp)
 | z :: L,ks,f,hL,hk,h,g=>by
  rw [List.nodup_cons] at hL
  rw [zB2]
  by_cases hz:z ∈ ks
  ·rw [zM7 hz]
   congr 1
   refine zM2 f hL.2 (hk.erase z) (fun y hy=>?_) fun y hy hf=>?_
   ·obtain ⟨a,b⟩:=(hk.mem_erase_iff).mp hy
    rcases List.mem_cons.mp (h y b) with q | q
    ·exact absurd q a
    ·exact q
   ·refine (hk.mem_erase_iff).mpr ⟨fun e=>hL.1 (e ▸ hy),g y (List.mem_cons_of_mem _ hy) hf⟩
  ·have e:f z = 0:=by
    by_cases q:f z = 0
    ·exact q
    ·exact absurd (g z List.mem_cons_self q) hz
   rw [e,Rat.zero_add]
   refine zM2 f hL.2 hk (fun y hy=>?_) fun y hy hf=>g y (List.mem_cons_of_mem _ hy) hf
   rcases List.mem_cons.mp (h y hy) with q | q
   ·exact absurd hy (q ▸ hz)
   ·exact q
theorem zD8:∀ {L ks:List α},ks.Nodup->(∀ z ∈ ks,z ∈ L)->ks.length <= L.length
 | L,[],_,_=>by simp
 | L,k :: ks,hk,h=>by
  rw [List.nodup_cons] at hk
  have hm:=h k List.mem_cons_self
  have:=zD8 (L:=L.erase k) (ks:=ks) hk.2 fun z hz=>by
   refine (List.mem_erase_of_ne ?_).mpr (h z (List.mem_cons_of_mem _ hz))
   rintro rfl; exact hk.1 hz
  rw [List.length_erase_of_mem hm] at this
  have hp:=List.length_pos_of_mem hm
  rw [List.length_cons]
  omega
noncomputable def op (f:α->Rat):α->Option Rat:=fun z=>if f z = 0 then none else some (f z)
theorem zO9 (f:α->Rat) (z:α):(op f z).getD 0 = f z:=by
 unfold op; split
 ·rename_i h; rw [h]; rfl
 ·rfl
theorem op_some {f:α->Rat} {z:α}:(op f z).isSome = true ↔ f z ≠ 0:=by
 unfold op; split
 ·rename_i h; simp [h]
 ·rename_i h; simp [h]
structure Good (L:List α) (P:Nat) (R:α->α->Rat):Prop where
 part:∀ n ∈ L,∀ z,IsM P 1 (R n z)
 sup:∀ n ∈ L,∀ z,R n z ≠ 0->z ∈ L
 all:∀ n ∈ L,sumL L (R n) = 1
theorem Good.dlt {L:List α} (h:L.Nodup):Good L 1 (dlt (α:=α)) where
 part:=fun n _ z=>by
  unfold Tc.dlt; split
  ·exact IsM.one 1
  ·exact IsM.zero 1 1
 sup:=fun n hn z hz=>by
  unfold Tc.dlt at hz
  split at hz
  ·rename_i e; rw [e]; exact hn
  ·exact absurd rfl hz
 all:=fun n hn=>yP9 h hn
theorem Good.bw {L:List α} {P:Nat} {R:α->α->Rat} {x y:α} {t:Rat} (h:Good L P R) (hx:x ∈ L) (hy:y ∈ L) (h0:0 <= t) (h1:t <= 1):Good L (P * t.den) (bw x y t R) where
 part:=fun n hn z=>by
  unfold Tc.bw; split
  ·exact (h.part x hx z).mix (h.part y hy z) h0 h1
  ·exact (h.part n hn z).up _
 sup:=fun n hn z hz=>by
  unfold Tc.bw at hz
  split at hz
  ·have hz:R x z * (1 - t) + R y z * t ≠ 0:=hz
   by_cases e:R x z = 0
   ·by_cases e2:R y z = 0
    ·rw [e,e2,Rat.zero_mul,Rat.zero_mul,Rat.add_zero] at hz; exact absurd rfl hz
    ·exact h.sup y hy z e2
   ·exact h.sup x hx z e
  ·exact h.sup n hn z hz
 all:=fun n hn=>by
  unfold Tc.bw; split
  ·rw [yB2,h.all x hx,h.all y hy]; grind
  ·exact h.all n hn
theorem xN1 {u b:Int} (h0:0 <= u) (h1:u <= b) (hb:0 < b):0 <= Rat.divInt u b /\ Rat.divInt u b <= 1:=by
 refine ⟨Rat.divInt_nonneg h0 (by omega),?_⟩
 have e:(1:Rat) = Rat.divInt b b:=by
  rw [Rat.divInt_eq_div]
  have:(b:Rat) ≠ 0:=by
   intro z
   have:b = 0:=by exact_mod_cast z
   omega
  grind
 have e2:(1:Rat) - Rat.divInt u b = Rat.divInt (b - u) b:=by
  rw [e,Rat.divInt_eq_div,Rat.divInt_eq_div,Rat.divInt_eq_div,Rat.intCast_sub]
  grind
 have:0 <= Rat.divInt (b - u) b:=Rat.divInt_nonneg (by omega) (by omega)
 rw [<- e2] at this
 grind
theorem yA2 {a:Rat} (h:0 <= a) (n:a ≠ 0):0 < a:=by grind
theorem xA7:op (fun _:α=>0) = fun _=>none:=by funext z; simp [op]
noncomputable def filt (f:α->Option Rat) (ks:List α):α->Option Rat:=fun z=>if z ∈ ks then (match f z with | some q=>if q = 0 then none else some q | none=>none) else none
end
end Tc
namespace L2
open PySem PySem.Spec PyProof.Rows
theorem yO7:bootBuiltins "reversed" = some (.type "reversed"):=by decide +kernel
noncomputable def Itv (K:PySem.W.Frag) (a:Addr) (xs:List V):It :=
 ⟨fun i H=>i < xs.length /\ SqL K H a xs,fun i H x H'=>H' = H /\ xs[xs.length - 1 - i]? = some x,fun i _=>i = xs.length⟩
theorem xG1 {P:Program} {w:World} {K:PySem.W.Frag} {tg:Expr} (a it:Addr) (xs:List V):Turn P w K tg (Itv K a xs) [it] it (fun i h=>h.IsRevIter it a ((xs.length:Int) - 1 - (i:Int))) where
 mem:=by simp
 obj:=fun i h st b hb=>by
  have e:b = it:=by simpa using hb
  subst e
  obtain ⟨o,e,c,d⟩:=st
  exact ⟨o,e,fun v z=>by rw [d] at z; cases z⟩
 keep:=fun i h h' st k=>st.at fun o e=>k it (by simp) o e
 item:=by
  intro X hP hw hK hc i pins s σ H E I hf st hg
  subst hP hw hK
  obtain ⟨hi,hq⟩:=hg
  obtain ⟨its,rv,p,hz⟩:=I.list hq
  have hx:xs[xs.length - 1 - i]? = some (xs[xs.length - 1 - i]'(by omega)):=List.getElem?_eq_getElem (by omega)
  obtain ⟨u,hu,ru⟩:=rv.get hx
  obtain ⟨f0,f1,f2,f3,f4,f5⟩:=hf it (by simp)
  have e:(xs.length:Int) - 1 - (i:Int) = ((xs.length - 1 - i:Nat):Int):=by omega
  have st:s.heap.IsRevIter it a ((xs.length:Int) - 1 - (i:Int)):=st
  rw [e] at st
  refine wpAny_pyNext_rev_item st p.isList (x:=u) (by simpa using hu) fun h' st' sb=>?_
  have I1:Inv X pins σ H { s with heap:=h' }:=I.turned (t':=s.toks) (fun b o hb e=>(sb.2 b hb).trans e) f0 f1 f3 f4 f5
  have e2:((xs.length - 1 - i:Nat):Int) - 1 = (xs.length:Int) - 1 - ((i + 1:Nat):Int):=by omega
  rw [e2] at st'
  obtain ⟨o,e,c,d⟩:=id st'
  exact ⟨u,rfl,xD4 (s:={ s with heap:=h' }) e c d (by decide) ⟨_,H,I1,ru,⟨rfl,hx⟩,st',fun b hb=>(hf b hb).1⟩⟩
 done:=by
  intro X hP hw hK hc i pins s σ H E I hf st hg
  subst hP hw hK
  have hg:i = xs.length:=hg
  obtain ⟨f0,f1,f2,f3,f4,f5⟩:=hf it (by simp)
  have e:(xs.length:Int) - 1 - (i:Int) = -1:=by omega
  have st:s.heap.IsRevIter it a ((xs.length:Int) - 1 - (i:Int)):=st
  rw [e] at st
  exact wpAny_pyNext_rev_end (I.ok.hd hc) st fun h' eb=>⟨rfl,I.turned (t':=s.toks) (fun b o hb e=>eb b o hb e) f0 f1 f3 f4 f5⟩
 self:=fun _ _ _ _ _ st h=>wpAny_pyIter_revIter st h
section
variable {X:Cx} {K:PySem.W.Frag}
noncomputable def iRev (K:PySem.W.Frag) (ta:TA):TI:=fun σ H R=>ta σ H fun vs H1=>∃ a xs,vs = [V.ref a] /\ SqL K H1 a xs /\ R (Itv K a xs) H1
theorem xL9 {tg a:Expr} {ta:TA} {p pos:Pos} (hK:X.K = K) (hg:Gl X "reversed") (hm:X.mg "reversed" = none) (ha:PA X [a] ta) (hs:starEach [a] X.env = [(false,eval a X.env)]:=by rfl):PI X tg (.Call (.Name "reversed" p) [a] [] pos) (iRev K ta):=by
 subst hK
 intro pins s σ H R I h
 refine Call_ (zQ1 I hg hm yO7 (PyProof.Rows.callWith_type1 (thn (ha pos pins s σ H _ I h) fun us s1 ⟨vs,H1,I1,r1,q1⟩=>?_) hs rfl))
 obtain ⟨b,xs,rfl,hq,q⟩:=q1
 obtain ⟨u,rfl,ru⟩:=zU3 r1
 cases ru
 obtain ⟨its,rv,p,hz⟩:=I1.list hq
 refine call_reversed_list p.isList ?_
 have e:((its.toArray.size:Nat):Int) - 1 = (xs.length:Int) - 1 - ((0:Nat):Int):=by
  have:=rv.length
  simp; omega
 rw [e]
 refine wpAny_pyIter_revIter (l:=b) (i:=(xs.length:Int) - 1 - ((0:Nat):Int)) ⟨_,Heap.get?_push_size _ rfl,rfl,rfl⟩ ?_
 refine ⟨s1.heap.objs.size,[s1.heap.objs.size],_,_,H1,rfl,I1.kept (t':=s1.toks) fun b o e=>Heap.get?_push_of_some _ e,xG1 b _ xs,⟨_,Heap.get?_push_size _ rfl,rfl,rfl⟩,fun b hb=>?_,q⟩
 have e:b = s1.heap.objs.size:=by simpa using hb
 subst e
 exact I1.fpOk (Nat.le_refl _) (I1.hok.fresh (Nat.le_refl _))
theorem yK5:zO3 X (.builtin "len") (fun xs H Q=>∃ a kvs,xs = [V.ref a] /\ H a = some (.dK kvs) /\ Q (.int (kvs.length:Nat)) H):=by
 intro pins s σ H xs us Q I r h
 obtain ⟨a,kvs,rfl,ha,q⟩:=h
 obtain ⟨u,rfl,ru⟩:=zU3 r
 cases ru
 obtain ⟨z,y,vs,kv,D⟩:=xE4 I.hok ha
 have hl:vs.length = kvs.length:=kv.length.symm
 have hs:sizeLine = 16777216:=sizeLine_eq
 refine call_len_dict y D (by omega) ?_
 rw [hl]
 exact ⟨.int _,H,I.tok _,⟨_,rfl⟩,q⟩
end
theorem xD6 {K:PySem.W.Frag} {a:Addr} {xs:List V} {g:TG} {tb:TS} {D:Ends} {σ:St} {H:Hp} (Pv:Nat->St->Hp->Prop) (h0:Pv xs.length σ H) (hl:∀ j σ H,j <= xs.length->Pv j σ H->SqL K H a xs)
  (hs:∀ j x σ H,xs[j]? = some x->Pv (j + 1) σ H->g x σ H fun σ2 H2=>tb { D with nx:=Pv j,ct:=Pv j,bk:=D.nx } σ2 H2) (hd:∀ σ H,Pv 0 σ H->D.nx σ H) :
  ∃ W:Nat->Nat->St->Hp->Prop,(∃ m,W 0 m σ H) /\ ∀ i m σ H,W i m σ H ->
   ((Itv K a xs).stop i H /\ D.nx σ H) \/ ((Itv K a xs).go i H /\ ∃ N:St->Hp->Prop,(∀ σ' H',N σ' H'->∃ m',m' < m /\ W (i + 1) m' σ' H') /\ ∀ x H',(Itv K a xs).yld i H x H'->g x σ H' fun σ2 H2=>tb { D with nx:=N,ct:=N,bk:=D.nx } σ2 H2):=by
 refine ⟨fun i m σ H=>i + m = xs.length /\ Pv m σ H,⟨xs.length,by omega,h0⟩,?_⟩
 rintro i m σ H ⟨hi,p⟩
 have q:=hl m σ H (by omega) p
 cases m with
 | zero=>exact .inl ⟨by show i = _; omega,hd σ H p⟩
 | succ j =>
  refine .inr ⟨⟨by omega,q⟩,Pv j,fun σ' H' p'=>⟨j,by omega,by omega,p'⟩,fun x H' y=>?_⟩
  obtain ⟨e,y⟩:=y
  subst e
  have ej:xs.length - 1 - i = j:=by omega
  rw [ej] at y
  exact hs j x σ _ y p
end L2
namespace L2
open PySem PySem.Spec PyProof.Rows
theorem Paired.take {α β:Type} {F:α->β->Prop} {xs:List α} {ys:List β} (h:Paired F xs ys):∀ i:Nat,Paired F (xs.take i) (ys.take i):=by
 induction h with
 | nil=>intro i; rw [List.take_nil,List.take_nil]; exact .nil
 | cons r t ih =>
  intro i
  cases i with
  | zero=>exact .nil
  | succ i=>rw [List.take_succ_cons,List.take_succ_cons]; exact .cons r (ih i)
theorem Paired.drop {α β:Type} {F:α->β->Prop} {xs:List α} {ys:List β} (h:Paired F xs ys):∀ i:Nat,Paired F (xs.drop i) (ys.drop i):=by
 induction h with
 | nil=>intro i; rw [List.drop_nil,List.drop_nil]; exact .nil
 | cons r t ih =>
  intro i
  cases i with
  | zero=>exact .cons r t
  | succ i=>rw [List.drop_succ_cons,List.drop_succ_cons]; exact ih i
theorem Paired.app {α β:Type} {F:α->β->Prop} {xs xs':List α} {ys ys':List β} (h:Paired F xs ys) (g:Paired F xs' ys'):Paired F (xs ++ xs') (ys ++ ys'):=by
 induction h with
 | nil=>exact g
 | cons r t ih=>exact .cons r ih
section
variable {X:Cx} {K:PySem.W.Frag} {pos:Pos}
noncomputable def gLst (K:PySem.W.Frag) (n:Nat) (t:TGs):TG:=fun v σ H Q=>∃ a xs,v = .ref a /\ SqL K H a xs /\ xs.length = n /\ t xs σ H Q
theorem xT9 {es:List Expr} {k:Nat} {t:TGs} {n:Nat} (hK:X.K = K) (hc:X.calm = true) (h:PGs X es t)
  (hn:(assignEach es X.env).length = n:=by rfl) (hst:(assignEach es X.env).findIdx? (·.1) = none:=by rfl):PG X (.Tuple es k pos) (gLst K n t):=by
 subst hK
 intro pins s σ H v u Q I r hw
 obtain ⟨a,xs,e1,hq,hl,hw⟩:=hw
 subst e1
 cases r
 obtain ⟨its,rv,p,hz⟩:=I.list hq
 rw [assign_Tuple]
 refine wpAny_bind (wpAny_standAt ?_)
 unfold unpack
 have e:(assignEach es X.env).length = its.toArray.size:=by simp [hn,<- hl,rv.length]
 rw [e,hst]
 refine wpAny_bind (wpAny_holding (PySem.W.kun_itemsOf (I.ok.hd hc) p.isList fun h' hx=>?_))
 have I1:Inv X pins σ H { s with heap:=h' }:=I.kept (t':=s.toks) fun b o e=>hx b o (Nat.ne_of_lt (Heap.lt_size e)) e
 exact h pins _ σ H xs _ Q I1 (by simpa using rv) hw
noncomputable def xO9:V->List V->Hp->VK->Prop:=fun x vs H Q=>∃ (l:Addr) (xs:List V) (i:Nat) (y:V),x = .ref l /\ vs = [.int (i:Nat),y] /\ H l = some (.lst xs) /\ i <= xs.length /\ xs.length <= 1000 /\ Q .non (upd H l (.lst (xs.take i ++ y :: xs.drop i)))
theorem xB9:MtR X "list.insert" xO9:=by
 intro pins s σ H x vs v us Q I rx rv h
 obtain ⟨l,xs,i,y,rfl,rfl,hH,hi,hz,q⟩:=h
 cases rx
 obtain ⟨u1,u2,rfl,r1,r2⟩:∃ u1 u2,us = [u1,u2] /\ RelV (.int (i:Nat)) u1 /\ RelV y u2:=by
  cases rv with
  | cons a r =>
   cases r with
   | cons b r=>cases r; exact ⟨_,_,rfl,a,b⟩
 obtain ⟨t,rfl⟩:=r1
 obtain ⟨z,its,n,r,hl,e⟩:=I.lstM hH
 have hsz:sizeLine = 16777216:=sizeLine_eq
 have hle:its.toArray.size <= sizeLine:=by rw [List.size_toArray]; omega
 obtain ⟨x,hx⟩:∃ x:Int,x = ((i:Nat):Int):=⟨_,rfl⟩
 rw [<- hx]
 have hfit:¬ (!Builtin.List.listFitsIndex x) = true:=by
  have:Builtin.List.listFitsIndex x = true:=by
   unfold Builtin.List.listFitsIndex
   rw [Bool.and_eq_true]
   exact ⟨decide_eq_true (by omega),decide_eq_true (by omega)⟩
  rw [this]; decide
 refine call_meets F.slot_list_insert ⟨_,e,rfl⟩ F.entry_list_insert (F.args_list_insert_3 _ _ _) (AutoSeq1.list_insert_list_int_val_1 l its.toArray n x t u2 hfit hle) ⟨e,?_⟩
 refine ⟨.non,_,I.lset (its':=its.take i ++ u2 :: its.drop i) hH e ?_ ?_ ?_,rfl,q⟩
 ·have ek:(if x < 0 then (x + (its.toArray.size:Int)).toNat else min x.toNat its.toArray.size) = i:=by
   rw [if_neg (by omega),List.size_toArray]
   omega
  show (its.toArray.extract 0 (if x < 0 then (x + (its.toArray.size:Int)).toNat else min x.toNat its.toArray.size)).push u2 ++ its.toArray.extract (if x < 0 then (x + (its.toArray.size:Int)).toNat else min x.toNat its.toArray.size) = _
  rw [ek]
  apply Array.ext'
  simp
  exact List.take_of_length_le (by rw [List.length_drop]; omega)
 ·exact Paired.app (Paired.take r i) (.cons r2 (Paired.drop r i))
 ·rw [List.length_append,List.length_cons,List.length_take,List.length_drop]
  omega
end
end L2
namespace L2
open PySem PySem.Spec PyProof.Rows
noncomputable def xY1 (H0:Hp) (D:Ends):Ends where
 nx:=fun σ H=>∃ d o u,(∀ ob v,H0 d ≠ some (.frz ob v)) /\ H d = some (.frz o u) /\ D.nx σ (upd H d u)
 rt:=fun v H=>∃ d o u,(∀ ob v,H0 d ≠ some (.frz ob v)) /\ H d = some (.frz o u) /\ D.rt v (upd H d u)
 bk:=fun σ H=>∃ d o u,(∀ ob v,H0 d ≠ some (.frz ob v)) /\ H d = some (.frz o u) /\ D.bk σ (upd H d u)
 ct:=fun σ H=>∃ d o u,(∀ ob v,H0 d ≠ some (.frz ob v)) /\ H d = some (.frz o u) /\ D.ct σ (upd H d u)
noncomputable def xS0 (t:TS):TS:=fun D σ H=>t (xY1 H D) σ H
theorem xH1 {X:Cx} {st:Stmt} {t:TS} (h:PS X st t):PS X st (xS0 t):=by
 intro pins s σ H D I hq
 have h0:∀ d,(∀ ob v,H d ≠ some (.frz ob v))->∀ ob v,X.H₀ d ≠ some (.frz ob v):=fun d n ob v e=>n ob v (I.base.frzs d ob v e)
 refine thn (h pins s σ H _ I hq) fun f s1 q=>?_
 cases f with
 | next=>obtain ⟨σ',H',I',d,o,v,n,e,q⟩:=q; exact ⟨σ',_,I'.thaw e (h0 d n),q⟩
 | brk=>obtain ⟨σ',H',I',d,o,v,n,e,q⟩:=q; exact ⟨σ',_,I'.thaw e (h0 d n),q⟩
 | cont=>obtain ⟨σ',H',I',d,o,v,n,e,q⟩:=q; exact ⟨σ',_,I'.thaw e (h0 d n),q⟩
 | ret w=>obtain ⟨x,σ',H',I',r,d,o,v,n,e,q⟩:=q; exact ⟨x,σ',_,I'.thaw e (h0 d n),r,q⟩
end L2
namespace L2
open PySem PySem.Spec PyProof.Rows
theorem yK7:bootBuiltins "enumerate" = some (.type "enumerate"):=by decide +kernel
section
variable {X:Cx} {pins:List (Addr × Obj)} {σ:St} {H:Hp} {s:Shared} {h':Heap}
theorem Inv.turns {t':Nat} {ch:List Addr} (I:Inv X pins σ H s) (k:∀ b o,b ∉ ch->s.heap.get? b = some o->h'.get? b = some o) (hf:∀ b ∈ ch,FpOk X pins H b):Inv X pins σ H { s with heap:=h',toks:=t' }:=by
 have nit:∀ b u,H b = some u->b ∉ ch:=fun b u e z=>by rw [(hf b z).1] at e; cases e
 refine I.step (g':=s.gens) (d':=s.drawn) (ch:=ch) (fun b hb=>?_) (fun b o _ _ hc e _=>k b o hc e) (fun b o _ _ hc e _=>⟨o.slots,k b o hc e⟩) (fun _ _ _ _ n=>n) (fun b o hc e=>⟨o,k b o hc e⟩) (fun _ _ e=>e) (fun _ _ _ e=>e) (fun b ps e=>⟨#[],by rw [e]; simp⟩) (fun m hm=>?_) (fun b u e=>?_) I.bare
 ·obtain ⟨f0,f1,f2,f3,f4,f5⟩:=hf b hb
  exact ⟨f3,f1,f4,f5⟩
 ·obtain ⟨o,es,ep,ho,r⟩:=hm
  exact ⟨o,es,ep,k _ o (fun z=>(hf _ z).2.1 rfl) ho,r⟩
 ·refine (I.hok b u e).stay (fun c v hc q=>k c v ?_ q) (fun _ q=>q) fun _ _ q=>q
  rcases hc with z | z
  ·rw [z]; exact nit b u e
  ·exact nit c _ z
end
noncomputable def ItE (K:PySem.W.Frag) (a:Addr) (xs:List V):It :=
 ⟨fun i H=>i < xs.length /\ SqL K H a xs,fun i H x H'=>∃ v T,xs[i]? = some v /\ x = .ref T /\ H T = none /\ H' = upd H T (.tup [.int (i:Nat),v]),fun i H=>i = xs.length /\ SqL K H a xs⟩
theorem yX3 {P:Program} {w:World} {K:PySem.W.Frag} {elts:List Expr} {kk:Nat} {pos:Pos} (a e li:Addr) (xs:List V) (hne:e ≠ li) :
  Turn P w K (.Tuple elts kk pos) (ItE K a xs) [e,li] e (fun i h=>∃ old,IsEnum h e li ((i:Nat):Int) old /\ h.IsListIter li a i) where
 mem:=by simp
 obj:=fun i h st b hb=>by
  obtain ⟨old,s1,o,e2,c,d⟩:=st
  simp only [List.mem_cons,List.not_mem_nil,or_false] at hb
  rcases hb with rfl | rfl
  ·exact ⟨_,s1,fun v z=>by cases z⟩
  ·exact ⟨o,e2,fun v z=>by rw [d] at z; cases z⟩
 keep:=fun i h h' st k=>let ⟨old,s1,s2⟩:=st; ⟨old,k e (by simp) _ s1,s2.at fun o eo=>k li (by simp) o eo⟩
 item:=by
  intro X hP hw hK hc i pins s σ H E I hf st hg
  subst hP hw hK
  obtain ⟨old,st1,st2⟩:=st
  obtain ⟨hi,hq⟩:=hg
  obtain ⟨its,rv,p,hz⟩:=I.list hq
  have hx:xs[i]? = some xs[i]:=by simp [hi]
  obtain ⟨u,hu,ru⟩:=rv.get hx
  refine wpAny_pyNext_enum_item st1 st2 p.isList (x:=u) (by simpa using hu) hne fun h' jo jl ht hz' kp=>?_
  refine ⟨_,rfl,wpAny_letOwnedTupleGo_enum jo fun h2 he2 sb=>?_⟩
  have sb:Heap.SameBut e h' h2:=sb
  have nTe:s.heap.objs.size ≠ e:=Nat.ne_of_gt (Heap.lt_size st1)
  have nTl:s.heap.objs.size ≠ li:=by
   obtain ⟨o,e2,_⟩:=id st2
   exact Nat.ne_of_gt (Heap.lt_size e2)
  have I1:Inv X pins σ H { s with heap:=h2,toks:=s.toks + 1 }:=I.turns (ch:=[e,li]) (fun b o hb eo=>sb.extBut b o (fun z=>hb (by simp [z])) (kp b o (fun z=>hb (by simp [z])) (fun z=>hb (by simp [z])) eo)) hf
  have hT2:h2.get? s.heap.objs.size = some { cls:=.type "tuple",data:=.seq #[.int i s.toks,u] }:=sb.extBut _ _ nTe ht
  obtain ⟨g0,g1,_,_,g4,g5⟩:=I.fpOk (Nat.le_refl _) I.fresh
  have I2:=I1.track (a:=s.heap.objs.size) (o:=.tup [.int (i:Nat),xs[i]]) g0 (by
   cases q:X.s₀.heap.get? s.heap.objs.size with
   | none=>rfl
   | some ob=>exact absurd (Nat.lt_of_lt_of_le (Heap.lt_size q) I.sz) (Nat.lt_irrefl _)) g1 g4 g5 ⟨zR1 (by simp) |> Nat.le_of_lt,[.int i s.toks,u],.cons ⟨_,rfl⟩ (.cons ru .nil),⟨_,hT2,rfl,_,rfl⟩⟩
  refine ⟨.ref _,_,I2,rfl,⟨xs[i],_,hx,rfl,g0,rfl⟩,⟨_,he2,jl.extBut sb.extBut hne.symm⟩,fun b hb=>?_⟩
  have nb:b ≠ s.heap.objs.size:=by
   simp only [List.mem_cons,List.not_mem_nil,or_false] at hb
   rcases hb with rfl | rfl
   ·exact nTe.symm
   ·exact nTl.symm
  rw [upd_ne nb]; exact (hf b hb).1
 done:=by
  intro X hP hw hK hc i pins s σ H E I hf st hg
  subst hP hw hK
  obtain ⟨old,st1,st2⟩:=st
  obtain ⟨hi,hq⟩:=hg
  obtain ⟨its,rv,p,hz⟩:=I.list hq
  have hl:=rv.length
  exact wpAny_pyNext_enum_end (I.ok.hd hc) st1 st2 p.isList (by simp; omega) fun h' eb=>⟨rfl,I.turns (t':=s.toks) (ch:=[e,li]) (fun b o hb eo=>eb b o (fun z=>hb (by simp [z])) eo) hf⟩
 self:=fun A i s Q E st h=>let ⟨_,st1,_⟩:=st; wpAny_pyIter_enum st1 h
section
variable {X:Cx} {K:PySem.W.Frag}
noncomputable def wA6 (K:PySem.W.Frag) (ta:TA):TI:=fun σ H R=>ta σ H fun vs H1=>∃ a xs,vs = [V.ref a] /\ SqL K H1 a xs /\ R (ItE K a xs) H1
theorem xP6 {elts:List Expr} {kk:Nat} {tpos:Pos} {a:Expr} {ta:TA} {p pos:Pos} (hK:X.K = K) (hg:Gl X "enumerate") (hm:X.mg "enumerate" = none) (ha:PA X [a] ta) (hs:starEach [a] X.env = [(false,eval a X.env)]:=by rfl):PI X (.Tuple elts kk tpos) (.Call (.Name "enumerate" p) [a] [] pos) (wA6 K ta):=by
 subst hK
 intro pins s σ H R I h
 refine Call_ (zQ1 I hg hm yK7 (PyProof.Rows.callWith_type1 (thn (ha pos pins s σ H _ I h) fun us s1 ⟨vs,H1,I1,r1,q1⟩=>?_) hs rfl))
 obtain ⟨b,xs,rfl,hq,q⟩:=q1
 obtain ⟨u,rfl,ru⟩:=zU3 r1
 cases ru
 obtain ⟨its,rv,p,hz⟩:=I1.list hq
 refine call_enumerate_list p.isList fun h' he hl hz kk=>wpAny_pyIter_enum he ?_
 refine ⟨s1.heap.objs.size + 1,[s1.heap.objs.size + 1,s1.heap.objs.size],_,_,H1,rfl,I1.kept (t':=s1.toks) kk,yX3 b (s1.heap.objs.size + 1) s1.heap.objs.size xs (Nat.succ_ne_self _),⟨_,he,hl⟩,fun c hc=>?_,q⟩
 simp only [List.mem_cons,List.not_mem_nil,or_false] at hc
 rcases hc with rfl | rfl
 ·exact I1.fpOk (by omega) (I1.hok.fresh (by omega))
 ·exact I1.fpOk (Nat.le_refl _) (I1.hok.fresh (Nat.le_refl _))
end
theorem xJ2 {K:PySem.W.Frag} {a:Addr} {xs:List V} {g:TG} {tb:TS} {D:Ends} {σ:St} {H:Hp} (Pv:Nat->St->Hp->Prop) (h0:Pv 0 σ H) (hl:∀ i σ H,i <= xs.length->Pv i σ H->SqL K H a xs)
  (hs:∀ i v T σ H,xs[i]? = some v->Pv i σ H->H T = none->g (.ref T) σ (upd H T (.tup [.int (i:Nat),v])) fun σ2 H2=>tb { D with nx:=Pv (i + 1),ct:=Pv (i + 1),bk:=D.nx } σ2 H2) (hd:∀ σ H,Pv xs.length σ H->D.nx σ H) :
  ∃ W:Nat->Nat->St->Hp->Prop,(∃ m,W 0 m σ H) /\ ∀ i m σ H,W i m σ H->((ItE K a xs).stop i H /\ D.nx σ H) \/ ((ItE K a xs).go i H /\ ∃ N:St->Hp->Prop,(∀ σ' H',N σ' H'->∃ m',m' < m /\ W (i + 1) m' σ' H') /\
   ∀ x H',(ItE K a xs).yld i H x H'->g x σ H' fun σ2 H2=>tb { D with nx:=N,ct:=N,bk:=D.nx } σ2 H2):=by
 refine ⟨fun i m σ H=>m = xs.length - i /\ i <= xs.length /\ Pv i σ H,⟨_,rfl,Nat.zero_le _,h0⟩,?_⟩
 rintro i m σ H ⟨rfl,hi,p⟩
 have q:=hl i σ H hi p
 by_cases hlt:i < xs.length
 ·refine .inr ⟨⟨hlt,q⟩,Pv (i + 1),fun σ' H' p'=>⟨xs.length - (i + 1),by omega,rfl,hlt,p'⟩,fun x H' y=>?_⟩
  obtain ⟨v,T,hv,e1,hT,e2⟩:=y
  subst e1 e2
  exact hs i v T σ H hv p hT
 ·have e:i = xs.length:=by omega
  subst e
  exact .inl ⟨⟨rfl,q⟩,hd σ H p⟩
end L2
namespace L2
open PySem PySem.Spec PyProof.Rows
noncomputable def ItVl (d:Addr) (o:Obj) (u:HO) (ps:List (V × V)):It :=
 ⟨fun i H=>i < ps.length /\ H d = some (.frz o u),fun i H x H'=>H' = H /\ ∃ k,ps[i]? = some (k,x),fun i H=>i = ps.length /\ H d = some (.frz o u)⟩
theorem yX0 {P:Program} {w:World} {K:PySem.W.Frag} {tg:Expr} {d it:Addr} {o:Obj} {u:HO} {ps:List (V × V)} {es:Array DictEntry} {ep:Nat} (hx:o.ExactDict) (dat:o.data = .dict es ep) (rel:yW7 ps es.toList) :
  Turn P w K tg (ItVl d o u ps) [it] it (fun i h=>h.IsValIter it d i es.size ep) where
 mem:=by simp
 obj:=fun i h st b hb=>by
  have e:b = it:=by simpa using hb
  subst e
  obtain ⟨o,e,_,d⟩:=st
  exact ⟨o,e,fun v z=>by rw [d] at z; cases z⟩
 keep:=fun i h h' st k=>let ⟨o,e,r⟩:=st; ⟨o,k it (by simp) o e,r⟩
 item:=by
  intro X hP hw hK hc i pins s σ H E I hf st hg
  subst hP hw hK
  obtain ⟨f0,f1,_,f3,f4,f5⟩:=hf it (by simp)
  obtain ⟨hi,hd⟩:=hg
  have hlen:ps.length = es.size:=by rw [rel.length]; simp
  have hi':i < es.size:=by omega
  refine yH7 st ⟨o,(I.hok d _ hd).1,hx,dat⟩ hi' fun h' st' sb=>?_
  obtain ⟨p,hp⟩:∃ p,ps[i]? = some p:=⟨ps[i],by simp [hi]⟩
  obtain ⟨e',he',rk,rv⟩:=yC6 rel hp
  have ee:e' = es[i]:=by
   have:es.toList[i]? = some es[i]:=by simp [hi']
   rw [this] at he'; exact (Option.some.inj he').symm
  subst ee
  have I1:Inv X pins σ H { s with heap:=h',toks:=s.toks }:=I.turned (fun b ob hb e=>sb.extBut b ob hb e) f0 f1 f3 f4 f5
  obtain ⟨oi,ei,ci,di⟩:=id st'
  exact ⟨_,rfl,xD4 (s:={ s with heap:=h',toks:=s.toks }) ei ci di (by decide) ⟨p.2,H,I1,rv,⟨rfl,p.1,hp⟩,st',fun b hb=>(hf b hb).1⟩⟩
 done:=by
  intro X hP hw hK hc i pins s σ H E I hf st hg
  subst hP hw hK
  obtain ⟨f0,f1,_,f3,f4,f5⟩:=hf it (by simp)
  obtain ⟨hi,hd⟩:=hg
  have hlen:ps.length = es.size:=by rw [rel.length]; simp
  exact yR1 (I.ok.hd hc) st ⟨o,(I.hok d _ hd).1,hx,dat⟩ (by rw [hi,hlen]; exact Nat.le_refl _) fun h' eb=>⟨rfl,I.turned (t':=s.toks) (fun b ob hb e=>eb b ob hb e) f0 f1 f3 f4 f5⟩
 self:=fun A i s Q E st h=>wpAny_pyIter_valiter st h
section
variable {X:Cx}
noncomputable def wA2 (tl:TE):TI:=fun σ H R=>tl σ H fun x H1=>∃ v d u,x = .ref v /\ H1 v = some (yM0 v d) /\ H1 d = some u /\ isDk u = true /\ ∀ o ps,Pss H1 u ps->R (ItVl d o u ps) (upd H1 d (.frz o u))
theorem xP4 {tg l:Expr} {tl:TE} (hl:PE X l tl):PI X tg l (wA2 tl):=by
 intro pins s σ H R I h
 refine thn (hl pins s σ H _ I h) fun v s1 ⟨x,H1,I1,r1,q1⟩=>?_
 obtain ⟨vw,d,u,rfl,hv,hd,hu,q⟩:=q1
 cases r1
 obtain ⟨o,es,ep,ps,g,ex,dat,hs,hps,rel⟩:=I1.raw hd hu
 have hv':s1.heap.IsValuesView vw d:=(I1.hok vw _ hv).1
 refine yH8 hv' ⟨o,g,ex,dat⟩ ?_
 have I2:Inv X pins σ H1 _:=I1.kept (t':=s1.toks) (h':=s1.heap.push { cls:=.type "dict_valueiterator",data:=.fields #[.ref d,.int 0 0,.int es.size 0,.int ep 0] }) fun b ob e=>Heap.get?_push_of_some _ e
 refine ⟨s1.heap.objs.size,[s1.heap.objs.size],_,_,_,rfl,I2.freeze hd hu (Heap.get?_push_of_some _ g),yX0 ex dat rel,⟨_,Heap.get?_push_size _ rfl,rfl,rfl⟩,fun b hb=>?_,q o ps hps⟩
 have e:b = s1.heap.objs.size:=by simpa using hb
 subst e
 exact I1.fpOk (Nat.le_refl _) (by rw [upd_ne (zA8 hd I1.fresh).symm]; exact I1.fresh)
end
theorem xJ1 {d:Addr} {o:Obj} {u:HO} {ps:List (V × V)} {g:TG} {tb:TS} {D:Ends} {σ:St} {H:Hp} (Pv:Nat->St->Hp->Prop) (h0:Pv 0 σ H) (hf:∀ i σ H,Pv i σ H->H d = some (.frz o u))
  (hs:∀ i k v σ H,ps[i]? = some (k,v)->Pv i σ H->g v σ H fun σ2 H2=>tb { D with nx:=Pv (i + 1),ct:=Pv (i + 1),bk:=D.nx } σ2 H2) (hd:∀ σ H,Pv ps.length σ H->D.nx σ H) :
  ∃ W:Nat->Nat->St->Hp->Prop,(∃ m,W 0 m σ H) /\ ∀ i m σ H,W i m σ H->((ItVl d o u ps).stop i H /\ D.nx σ H) \/ ((ItVl d o u ps).go i H /\ ∃ N:St->Hp->Prop,(∀ σ' H',N σ' H'->∃ m',m' < m /\ W (i + 1) m' σ' H') /\
   ∀ x H',(ItVl d o u ps).yld i H x H'->g x σ H' fun σ2 H2=>tb { D with nx:=N,ct:=N,bk:=D.nx } σ2 H2):=by
 refine ⟨fun i m σ H=>m = ps.length - i /\ i <= ps.length /\ Pv i σ H,⟨_,rfl,Nat.zero_le _,h0⟩,?_⟩
 rintro i m σ H ⟨rfl,hi,p⟩
 by_cases hlt:i < ps.length
 ·refine .inr ⟨⟨hlt,hf i σ H p⟩,Pv (i + 1),fun σ' H' p'=>⟨ps.length - (i + 1),by omega,rfl,hlt,p'⟩,fun x H' y=>?_⟩
  obtain ⟨e,k,hk⟩:=y
  subst e
  exact hs i k x σ _ hk p
 ·have e:i = ps.length:=by omega
  subst e
  exact .inl ⟨⟨rfl,hf _ σ H p⟩,hd σ H p⟩
theorem zP7 {d:Addr} {o:Obj} {u:HO} {ps:List (V × V)} {g:TG} {tc:TT} {te:TE} {D:Addr} {Z:Hp->Prop} {σ:St} {H:Hp} (Pv:Nat->St->Hp->Prop) (h0:Pv 0 σ H) (hf:∀ i σ H,Pv i σ H->H d = some (.frz o u))
  (hs:∀ i k v σ H,ps[i]? = some (k,v)->Pv i σ H->g k σ H fun σ2 H2=>tc σ2 H2 fun b H3=>if b = true then te σ2 H3 fun y H4=>∃ ys,H4 D = some (.lst ys) /\ ys.length < sizeLine /\ Pv (i + 1) σ2 (upd H4 D (.lst (ys ++ [y]))) else Pv (i + 1) σ2 H3)
  (hd:∀ σ H,Pv ps.length σ H->Z H):zV6 (ItK d o u ps) g tc te D Z σ H:=by
 refine ⟨fun i m σ H=>m = ps.length - i /\ i <= ps.length /\ Pv i σ H,⟨ps.length,by simp,Nat.zero_le _,h0⟩,?_⟩
 rintro i m σ H ⟨rfl,hi,p⟩
 by_cases hlt:i < ps.length
 ·refine .inr ⟨⟨hlt,hf i σ H p⟩,Pv (i + 1),fun σ' H' p'=>⟨ps.length - (i + 1),by omega,rfl,hlt,p'⟩,fun x H' y=>?_⟩
  obtain ⟨e,v,hk⟩:=y
  subst e
  exact hs i x v σ _ hk p
 ·have e:i = ps.length:=by omega
  subst e
  exact .inl ⟨⟨rfl,hf _ σ H p⟩,hd σ H p⟩
end L2
namespace L2
open PySem PySem.Spec PyProof.Rows
theorem xN4:bootBuiltins "zip" = some (.type "zip"):=by decide +kernel
theorem z_ne {x y:Nat} (h:¬ x = y):(x:Addr) ≠ (y:Addr):=h
noncomputable def ItZ (K:PySem.W.Frag) (a b:Addr) (xs ys:List V):It :=
 ⟨fun i H=>i < xs.length /\ i < ys.length /\ SqL K H a xs /\ SqL K H b ys,fun i H x H'=>∃ v u T,xs[i]? = some v /\ ys[i]? = some u /\ x = .ref T /\ H T = none /\ H' = upd H T (.tup [v,u]),fun i H=>(i = xs.length \/ i = ys.length) /\ SqL K H a xs /\ SqL K H b ys⟩
theorem zH2 {h:Heap} {l c:Addr} {its:Array Value} {o:Obj} (hl:h.IsList l its) (hc:h.get? c = some o) (n:o.cls ≠ .type "list"):l ≠ c:=by
 intro e
 subst e
 obtain ⟨o',e1,e2,_⟩:=hl
 rw [hc] at e1
 cases e1
 exact n e2
theorem xG0 {P:Program} {w:World} {K:PySem.W.Frag} {elts:List Expr} {kk:Nat} {pos:Pos} (a b:Addr) (n:Nat) (xs ys:List V) :
  Turn P w K (.Tuple elts kk pos) (ItZ K a b xs ys) [n + 4,n + 2,n + 3,n,n + 1] (n + 4) (fun i h=>IsZip h (n + 4) (n + 2) (n + 3) .none /\ IsPair h (n + 2) (.ref n) (.ref (n + 1)) /\ (∃ u v,IsPair h (n + 3) u v) /\ h.IsListIter n a i /\ h.IsListIter (n + 1) b i) where
 mem:=by simp
 obj:=fun i h st c hb=>by
  obtain ⟨hz,hTI,⟨u,v,hTO⟩,⟨o1,e1,_,d1⟩,⟨o2,e2,_,d2⟩⟩:=st
  simp only [List.mem_cons,List.not_mem_nil,or_false] at hb
  rcases hb with rfl | rfl | rfl | rfl | rfl
  ·exact ⟨_,hz,fun v z=>by cases z⟩
  ·exact ⟨_,hTI,fun v z=>by cases z⟩
  ·exact ⟨_,hTO,fun v z=>by cases z⟩
  ·exact ⟨_,e1,fun v z=>by rw [d1] at z; cases z⟩
  ·exact ⟨_,e2,fun v z=>by rw [d2] at z; cases z⟩
 keep:=fun i h h' st k=>by
  obtain ⟨hz,hTI,⟨u,v,hTO⟩,h1,h2⟩:=st
  exact ⟨k _ (by simp) _ hz,k _ (by simp) _ hTI,⟨u,v,k _ (by simp) _ hTO⟩,h1.at fun o e=>k _ (by simp) o e,h2.at fun o e=>k _ (by simp) o e⟩
 item:=by
  intro X hP hw hK hc i pins s σ H E I hf st hg
  subst hP hw hK
  obtain ⟨hz,hTI,⟨u0,v0,hTO⟩,h1,h2⟩:=st
  obtain ⟨hi,hj,hq1,hq2⟩:=hg
  obtain ⟨its1,rv1,p1,_⟩:=I.list hq1
  obtain ⟨its2,rv2,p2,_⟩:=I.list hq2
  obtain ⟨u,hu,ru⟩:=rv1.get (show xs[i]? = some xs[i] by simp [hi])
  obtain ⟨u',hu',ru'⟩:=rv2.get (show ys[i]? = some ys[i] by simp [hj])
  obtain ⟨o1,e1,c1,d1⟩:=id h1
  obtain ⟨o2,e2,c2,d2⟩:=id h2
  have D:ZipApart (n + 4) (n + 2) (n + 3) n (n + 1) a b:=⟨z_ne (by omega),z_ne (by omega),z_ne (by omega),z_ne (by omega),z_ne (by omega),z_ne (by omega),z_ne (by omega),z_ne (by omega),z_ne (by omega),z_ne (by omega),zH2 p1.isList hz (show (Value.type "zip":Value) ≠ .type "list" by decide),zH2 p1.isList hTO (show (Value.type "tuple":Value) ≠ .type "list" by decide),zH2 p1.isList e1 (by rw [c1]; decide),zH2 p1.isList e2 (by rw [c2]; decide),zH2 p2.isList hz (show (Value.type "zip":Value) ≠ .type "list" by decide),zH2 p2.isList hTO (show (Value.type "tuple":Value) ≠ .type "list" by decide),zH2 p2.isList e1 (by rw [c1]; decide),zH2 p2.isList e2 (by rw [c2]; decide)⟩
  refine wpAny_pyNext_zip_item D hz hTI hTO h1 h2 p1.isList p2.isList (x:=u) (y:=u') (by simpa using hu) (by simpa using hu') fun h' jz jo j1 j2 ht hsz kp=>?_
  refine ⟨_,rfl,wpAny_letOwnedTupleGo_zip jz fun h2' he2 sb=>?_⟩
  have sb:Heap.SameBut (n + 4) h' h2':=sb
  have lt:∀ {c o},s.heap.get? c = some o->s.heap.objs.size ≠ c:=fun e=>Nat.ne_of_gt (Heap.lt_size e)
  have I1:Inv X pins σ H { s with heap:=h2',toks:=s.toks }:=I.turns (ch:=[n + 4,n + 2,n + 3,n,n + 1]) (fun c o hb eo=>sb.extBut c o (fun z=>hb (by simp [z])) (kp c o (fun z=>hb (by simp [z])) (fun z=>hb (by simp [z])) (fun z=>hb (by simp [z])) (fun z=>hb (by simp [z])) eo)) hf
  have hT2:h2'.get? s.heap.objs.size = some { cls:=.type "tuple",data:=.seq #[u,u'] }:=sb.extBut _ _ (lt hz) ht
  obtain ⟨g0,g1,_,_,g4,g5⟩:=I.fpOk (Nat.le_refl _) I.fresh
  have I2:=I1.track (a:=s.heap.objs.size) (o:=.tup [xs[i],ys[i]]) g0 (by
   cases q:X.s₀.heap.get? s.heap.objs.size with
   | none=>rfl
   | some ob=>exact absurd (Nat.lt_of_lt_of_le (Heap.lt_size q) I.sz) (Nat.lt_irrefl _)) g1 g4 g5 ⟨zR1 (by simp) |> Nat.le_of_lt,[u,u'],.cons ru (.cons ru' .nil),⟨_,hT2,rfl,_,rfl⟩⟩
  refine ⟨.ref _,_,I2,rfl,⟨xs[i],ys[i],_,(by simp [hi]),(by simp [hj]),rfl,g0,rfl⟩,⟨he2,sb.extBut _ _ D.TIz (kp _ _ D.TIz D.TITO D.TIi1 D.TIi2 hTI),⟨_,_,sb.extBut _ _ D.TOz jo⟩,j1.extBut sb.extBut D.i1z,j2.extBut sb.extBut D.i2z⟩,fun c hb=>?_⟩
  have nb:c ≠ s.heap.objs.size:=by
   simp only [List.mem_cons,List.not_mem_nil,or_false] at hb
   rcases hb with rfl | rfl | rfl | rfl | rfl
   ·exact (lt hz).symm
   ·exact (lt hTI).symm
   ·exact (lt hTO).symm
   ·exact (lt e1).symm
   ·exact (lt e2).symm
  rw [upd_ne nb]; exact (hf c hb).1
 done:=by
  intro X hP hw hK hc i pins s σ H E I hf st hg
  subst hP hw hK
  obtain ⟨hz,hTI,⟨u0,v0,hTO⟩,h1,h2⟩:=st
  obtain ⟨hi,hq1,hq2⟩:=hg
  obtain ⟨its1,rv1,p1,_⟩:=I.list hq1
  obtain ⟨its2,rv2,p2,_⟩:=I.list hq2
  obtain ⟨o1,e1,c1,d1⟩:=id h1
  obtain ⟨o2,e2,c2,d2⟩:=id h2
  have D:ZipApart (n + 4) (n + 2) (n + 3) n (n + 1) a b:=⟨z_ne (by omega),z_ne (by omega),z_ne (by omega),z_ne (by omega),z_ne (by omega),z_ne (by omega),z_ne (by omega),z_ne (by omega),z_ne (by omega),z_ne (by omega),zH2 p1.isList hz (show (Value.type "zip":Value) ≠ .type "list" by decide),zH2 p1.isList hTO (show (Value.type "tuple":Value) ≠ .type "list" by decide),zH2 p1.isList e1 (by rw [c1]; decide),zH2 p1.isList e2 (by rw [c2]; decide),zH2 p2.isList hz (show (Value.type "zip":Value) ≠ .type "list" by decide),zH2 p2.isList hTO (show (Value.type "tuple":Value) ≠ .type "list" by decide),zH2 p2.isList e1 (by rw [c1]; decide),zH2 p2.isList e2 (by rw [c2]; decide)⟩
  have l1:=rv1.length
  have l2:=rv2.length
  refine wpAny_pyNext_zip_end (I.ok.hd hc) D hz hTI hTO h1 h2 p1.isList p2.isList ?_ fun h' kp=>⟨rfl,I.turns (t':=s.toks) (ch:=[n + 4,n + 2,n + 3,n,n + 1]) (fun c o hb eo=>kp c o (fun z=>hb (by simp [z])) (fun z=>hb (by simp [z])) (fun z=>hb (by simp [z])) (fun z=>hb (by simp [z])) eo) hf⟩
  rcases hi with e | e
  ·exact .inl (by simp; omega)
  ·exact .inr (by simp; omega)
 self:=fun A i s Q E st h=>wpAny_pyIter_zip st.1 h
section
variable {X:Cx} {K:PySem.W.Frag}
noncomputable def iZip (K:PySem.W.Frag) (ta:TA):TI:=fun σ H R=>ta σ H fun vs H1=>∃ a b xs ys,vs = [V.ref a,V.ref b] /\ SqL K H1 a xs /\ SqL K H1 b ys /\ R (ItZ K a b xs ys) H1
theorem xT8 {elts:List Expr} {kk:Nat} {tpos:Pos} {a b:Expr} {ta:TA} {p pos:Pos} (hK:X.K = K) (hg:Gl X "zip") (hm:X.mg "zip" = none) (ha:PA X [a,b] ta) (hs:starEach [a,b] X.env = (false,eval a X.env) :: starEach [b] X.env:=by rfl) (hs2:starEach [b] X.env = [(false,eval b X.env)]:=by rfl):PI X (.Tuple elts kk tpos) (.Call (.Name "zip" p) [a,b] [] pos) (iZip K ta):=by
 subst hK
 intro pins s σ H R I h
 refine Call_ (zQ1 I hg hm xN4 (PyProof.Rows.callWith_type1 (thn (ha pos pins s σ H _ I h) fun us s1 ⟨vs,H1,I1,r1,q1⟩=>?_) hs (by rw [hs2]; rfl)))
 obtain ⟨b1,b2,xs,ys,rfl,hq1,hq2,q⟩:=q1
 obtain ⟨u,u',rfl,ru,ru'⟩:=xO0 r1
 cases ru
 cases ru'
 obtain ⟨its1,rv1,p1,hz1⟩:=I1.list hq1
 obtain ⟨its2,rv2,p2,hz2⟩:=I1.list hq2
 refine call_zip_2 p1.isList p2.isList fun h' jz jt jo j1 j2 hsz kp=>wpAny_pyIter_zip jz ?_
 refine ⟨s1.heap.objs.size + 4,[s1.heap.objs.size + 4,s1.heap.objs.size + 2,s1.heap.objs.size + 3,s1.heap.objs.size,s1.heap.objs.size + 1],_,_,H1,rfl,I1.kept (t':=s1.toks) kp,xG0 b1 b2 s1.heap.objs.size xs ys,⟨jz,jt,⟨_,_,jo⟩,j1,j2⟩,fun c hc=>?_,q⟩
 simp only [List.mem_cons,List.not_mem_nil,or_false] at hc
 rcases hc with rfl | rfl | rfl | rfl | rfl <;> exact I1.fpOk (by omega) (I1.hok.fresh (by omega))
end
end L2
namespace L2
open PySem PySem.Spec PyProof.Rows
section
variable {X:Cx} {K:PySem.W.Frag}
end
end L2
namespace L2
open PySem PySem.Spec PyProof.Rows
end L2
namespace L2
open PySem PySem.Spec PyProof.Rows
section
variable {X:Cx}
end
end L2
namespace L2
open PySem PySem.Spec PyProof.Rows
section
variable {prog:Program} {w:World} {A:Around} {E:Value->Shared->Prop} {s:Shared}
variable {Kt:Type} [DecidableEq Kt] {knd:KeyKind prog w Kt}
open SeqAt in
open SeqAt in
end
end L2
namespace L2
open PySem PySem.Spec PyProof.Rows
section
variable {X:Cx} {K:PySem.W.Frag}
end
end L2
namespace L2
open PySem PySem.Spec PyProof.Rows
section
variable {prog:Program} {w:World} {A:Around} {E:Value->Shared->Prop} {s:Shared} {d:Addr} {es:Array DictEntry} {ep:Nat}
theorem yU8 (hh:A.handled = none) (I d:Addr) (hne:d ≠ I) (es:Array DictEntry) (ep:Nat):Walks prog w A I [I,d] [I] es.size (fun i v=>∃ e,es[i]? = some e /\ v = e.key) (fun i h=>h.IsKeyIter I d i es.size ep /\ RawD h d es ep) where
 sub:=fun b hb=>by simp at hb; simp [hb]
 frame:=fun _ _ _ st k=>⟨let ⟨o,e,r⟩:=st.1; ⟨o,k I (by simp) o e,r⟩,st.2.at fun o e=>k d (by simp) o e⟩
 item:=fun i s Q E hi st q=>yH9 st.1 st.2 hi fun h' st' sb=>q _ h' s.toks ⟨es[i],by simp [hi],rfl⟩ ⟨st',st.2.at fun o e=>sb.extBut d o hne e⟩ fun b o hb e=>sb.extBut b o (fun z=>hb (by simp [z])) e
 done:=fun s Q E st q=>yR2 hh st.1 st.2 (Nat.le_refl _) fun h' eb=>q h' s.toks fun b o hb e=>eb b o (fun z=>hb (by simp [z])) e
 self:=fun _ _ _ _ st q=>wpAny_pyIter_keyiter st.1 q
theorem yQ2 (hs:(d == sysModules) = false):PySem.W.KdlSrc prog w "dict" d d es.size (fun i v=>∃ e,es[i]? = some e /\ v = e.key) (fun h=>RawD h d es ep) where
 type:=fun _ hm=>hm.ty
 there:=fun _ hm=>⟨let ⟨_,ho,_⟩:=hm; Heap.lt_size ho,let ⟨_,ho,_⟩:=hm; Heap.lt_size ho⟩
 keep:=fun _ _ hm k=>hm.at fun o e=>k d (.inr rfl) o e
 notList:=by decide
 notTuple:=by decide
 hint:=fun _ _ _ _ hm q=>PySem.W.kdl_hint_dict hm.ty q
 iter:=fun _ _ hh hm=>⟨_,_,(fun _ _ q=>yI0 hs hm q),yU8 hh _ d (Nat.ne_of_lt (let ⟨_,ho,_⟩:=hm; Heap.lt_size ho)) es ep,⟨⟨_,Heap.get?_push_size _ rfl,rfl,rfl⟩,hm.at fun o e=>Heap.get?_push_of_some _ e⟩⟩
end
section
variable {X:Cx} {K:PySem.W.Frag}
theorem zQ3 (hc:X.calm = true):zO3 X (.type "list") (fun xs H Q=>∃ d u,xs = [V.ref d] /\ H d = some u /\ isDk u = true /\ ∀ ps,Pss H u ps->∀ l,H l = none->Q (.ref l) (upd H l (.lst (ps.map (·.1))))):=by
 intro pins s σ H xs us Q I r h
 obtain ⟨d,u,rfl,hd,hu,q⟩:=h
 obtain ⟨w0,rfl,rw0⟩:=zU3 r
 cases rw0
 obtain ⟨o,es,ep,ps,g,ex,dat,hs,hps,rel⟩:=I.raw hd hu
 have hl:=xN2 hps hu I hd
 have hlen:ps.length = es.size:=by rw [rel.length]; simp
 refine PySem.W.kdl_call (yQ2 (es:=es) (ep:=ep) hs) (I.ok.hd hc) ⟨o,g,ex,dat⟩ (by omega) fun h' tk acc c kk hD hacc=>?_
 have vr:Vals (ps.map (·.1)) acc.toList:=by
  have e1:acc.toList = es.toList.map (·.key):=by
   apply List.ext_getElem?
   intro j
   rw [List.getElem?_map]
   by_cases hj:j < es.size
   ·have hj2:j < acc.size:=by rw [hacc.1]; exact hj
    obtain ⟨e,he,hv⟩:=hacc.2 j acc[j] (by simp [hj2])
    have e2:es.toList[j]? = some e:=by simpa using he
    rw [e2]
    simp [hj2,hv]
   ·have hj2:¬ j < acc.size:=by rw [hacc.1]; exact hj
    rw [List.getElem?_eq_none (by simp; omega),List.getElem?_eq_none (by simp; omega)]; rfl
  rw [e1]
  clear hlen hl hps e1 hacc
  generalize es.toList = el at rel
  induction rel with
  | nil=>exact .nil
  | cons h t ih=>exact .cons h.1 ih
 refine ⟨.ref _,_,I.laid (a:=s.heap.objs.size) (o:=.lst (ps.map (·.1))) (t':=tk) kk (Nat.le_refl _) ⟨by rw [List.length_map]; exact hl,acc.toList,c,vr,by simpa using hD⟩,rfl,q ps hps _ I.fresh⟩
end
end L2
namespace L2
open PySem PySem.Spec PyProof.Rows
section
variable {X:Cx}
end
end L2
namespace L2
open PySem PySem.Spec PyProof.Rows
theorem yO9 {d:Addr} {o:Obj} {u:HO} {ps:List (V × V)} {g:TG} {tc:TT} {te:TE} {D:Addr} {Z:Hp->Prop} {σ:St} {H:Hp} (Pv:Nat->St->Hp->Prop) (h0:Pv 0 σ H) (hf:∀ i σ H,Pv i σ H->H d = some (.frz o u))
  (hs:∀ i k v T σ H,ps[i]? = some (k,v)->Pv i σ H->H T = none->g (.ref T) σ (upd H T (.tup [k,v])) fun σ2 H2=>tc σ2 H2 fun b H3=>if b = true then te σ2 H3 fun y H4=>∃ ys,H4 D = some (.lst ys) /\ ys.length < sizeLine /\ Pv (i + 1) σ2 (upd H4 D (.lst (ys ++ [y]))) else Pv (i + 1) σ2 H3)
  (hd:∀ σ H,Pv ps.length σ H->Z H):zV6 (ItD d o u ps) g tc te D Z σ H:=by
 refine ⟨fun i m σ H=>m = ps.length - i /\ i <= ps.length /\ Pv i σ H,⟨ps.length,by simp,Nat.zero_le _,h0⟩,?_⟩
 rintro i m σ H ⟨rfl,hi,p⟩
 by_cases hlt:i < ps.length
 ·refine .inr ⟨⟨hlt,hf i σ H p⟩,Pv (i + 1),fun σ' H' p'=>⟨ps.length - (i + 1),by omega,rfl,hlt,p'⟩,fun x H' y=>?_⟩
  obtain ⟨k,v,T,hk,e1,hT,e2⟩:=y
  subst e1 e2
  exact hs i k v T σ _ hk p hT
 ·have e:i = ps.length:=by omega
  subst e
  exact .inl ⟨⟨rfl,hf _ σ H p⟩,hd σ H p⟩
theorem xF5 {K:PySem.W.Frag} {a b:Addr} {xs ys:List V} {g:TG} {tc:TT} {te:TE} {D:Addr} {Z:Hp->Prop} {σ:St} {H:Hp} (Pv:Nat->St->Hp->Prop) (hlen:xs.length = ys.length) (h0:Pv 0 σ H) (hl:∀ i σ H,i <= xs.length->Pv i σ H->SqL K H a xs /\ SqL K H b ys)
  (hs:∀ i v u T σ H,xs[i]? = some v->ys[i]? = some u->Pv i σ H->H T = none->g (.ref T) σ (upd H T (.tup [v,u])) fun σ2 H2=>tc σ2 H2 fun b H3=>if b = true then te σ2 H3 fun y H4=>∃ ys,H4 D = some (.lst ys) /\ ys.length < sizeLine /\ Pv (i + 1) σ2 (upd H4 D (.lst (ys ++ [y]))) else Pv (i + 1) σ2 H3)
  (hd:∀ σ H,Pv xs.length σ H->Z H):zV6 (ItZ K a b xs ys) g tc te D Z σ H:=by
 refine ⟨fun i m σ H=>m = xs.length - i /\ i <= xs.length /\ Pv i σ H,⟨xs.length,by simp,Nat.zero_le _,h0⟩,?_⟩
 rintro i m σ H ⟨rfl,hi,p⟩
 obtain ⟨q1,q2⟩:=hl i σ H hi p
 by_cases hlt:i < xs.length
 ·refine .inr ⟨⟨hlt,by omega,q1,q2⟩,Pv (i + 1),fun σ' H' p'=>⟨xs.length - (i + 1),by omega,rfl,hlt,p'⟩,fun x H' y=>?_⟩
  obtain ⟨v,u,T,hv,hu,e1,hT,e2⟩:=y
  subst e1 e2
  exact hs i v u T σ H hv hu p hT
 ·have e:i = xs.length:=by omega
  subst e
  exact .inl ⟨⟨.inl rfl,q1,q2⟩,hd σ H p⟩
section
variable {X:Cx} {K:PySem.W.Frag}
end
end L2
namespace L2
end L2
namespace L2
open PySem PySem.Spec PyProof.Rows
section
variable {X:Cx}
end
end L2
namespace L2
open PySem PySem.Spec PyProof.Rows
section
variable {prog:Program} {w:World} {A:Around} {R:Result->Shared->Prop} {I:Addr} {fp wr:List Addr} {G:Array GenState->Array GenState->Prop} {P:Nat->Value->Prop} {St:Nat->Shared->Prop}
end
section
variable {prog:Program} {w:World} {A:Around} {E:Value->Shared->Prop} {s:Shared}
end
section
variable {X:Cx}
end
end L2
namespace L2
open PySem PySem.Spec PyProof.Rows
section
variable {P:Program} {w:World} {A:Around} {E:Value->Shared->Prop} {s:Shared}
end
section
variable {X:Cx} {K:PySem.W.Frag}
end
end L2
namespace L2
open PySem PySem.Spec PyProof.Rows
section
variable {prog:Program} {w:World} {A:Around} {E:Value->Shared->Prop} {h:Heap} {g:Array GenState} {d:Drawn} {t:Nat} {os:OsState} {a:Addr} {fs:Array Value}
end
section
variable {P:Program} {w:World} {A:Around} {E:Value->Shared->Prop} {s:Shared}
theorem yU4 {a:Addr} {o:Obj} {Q:Option Obj->Shared->Prop} (ho:s.heap.get? a = some o) (q:Q (some o) s):wpAny (model P w) A (loadIfAlive a) Q E s:=by
 rw [<- ho] at q
 exact fun _ _ _=>q
theorem yV6 {a:Addr} {x y:Value} {Q:List Value->Shared->Prop} (ha:s.heap.get? a = some { cls:=.type "tuple",data:=.seq #[x,y] }) (q:Q [x,y] s):wpAny (model P w) A (Builtin.Dict.pairItems (.ref a)) Q E s:=by
 have ty:s.TypeIs (.ref a) "tuple":=⟨_,ha,rfl⟩
 unfold Builtin.Dict.pairItems
 refine wpAny_bind (wpAny_typeOf ty ?_)
 rw [if_pos (by decide)]
 exact wpAny_bind (wpAny_seqItems ha rfl (wpAny_pure q))
theorem yJ8:entryFor table "dict.update.loop" = some Builtin.«dict.update.loop»:=entryFor_of_tree (by kernel_rfl)
theorem zR4:plainId "dict.update.loop" = true:=by decide +kernel
end
section
variable {P:Program} {w:World} {A:Around} {E:Value->Shared->Prop} {s:Shared}
end
section
variable {X:Cx} {e:Expr}
end
end L2
namespace L2
open PySem PySem.Spec PyProof.Rows
section
variable {X:Cx} {K:PySem.W.Frag}
end
end L2
namespace L2
open PySem PySem.Spec PyProof.Rows
open AutoSeq1 (wpAny_loadPart')
section
variable {P:Program} {w:World} {A:Around} {E:Value->Shared->Prop} {s:Shared}
end
section
variable {X:Cx} {K:PySem.W.Frag}
end
end L2
namespace L2
open PySem PySem.Spec PyProof.Rows
end L2
namespace L2
open PySem PySem.Spec PyProof.Rows
section
variable {X:Cx}
end
end L2
namespace L2
open PySem PySem.Spec PyProof.Rows
section
variable {X:Cx} {K:PySem.W.Frag}
end
end L2
namespace L2
open PySem PySem.Spec PyProof.Rows
section
variable {X:Cx} {K:PySem.W.Frag}
end
end L2
namespace L2
open PySem PySem.Spec PyProof.Rows
section
variable {X:Cx} {K:PySem.W.Frag}
end
end L2
namespace L2
open PySem PySem.Spec PyProof.Rows
section
variable {X:Cx} {K:PySem.W.Frag}
end
end L2
namespace L2
open PySem PySem.Spec PyProof.Rows
section
variable {X:Cx} {K:PySem.W.Frag}
end
end L2
namespace L2
open PySem PySem.Spec PyProof.Rows
section
variable {X:Cx} {K:PySem.W.Frag}
end
end L2
namespace L2
open PySem PySem.Spec PyProof.Rows
section
variable {prog:Program} {w:World} {A:Around} {R:Result->Shared->Prop} {I:Addr} {fp wr:List Addr} {G:Array GenState->Array GenState->Prop} {P:Nat->Value->Prop} {St:Nat->Shared->Prop}
end
section
variable {prog:Program} {w:World} {A:Around} {E:Value->Shared->Prop} {s:Shared}
end
section
variable {X:Cx}
end
end L2
namespace L2
open PySem PySem.Spec PyProof.Rows
section
variable {X:Cx} {K:PySem.W.Frag}
end
end L2
namespace L2
open PySem PySem.Spec PyProof.Rows
section
variable {X:Cx} {K:PySem.W.Frag}
end
end L2
namespace Tc
noncomputable def sN (n:Nat) (f:Nat->Rat):Rat:=sumL (List.range n) f
theorem yM3 (f:Nat->Rat):sN 0 f = 0:=rfl
theorem zK7 (n:Nat) (f:Nat->Rat):sN (n + 1) f = sN n f + f n:=by
 unfold sN; rw [List.range_succ,zV7]
theorem zR2 {n:Nat} {f g:Nat->Rat} (h:∀ i,i < n->f i = g i):sN n f = sN n g:=by
 induction n with
 | zero=>rfl
 | succ n ih=>rw [zK7,zK7,ih fun i hi=>h i (by omega),h n (by omega)]
theorem yZ4 (n:Nat) (f g:Nat->Rat) (a b:Rat):sN n (fun i=>f i * a + g i * b) = sN n f * a + sN n g * b:=by
 induction n with
 | zero=>rw [yM3,yM3,yM3]; grind
 | succ n ih=>rw [zK7,zK7,zK7,ih]; grind
theorem yZ3 {n:Nat} {f:Nat->Rat} (h:∀ i,i < n->f i = 0):sN n f = 0:=by
 induction n with
 | zero=>rfl
 | succ n ih=>rw [zK7,ih fun i hi=>h i (by omega),h n (by omega)]; grind
theorem yZ2 {n k:Nat} {f:Nat->Rat} (hk:k < n) (h:∀ i,i < n->i ≠ k->f i = 0):sN n f = f k:=by
 induction n with
 | zero=>omega
 | succ n ih =>
  rw [zK7]
  by_cases e:k = n
  ·subst e
   rw [yZ3 fun i hi=>h i (by omega) (by omega)]; grind
  ·rw [ih (by omega) fun i hi=>h i (by omega),h n (by omega) (fun q=>e q.symm)]; grind
noncomputable def dotR (n:Nat) (r y:Nat->Rat):Rat:=sN (n + 1) fun j=>r j * y j
noncomputable def KerM (n:Nat) (M:Nat->Nat->Rat) (y:Nat->Rat):Prop:=∀ i,i < n->dotR n (M i) y = 0
noncomputable def zP8 (M:Nat->Nat->Rat) (a b:Nat):Nat->Nat->Rat:=fun i=>if i = b then M a else if i = a then M b else M i
noncomputable def pivM (M:Nat->Nat->Rat) (c k:Nat):Nat->Nat->Rat:=fun i j=>if i = c then M c j / M c k else M i j - M c j / M c k * M i k
theorem KerM.unpiv {n:Nat} {M:Nat->Nat->Rat} {c k:Nat} {y:Nat->Rat} (hc:c < n) (hp:M c k ≠ 0) (h:KerM n (pivM M c k) y):KerM n M y:=by
 have h0:dotR n (M c) y = 0:=by
  have:=h c hc
  unfold dotR pivM at this
  rw [zR2 (g:=fun j=>(M c j * y j) * (1 / M c k) + (0:Rat) * 0)] at this
  ·rw [yZ4 (g:=fun _=>0)] at this
   unfold dotR
   grind
  ·intro i hi
   simp only [if_true]
   grind
 intro i hi
 by_cases e:i = c
 ·rw [e]; exact h0
 ·have:=h i hi
  unfold dotR pivM at this
  rw [zR2 (g:=fun j=>(M i j * y j) * 1 + (M c j * y j) * (-(M i k / M c k)))] at this
  ·rw [yZ4] at this
   have h0':sN (n + 1) (fun j=>M c j * y j) = 0:=h0
   unfold dotR
   rw [h0'] at this
   grind
  ·intro j hj
   rw [if_neg e]
   grind
theorem KerM.unswap {n:Nat} {M:Nat->Nat->Rat} {a b:Nat} {y:Nat->Rat} (ha:a < n) (hb:b < n) (h:KerM n (zP8 M a b) y):KerM n M y:=by
 intro i hi
 by_cases e:i = a
 ·have:=h b hb
  unfold zP8 at this
  rw [if_pos rfl] at this
  rw [e]; exact this
 ·by_cases e2:i = b
  ·have:=h a ha
   unfold zP8 at this
   rw [if_pos rfl] at this
   by_cases e3:a = b
   ·exact absurd (e2.trans e3.symm) e
   ·rw [if_neg e3] at this
    rw [e2]; exact this
  ·have:=h i hi
   unfold zP8 at this
   rw [if_neg e2,if_neg e] at this
   exact this
noncomputable def ClrM (n:Nat) (M:Nat->Nat->Rat) (c:Nat):Prop:=∀ i,i < n->∀ j,j < c->M i j = if i = j then 1 else 0
theorem ClrM.swap {n:Nat} {M:Nat->Nat->Rat} {c a:Nat} (h:ClrM n M c) (hc:c < n) (ha:c <= a) (han:a < n):ClrM n (zP8 M a c) c:=by
 intro i hi j hj
 unfold zP8
 by_cases e:i = c
 ·rw [if_pos e,h a han j hj,if_neg (by omega),if_neg (by omega)]
 ·rw [if_neg e]
  by_cases e2:i = a
  ·rw [if_pos e2,h c hc j hj,if_neg (by omega),if_neg (by omega)]
  ·rw [if_neg e2]; exact h i hi j hj
theorem ClrM.piv {n:Nat} {M:Nat->Nat->Rat} {c:Nat} (h:ClrM n M c) (hc:c < n) (hp:M c c ≠ 0):ClrM n (pivM M c c) (c + 1):=by
 intro i hi j hj
 unfold pivM
 by_cases ej:j = c
 ·subst ej
  by_cases e:i = j
  ·rw [if_pos e,if_pos e]; grind
  ·rw [if_neg e,if_neg e]; grind
 ·have hj':j < c:=by omega
  have z:M c j = 0:=by rw [h c hc j hj',if_neg (by omega)]
  by_cases e:i = c
  ·rw [if_pos e,z,if_neg (by omega)]; grind
  ·rw [if_neg e,z,h i hi j hj']; grind
theorem xA5 {n:Nat} {A M:Nat->Nat->Rat} {c:Nat} (hc:c < n) (h:ClrM n M c) (hk:∀ y,KerM n M y->KerM n A y) (hA:∀ y,y n = 0->KerM n A y->∀ j,j < n->y j = 0):∃ a,c <= a /\ a < n /\ M a c ≠ 0:=by
 by_cases q:∃ a,c <= a /\ a < n /\ M a c ≠ 0
 ·exact q
 ·exfalso
  have q:∀ a,c <= a->a < n->M a c = 0:=fun a h1 h2=>by
   by_cases e:M a c = 0
   ·exact e
   ·exact absurd ⟨a,h1,h2,e⟩ q
  let y:Nat->Rat:=fun j=>if j < c then -M j c else if j = c then 1 else 0
  have ky:KerM n M y:=by
   intro i hi
   unfold dotR
   have e:∀ m,c < m->m <= n + 1->sN m (fun j=>M i j * y j) = (if i < c then -M i c else 0) + M i c:=by
    intro m
    induction m with
    | zero=>intro z; omega
    | succ m ih =>
     intro h1 h2
     rw [zK7]
     by_cases e:m = c
     ·subst e
      have e1:y m = 1:=by simp [y]
      rw [e1]
      have e2:sN m (fun j=>M i j * y j) = if i < m then -M i m else 0:=by
       by_cases e3:i < m
       ·rw [if_pos e3,yZ2 e3]
        ·rw [h i hi i e3,if_pos rfl]
         simp [y,e3]
         try grind
        ·intro j hj hne
         rw [h i hi j hj,if_neg (by omega)]; grind
       ·rw [if_neg e3]
        refine yZ3 fun j hj=>?_
        rw [h i hi j hj,if_neg (by omega)]; grind
      rw [e2]; grind
     ·rw [ih (by omega) (by omega)]
      have e1:y m = 0:=by
       simp only [y]
       rw [if_neg (by omega),if_neg e]
      rw [e1]; grind
   rw [e (n + 1) (by omega) (Nat.le_refl _)]
   by_cases e3:i < c
   ·rw [if_pos e3]; grind
   ·rw [if_neg e3,q i (by omega) hi]; grind
  have e0:=hA y (by simp only [y]; rw [if_neg (by omega),if_neg (by omega)]) (hk y ky) c hc
  simp [y] at e0
theorem yY9 {n:Nat} {A M:Nat->Nat->Rat} (h:ClrM n M n) (hk:∀ y,KerM n M y->KerM n A y):∀ i,i < n->sN n (fun j=>A i j * M j n) = A i n:=by
 let y:Nat->Rat:=fun j=>if j < n then M j n else -1
 have ky:KerM n M y:=by
  intro i hi
  unfold dotR
  rw [zK7,yZ2 hi]
  ·rw [h i hi i hi,if_pos rfl]
   simp only [y]
   rw [if_pos hi,if_neg (by omega)]; grind
  ·intro j hj hne
   rw [h i hi j hj,if_neg (by omega)]; grind
 intro i hi
 have:=hk y ky i hi
 unfold dotR at this
 rw [zK7] at this
 have e:sN n (fun j=>A i j * y j) = sN n (fun j=>A i j * M j n):=zR2 fun j hj=>by
  simp only [y]; rw [if_pos hj]
 rw [e] at this
 simp only [y] at this
 rw [if_neg (by omega)] at this
 grind
noncomputable def Cd (D N:Nat) (r:Rat):Prop:=∃ m:Int,r * (D:Rat) = (m:Rat) /\ m.natAbs <= N
theorem Cd.mono {D N N':Nat} {r:Rat} (h:Cd D N r) (hn:N <= N'):Cd D N' r:=let ⟨m,e,l⟩:=h; ⟨m,e,Nat.le_trans l hn⟩
theorem Cd.mul {D N E W:Nat} {r q:Rat} (h:Cd D N r) (g:Cd E W q):Cd (D * E) (N * W) (r * q):=by
 obtain ⟨m,e,l⟩:=h
 obtain ⟨k,f,u⟩:=g
 refine ⟨m * k,?_,by rw [Int.natAbs_mul]; exact Nat.mul_le_mul l u⟩
 rw [Rat.natCast_mul,Rat.intCast_mul,<- e,<- f]; grind
theorem Cd.add {D N W:Nat} {r q:Rat} (h:Cd D N r) (g:Cd D W q):Cd D (N + W) (r + q):=by
 obtain ⟨m,e,l⟩:=h
 obtain ⟨k,f,u⟩:=g
 refine ⟨m + k,?_,by omega⟩
 rw [Rat.intCast_add,<- e,<- f]; grind
theorem Cd.neg {D N:Nat} {r:Rat} (h:Cd D N r):Cd D N (-r):=by
 obtain ⟨m,e,l⟩:=h
 refine ⟨-m,?_,by omega⟩
 rw [Rat.intCast_neg,<- e]; grind
theorem Cd.sub {D N W:Nat} {r q:Rat} (h:Cd D N r) (g:Cd D W q):Cd D (N + W) (r - q):=by
 have:=h.add g.neg
 rw [<- Rat.sub_eq_add_neg] at this
 exact this
theorem Cd.zero (D N:Nat):Cd D N 0:=⟨0,by rw [Rat.zero_mul]; rfl,Nat.zero_le _⟩
theorem Cd.one (D:Nat):Cd D D 1:=⟨D,by rw [Rat.one_mul]; rfl,by simp⟩
theorem Cd.up {D N:Nat} {r:Rat} (h:Cd D N r) (d:Nat):Cd (D * d) (N * d) r:=by
 have:=h.mul (Cd.one d)
 rw [Rat.mul_one] at this; exact this
theorem Cd.of {D k:Nat} {r:Rat} (h:IsM D k r):Cd D (k * D) r:=by
 obtain ⟨_,m,l,e⟩:=h
 exact ⟨m,by rw [e]; rfl,by simpa using l⟩
structure BdM (n:Nat) (M:Nat->Nat->Rat) (D N E W:Nat):Prop where
 d0:0 < D
 dn:D <= N
 e0:0 < E
 ew:E <= W
 co:∀ i,i < n->∀ j,j < n->Cd D N (M i j)
 la:∀ i,i < n->Cd E W (M i n)
theorem wA1 {m:Int} {x:Rat} {D:Nat} (e:x * (D:Rat) = (m:Rat)) (hx:x ≠ 0) (hD:0 < D):m ≠ 0:=by
 intro z
 subst z
 have:=xB6 hD
 have e:x * (D:Rat) = 0:=e
 rcases Rat.mul_eq_zero.mp e with q | q
 ·exact hx q
 ·exact this q
theorem xK3 (m:Int):∃ s:Int,(s = 1 \/ s = -1) /\ (m.natAbs:Int) = m * s:=by
 by_cases h:0 <= m
 ·exact ⟨1,.inl rfl,by omega⟩
 ·exact ⟨-1,.inr rfl,by omega⟩
theorem yL5 (m:Int):∃ s:Int,s.natAbs = 1 /\ ((m.natAbs:Nat):Rat) = (m:Rat) * (s:Rat):=by
 obtain ⟨s,h,e⟩:=xK3 m
 have e2:((m.natAbs:Nat):Rat) = (((m.natAbs:Nat):Int):Rat):=rfl
 refine ⟨s,by rcases h with rfl | rfl <;> rfl,by rw [e2,e,Rat.intCast_mul]⟩
theorem Cd.lead {D N E W:Nat} {b x:Rat} {m:Int} (hb:Cd E W b) (e:x * (D:Rat) = (m:Rat)) (hx:x ≠ 0) (hD:0 < D) (hN:D <= N):Cd (E * m.natAbs) (W * N) (b / x):=by
 obtain ⟨k,f,u⟩:=hb
 obtain ⟨s,hs,e2⟩:=yL5 m
 refine ⟨k * D * s,?_,?_⟩
 ·rw [Rat.natCast_mul,Rat.intCast_mul,Rat.intCast_mul,e2,<- e,<- f]
  have:((D:Int):Rat) = (D:Rat):=rfl
  rw [this]
  grind
 ·rw [Int.natAbs_mul,Int.natAbs_mul,hs,Nat.mul_one]
  exact Nat.mul_le_mul u (by simpa using hN)
theorem Cd.took {D N E W:Nat} {b x c:Rat} {m:Int} (hb:Cd E W b) (hc:Cd D N c) (e:x * (D:Rat) = (m:Rat)) (hx:x ≠ 0) (hD:0 < D):Cd (E * m.natAbs) (W * N) (b / x * c):=by
 obtain ⟨k,f,u⟩:=hb
 obtain ⟨l,g,v⟩:=hc
 obtain ⟨s,hs,e2⟩:=yL5 m
 refine ⟨k * l * s,?_,?_⟩
 ·rw [Rat.natCast_mul,Rat.intCast_mul,Rat.intCast_mul,e2,<- e,<- f,<- g]
  have:=xB6 hD
  grind
 ·rw [Int.natAbs_mul,Int.natAbs_mul,hs,Nat.mul_one]
  exact Nat.mul_le_mul u v
theorem Cd.stay {D N E W:Nat} {b x:Rat} {m:Int} (hb:Cd E W b) (hx:Cd D N x) (e:x * (D:Rat) = (m:Rat)) (hD:0 < D):Cd (E * m.natAbs) (W * N) b:=by
 have hm:m.natAbs <= N:=by
  obtain ⟨k,f,u⟩:=hx
  have:(k:Rat) = (m:Rat):=f.symm.trans e
  have:k = m:=by exact_mod_cast this
  rw [<- this]; exact u
 exact (hb.up m.natAbs).mono (Nat.mul_le_mul (Nat.le_refl _) hm)
theorem BdM.swap {n a b D N E W:Nat} {M:Nat->Nat->Rat} (h:BdM n M D N E W) (ha:a < n) (hb:b < n):BdM n (zP8 M a b) D N E W:=by
 refine ⟨h.d0,h.dn,h.e0,h.ew,fun i hi j hj=>?_,fun i hi=>?_⟩
 ·unfold zP8; split
  ·exact h.co a ha j hj
  ·split
   ·exact h.co b hb j hj
   ·exact h.co i hi j hj
 ·unfold zP8; split
  ·exact h.la a ha
  ·split
   ·exact h.la b hb
   ·exact h.la i hi
theorem BdM.piv {n c k D N E W:Nat} {M:Nat->Nat->Rat} (h:BdM n M D N E W) (hc:c < n) (hk:k < n) (hp:M c k ≠ 0) :
  ∃ D' E',BdM n (pivM M c k) D' (2 * (N * N)) E' (2 * (W * N)) /\ (∀ i,i < n->∀ j,j < n->Cd D' (2 * (N * N)) (M c j / M c k * M i k)) /\ ∀ i,i < n->Cd E' (2 * (W * N)) (M c n / M c k * M i k):=by
 obtain ⟨m,e,l⟩:=h.co c hc k hk
 have hm:0 < m.natAbs:=by have:=wA1 e hp h.d0; omega
 have hN:0 < N:=Nat.lt_of_lt_of_le h.d0 h.dn
 have l2:∀ {X:Nat},X <= 2 * X:=fun {X}=>by omega
 refine ⟨D * m.natAbs,E * m.natAbs,⟨Nat.mul_pos h.d0 hm,Nat.le_trans (Nat.mul_le_mul h.dn l) l2,Nat.mul_pos h.e0 hm,Nat.le_trans (Nat.mul_le_mul h.ew l) l2,fun i hi j hj=>?_,fun i hi=>?_⟩,fun i hi j hj=>?_,fun i hi=>?_⟩
 ·unfold pivM; split
  ·exact ((h.co c hc j hj).lead e hp h.d0 h.dn).mono l2
  ·have:=((h.co i hi j hj).stay (h.co c hc k hk) e h.d0).sub ((h.co c hc j hj).took (h.co i hi k hk) e hp h.d0)
   exact this.mono (by omega)
 ·unfold pivM; split
  ·exact ((h.la c hc).lead e hp h.d0 h.dn).mono l2
  ·have:=((h.la i hi).stay (h.co c hc k hk) e h.d0).sub ((h.la c hc).took (h.co i hi k hk) e hp h.d0)
   exact this.mono (by omega)
 ·exact ((h.co c hc j hj).took (h.co i hi k hk) e hp h.d0).mono l2
 ·exact ((h.la c hc).took (h.co i hi k hk) e hp h.d0).mono l2
noncomputable def BdB (n:Nat) (M:Nat->Nat->Rat) (a b:Nat):Prop:=∃ D E,BdM n M D (2 ^ a) E (2 ^ b)
theorem BdB.piv {n c k a b:Nat} {M:Nat->Nat->Rat} (h:BdB n M a b) (hc:c < n) (hk:k < n) (hp:M c k ≠ 0):BdB n (pivM M c k) (2 * a + 1) (a + b + 1):=by
 obtain ⟨D,E,h⟩:=h
 obtain ⟨D',E',h1,_⟩:=h.piv hc hk hp
 refine ⟨D',E',?_⟩
 have e1:2 * (2 ^ a * 2 ^ a) = 2 ^ (2 * a + 1):=by rw [<- Nat.pow_add,Nat.mul_comm,<- Nat.pow_succ]; congr 1; omega
 have e2:2 * (2 ^ b * 2 ^ a) = 2 ^ (a + b + 1):=by rw [<- Nat.pow_add,Nat.mul_comm,<- Nat.pow_succ]; congr 1; omega
 rw [<- e1,<- e2]; exact h1
section
variable {α:Type} [DecidableEq α]
theorem zS2 {L:List α} {f g:α->Rat} (h:∀ z ∈ L,f z <= g z):sumL L f <= sumL L g:=by
 induction L with
 | nil=>exact Rat.le_refl
 | cons z L ih =>
  rw [zB2,zB2]
  have h1:=h z List.mem_cons_self
  have h2:=ih fun y hy=>h y (List.mem_cons_of_mem _ hy)
  grind
theorem zQ4 {L:List α} {f:α->Rat} (h:∀ z ∈ L,0 <= f z):0 <= sumL L f:=by
 have:=zS2 (L:=L) (f:=fun _=>0) (g:=f) h
 rw [zK6 L _ fun _ _=>rfl] at this
 exact this
theorem zC6 {L:List α} {f g:α->Rat} (h:∀ z ∈ L,f z = g z):sumL L f = sumL L g:=by
 induction L with
 | nil=>rfl
 | cons z L ih=>rw [zB2,zB2,h z List.mem_cons_self,ih fun y hy=>h y (List.mem_cons_of_mem _ hy)]
theorem zO6 {L:List α} {f:α->Rat} (h:∀ z ∈ L,0 <= f z) (h0:sumL L f = 0):∀ z ∈ L,f z = 0:=by
 induction L with
 | nil=>intro z hz; cases hz
 | cons y L ih =>
  rw [zB2] at h0
  have h1:=h y List.mem_cons_self
  have h2:=zQ4 (L:=L) (f:=f) fun z hz=>h z (List.mem_cons_of_mem _ hz)
  intro z hz
  rcases List.mem_cons.mp hz with e | e
  ·subst e; grind
  ·exact ih (fun z hz=>h z (List.mem_cons_of_mem _ hz)) (by grind) z e
theorem yQ0 (L:List α) (f g:α->Rat):sumL L (fun z=>f z + g z) = sumL L f + sumL L g:=by
 induction L with
 | nil=>simp only [zG2]; grind
 | cons z L ih=>rw [zB2,zB2,zB2,ih]; grind
theorem zQ7 (L:List α) (f g:α->Rat):sumL L (fun z=>f z - g z) = sumL L f - sumL L g:=by
 induction L with
 | nil=>simp only [zG2]; grind
 | cons z L ih=>rw [zB2,zB2,zB2,ih]; grind
theorem zM6 (L:List α) (f:α->Rat) (c:Rat):sumL L (fun z=>c * f z) = c * sumL L f:=by
 induction L with
 | nil=>simp only [zG2]; grind
 | cons z L ih=>rw [zB2,zB2,ih]; grind
theorem zV8 (L M:List α) (f:α->α->Rat):sumL L (fun i=>sumL M fun j=>f i j) = sumL M fun j=>sumL L fun i=>f i j:=by
 induction L with
 | nil =>
  rw [zG2]
  exact (zK6 M _ fun _ _=>rfl).symm
 | cons z L ih =>
  rw [zB2,ih,<- yQ0]
  refine zC6 fun j _=>?_
  rw [zB2]
noncomputable def absR (x:Rat):Rat:=if 0 <= x then x else -x
theorem yP3 (x:Rat):0 <= absR x:=by unfold absR; split <;> grind
theorem yL6 {x:Rat} (h:absR x = 0):x = 0:=by unfold absR at h; split at h <;> grind
theorem xK4 (x y:Rat):absR (x + y) <= absR x + absR y:=by unfold absR; split <;> split <;> split <;> grind
theorem yU6 {x y:Rat} (hy:0 <= y):absR (x * y) = absR x * y:=by
 unfold absR
 by_cases h:0 <= x
 ·rw [if_pos h,if_pos (Rat.mul_nonneg h hy)]
 ·rw [if_neg h]
  by_cases e:y = 0
  ·subst e; simp [Rat.mul_zero]
  ·have:0 < (-x) * y:=Rat.mul_pos (by grind) (yA2 hy e)
   rw [if_neg (by grind)]; grind
theorem yU5 (L:List α) (f:α->Rat):absR (sumL L f) <= sumL L fun z=>absR (f z):=by
 induction L with
 | nil=>rw [zG2,zG2]; decide
 | cons z L ih =>
  rw [zB2,zB2]
  have:=xK4 (f z) (sumL L f)
  grind
structure SubC (C:List α) (P:α->α->Rat):Prop where
 nn:∀ x ∈ C,∀ y,0 <= P x y
 le:∀ x ∈ C,sumL C (P x) <= 1
inductive Leak (C:List α) (P:α->α->Rat):α->Prop where
 | now {x:α} (hx:x ∈ C) (h:sumL C (P x) ≠ 1):Leak C P x
 | via {x y:α} (hx:x ∈ C) (hy:y ∈ C) (h:P x y ≠ 0) (l:Leak C P y):Leak C P x
theorem Leak.mem {C:List α} {P:α->α->Rat} {x:α} (h:Leak C P x):x ∈ C:=by cases h <;> assumption
theorem xC3 {C:List α} {P:α->α->Rat} (S:SubC C P) {v:α->Rat} (h:∀ j ∈ C,v j = sumL C fun i=>v i * P i j) {x:α} (l:Leak C P x):v x = 0:=by
 have h1:∀ j ∈ C,0 <= (sumL C fun i=>absR (v i) * P i j) - absR (v j):=fun j hj=>by
  have a:=yU5 C fun i=>v i * P i j
  rw [<- h j hj,zC6 (g:=fun i=>absR (v i) * P i j) fun i hi=>yU6 (S.nn i hi j)] at a
  grind
 have h2:∀ i ∈ C,0 <= absR (v i) - absR (v i) * sumL C (P i):=fun i hi=>by
  have a:=S.le i hi
  have b:=Rat.mul_nonneg (yP3 (v i)) (show 0 <= 1 - sumL C (P i) by grind)
  grind
 have e1:=zQ7 C (fun j=>sumL C fun i=>absR (v i) * P i j) fun j=>absR (v j)
 have e2:=zQ7 C (fun i=>absR (v i)) fun i=>absR (v i) * sumL C (P i)
 have e3:(sumL C fun i=>absR (v i) * sumL C (P i)) = sumL C fun j=>sumL C fun i=>absR (v i) * P i j:=by
  rw [<- zV8]
  exact zC6 fun i _=>(zM6 C (P i) (absR (v i))).symm
 have n1:=zQ4 h1
 have n2:=zQ4 h2
 have z1:(sumL C fun j=>(sumL C fun i=>absR (v i) * P i j) - absR (v j)) = 0:=by grind
 have z2:(sumL C fun i=>absR (v i) - absR (v i) * sumL C (P i)) = 0:=by grind
 have f1:=zO6 h1 z1
 have f2:=zO6 h2 z2
 induction l with
 | now hx hn =>
  rename_i x
  have a:=f2 x hx
  apply yL6
  have b:absR (v x) * (1 - sumL C (P x)) = 0:=by grind
  rcases Rat.mul_eq_zero.mp b with q | q
  ·exact q
  ·exact absurd (by grind) hn
 | via hx hy hp _ ih =>
  rename_i x y _
  have a:=f1 y hy
  rw [ih] at a
  have e0:absR (0:Rat) = 0:=by decide
  have a:(sumL C fun i=>absR (v i) * P i y) = 0:=by grind
  have b:=zO6 (fun i hi=>Rat.mul_nonneg (yP3 (v i)) (S.nn i hi y)) a x hx
  apply yL6
  rcases Rat.mul_eq_zero.mp b with q | q
  ·exact q
  ·exact absurd q hp
noncomputable def stay (C:List α) (P:α->α->Rat):Nat->α->Rat
 | 0=>fun _=>1
 | k + 1=>fun x=>sumL C fun y=>P x y * stay C P k y
theorem yB4 {C:List α} {P:α->α->Rat} (S:SubC C P):∀ k,∀ x ∈ C,0 <= stay C P k x
 | 0,_,_=>by show (0:Rat) <= 1; decide
 | k + 1,x,hx=>zQ4 fun y hy=>Rat.mul_nonneg (S.nn x hx y) (yB4 S k y hy)
theorem zN7 {C:List α} {P:α->α->Rat} (S:SubC C P):∀ k,∀ x ∈ C,stay C P k x <= 1
 | 0,_,_=>Rat.le_refl
 | k + 1,x,hx=>by
  have a:=zS2 (L:=C) (f:=fun y=>P x y * stay C P k y) (g:=P x) fun y hy=>by
   have:=Rat.mul_nonneg (S.nn x hx y) (show 0 <= 1 - stay C P k y by have:=zN7 S k y hy; grind)
   grind
  exact Rat.le_trans a (S.le x hx)
theorem yG9 {C:List α} {P:α->α->Rat} (S:SubC C P):∀ k,∀ x ∈ C,stay C P (k + 1) x <= stay C P k x
 | 0,x,hx=>zN7 S 1 x hx
 | k + 1,x,hx=>zS2 fun y hy=>by
  have:=Rat.mul_nonneg (S.nn x hx y) (show 0 <= stay C P k y - stay C P (k + 1) y by have:=yG9 S k y hy; grind)
  grind
noncomputable def hold (C:List α) (P:α->α->Rat) (k:Nat):List α:=C.filter fun x=>decide (stay C P k x = 1)
theorem yQ1 {C:List α} {P:α->α->Rat} (S:SubC C P) {k:Nat} {x:α} (hx:x ∈ C) (h:stay C P (k + 1) x = 1):sumL C (P x) = 1 /\ ∀ y ∈ C,P x y ≠ 0->stay C P k y = 1:=by
 have n:∀ y ∈ C,0 <= P x y - P x y * stay C P k y:=fun y hy=>by
  have:=Rat.mul_nonneg (S.nn x hx y) (show 0 <= 1 - stay C P k y by have:=zN7 S k y hy; grind)
  grind
 have e:=zQ7 C (P x) fun y=>P x y * stay C P k y
 have h:(sumL C fun y=>P x y * stay C P k y) = 1:=h
 have a:=zQ4 n
 have b:=S.le x hx
 have c:sumL C (P x) = 1:=by grind
 refine ⟨c,fun y hy hp=>?_⟩
 have z:(sumL C fun y=>P x y - P x y * stay C P k y) = 0:=by grind
 have d:=zO6 n z y hy
 have d:P x y * (1 - stay C P k y) = 0:=by grind
 rcases Rat.mul_eq_zero.mp d with q | q
 ·exact absurd q hp
 ·grind
theorem yS8 {C:List α} {P:α->α->Rat} (S:SubC C P) {k:Nat} {x:α} (h:x ∈ hold C P (k + 1)):x ∈ hold C P k:=by
 obtain ⟨hx,e⟩:=List.mem_filter.mp h
 have e:=of_decide_eq_true e
 refine List.mem_filter.mpr ⟨hx,decide_eq_true ?_⟩
 have a:=yG9 S k x hx
 have b:=zN7 S k x hx
 rw [e] at a
 grind
theorem xD2 {C:List α} {P:α->α->Rat} (S:SubC C P) (l:∀ x ∈ C,Leak C P x) {k:Nat} (h:∀ x ∈ hold C P k,x ∈ hold C P (k + 1)):hold C P k = []:=by
 have key:∀ x,Leak C P x->x ∉ hold C P k:=by
  intro x lx
  induction lx with
  | now hx hn =>
   intro q
   obtain ⟨_,e⟩:=List.mem_filter.mp (h _ q)
   exact hn (yQ1 S hx (of_decide_eq_true e)).1
  | via hx hy hp _ ih =>
   intro q
   obtain ⟨_,e⟩:=List.mem_filter.mp (h _ q)
   exact ih (List.mem_filter.mpr ⟨hy,decide_eq_true ((yQ1 S hx (of_decide_eq_true e)).2 _ hy hp)⟩)
 cases q:hold C P k with
 | nil=>rfl
 | cons x r =>
  exfalso
  have hm:x ∈ hold C P k:=by rw [q]; exact List.mem_cons_self
  exact key x (l x (List.mem_filter.mp hm).1) hm
theorem yS9 {C:List α} {P:α->α->Rat} (S:SubC C P) (hn:C.Nodup) (l:∀ x ∈ C,Leak C P x):∀ k,hold C P k = [] \/ (hold C P k).length + k <= C.length
 | 0=>.inr (by show _ + 0 <= _; exact List.length_filter_le _ _)
 | k + 1=>by
  by_cases q:∀ x ∈ hold C P k,x ∈ hold C P (k + 1)
  ·left
   have e:=xD2 S l q
   cases r:hold C P (k + 1) with
   | nil=>rfl
   | cons x t =>
    have:=yS8 S (k:=k) (x:=x) (by rw [r]; exact List.mem_cons_self)
    rw [e] at this; cases this
  ·rcases yS9 S hn l k with e | e
   ·exact absurd (fun x hx=>by rw [e] at hx; cases hx) q
   ·right
    have hx:∃ x,x ∈ hold C P k /\ x ∉ hold C P (k + 1):=by
     by_cases r:∃ x,x ∈ hold C P k /\ x ∉ hold C P (k + 1)
     ·exact r
     ·exact absurd (fun x hx=>by by_cases u:x ∈ hold C P (k + 1); exact u; exact absurd ⟨x,hx,u⟩ r) q
    obtain ⟨x,h1,h2⟩:=hx
    have nd:(hold C P (k + 1)).Nodup:=hn.filter _
    have:=zD8 (L:=(hold C P k).erase x) (ks:=hold C P (k + 1)) nd fun z hz=>by
     refine (List.mem_erase_of_ne ?_).mpr (yS8 S hz)
     rintro rfl; exact h2 hz
    rw [List.length_erase_of_mem h1] at this
    have:=List.length_pos_of_mem h1
    omega
theorem xO5 {C:List α} {P:α->α->Rat} (S:SubC C P) (hn:C.Nodup) (l:∀ x ∈ C,Leak C P x) {k:Nat} (hk:C.length <= k) {x:α} (hx:x ∈ C):stay C P k x < 1:=by
 have e:hold C P k = []:=by
  rcases yS9 S hn l k with e | e
  ·exact e
  ·exact List.length_eq_zero_iff.mp (by omega)
 have a:=zN7 S k x hx
 by_cases q:stay C P k x = 1
 ·have:x ∈ hold C P k:=List.mem_filter.mpr ⟨hx,decide_eq_true q⟩
  rw [e] at this; cases this
 ·grind
end
section
variable {α:Type} [DecidableEq α]
structure LkS (C:List α) (P:α->α->Rat) (S:List α):Prop where
 nd:S.Nodup
 lk:∀ x ∈ S,Leak C P x
 now:∀ x ∈ C,sumL C (P x) ≠ 1->x ∈ S
noncomputable def yL8 (C:List α) (P:α->α->Rat) (S:List α):Prop:=∀ x,Leak C P x->x ∈ S
theorem LkS.done {C:List α} {P:α->α->Rat} {S:List α} (h:LkS C P S) (d:∀ x ∈ C,(∃ y ∈ S,P x y ≠ 0)->x ∈ S):yL8 C P S:=by
 intro x l
 induction l with
 | now hx hn=>exact h.now _ hx hn
 | via hx _ hp _ ih=>exact d _ hx ⟨_,ih,hp⟩
theorem LkS.full {C:List α} {P:α->α->Rat} {S:List α} (h:LkS C P S) (hl:C.length <= S.length):yL8 C P S:=by
 intro x l
 have hx:=l.mem
 by_cases q:x ∈ S
 ·exact q
 ·exfalso
  have:=zD8 (L:=C) (ks:=x :: S) (List.nodup_cons.mpr ⟨q,h.nd⟩) fun z hz=>by
   rcases List.mem_cons.mp hz with e | e
   ·subst e; exact hx
   ·exact (h.lk z e).mem
  rw [List.length_cons] at this
  omega
noncomputable def putS (S:List α) (x:α):List α:=if x ∈ S then S else S ++ [x]
theorem mem_putS {S:List α} {x z:α}:z ∈ putS S x ↔ z ∈ S \/ z = x:=by
 unfold putS; split
 ·rename_i h
  exact ⟨.inl,fun e=>e.elim id fun e=>e ▸ h⟩
 ·simp
theorem xA1 {S:List α} {x:α} (h:S.Nodup):(putS S x).Nodup:=by
 unfold putS; split
 ·exact h
 ·rename_i q
  rw [List.nodup_append]
  refine ⟨h,by simp,fun a ha b hb e=>q ?_⟩
  rw [List.mem_singleton.mp hb] at e
  exact e ▸ ha
theorem LkS.put {C:List α} {P:α->α->Rat} {S:List α} (h:LkS C P S) {x y:α} (hx:x ∈ C) (hy:y ∈ S) (hp:P x y ≠ 0):LkS C P (putS S x) :=
 ⟨xA1 h.nd,fun z hz=>(mem_putS.mp hz).elim (h.lk z) (fun e=>e ▸ .via hx (h.lk y hy).mem hp (h.lk y hy)),fun z hz hn=>mem_putS.mpr (.inl (h.now z hz hn))⟩
noncomputable def Swp (C:List α) (P:α->α->Rat) (T:List α) (i:Nat) (S:List α):Prop:=(T.length + 1 <= S.length \/ (S = T /\ ∀ x ∈ C.take i,(∃ y ∈ T,P x y ≠ 0)->x ∈ T)) /\ (yL8 C P T->yL8 C P S)
theorem Swp.start (C:List α) (P:α->α->Rat) (T:List α):Swp C P T 0 T:=⟨.inr ⟨rfl,fun x hx=>by simp at hx⟩,id⟩
theorem Swp.step {C:List α} {P:α->α->Rat} {T S:List α} {i:Nat} {x:α} (hx:C[i]? = some x) (h:Swp C P T i S) (b:Bool) (hb:b = true ↔ ∃ y ∈ S,P x y ≠ 0):Swp C P T (i + 1) (if b then putS S x else S):=by
 have et:C.take (i + 1) = C.take i ++ [x]:=by rw [List.take_add_one,hx]; rfl
 refine ⟨?_,fun f=>?_⟩
 ·rcases h.1 with l | ⟨e,f⟩
  ·left
   cases b with
   | false=>exact l
   | true =>
    show _ <= (putS S x).length
    unfold putS; split
    ·exact l
    ·rw [List.length_append]; omega
  ·subst e
   cases b with
   | false =>
    right
    refine ⟨rfl,fun z hz q=>?_⟩
    rw [et] at hz
    rcases List.mem_append.mp hz with e | e
    ·exact f z e q
    ·rw [List.mem_singleton.mp e] at q
     exact absurd (hb.mpr q) (by simp)
   | true =>
    show _ <= (putS S x).length \/ (putS S x = S /\ _)
    unfold putS
    by_cases hm:x ∈ S
    ·right
     rw [if_pos hm]
     refine ⟨rfl,fun z hz q=>?_⟩
     rw [et] at hz
     rcases List.mem_append.mp hz with e | e
     ·exact f z e q
     ·rw [List.mem_singleton.mp e]; exact hm
    ·left
     rw [if_neg hm,List.length_append]; simp
 ·intro z l
  cases b with
  | false=>exact h.2 f z l
  | true=>exact mem_putS.mpr (.inl (h.2 f z l))
theorem Swp.stop {C:List α} {P:α->α->Rat} {T S:List α} {k:Nat} (h:Swp C P T C.length S) (hs:LkS C P S) (hk:yL8 C P T \/ k <= T.length):yL8 C P S \/ k + 1 <= S.length:=by
 rcases hk with q | q
 ·exact .inl (h.2 q)
 ·rcases h.1 with l | ⟨e,f⟩
  ·right; omega
  ·left
   subst e
   rw [List.take_length] at f
   exact hs.done f
structure LfT (C:List α) (P:α->α->Rat) (T:List α):Prop where
 nd:T.Nodup
 sub:∀ x ∈ T,x ∈ C
 lk:∀ x ∈ C,x ∉ T->Leak C P x
noncomputable def yL9 (C:List α) (P:α->α->Rat) (T:List α):Prop:=∀ x,Leak C P x->x ∉ T
theorem LfT.full {C:List α} {P:α->α->Rat} {T:List α} (h:T = []):yL9 C P T:=fun x _=>by rw [h]; simp
theorem zX0 {C L:List α} {R:α->α->Rat} (hC:C.Nodup) (hL:L.Nodup) (hCL:∀ x ∈ C,x ∈ L) {x:α} (h0:∀ z,0 <= R x z) (hs:sumL L (R x) = 1):sumL C (R x) ≠ 1 ↔ ∃ z ∈ L,z ∉ C /\ R x z ≠ 0:=by
 constructor
 ·intro h
  by_cases q:∃ z ∈ L,z ∉ C /\ R x z ≠ 0
  ·exact q
  ·exfalso
   apply h
   rw [<- hs]
   refine zM2 (R x) hL hC hCL fun z hz hn=>?_
   by_cases e:z ∈ C
   ·exact e
   ·exact absurd ⟨z,hz,e,hn⟩ q
 ·rintro ⟨z,hz,hn,hr⟩ e
  have e2:=zM2 (L:=L) (ks:=L.filter fun y=>decide (y ∈ C) || decide (y = z)) (R x)
  have e3:sumL C (R x) + R x z <= sumL L (R x):=by
   have hcz:(C ++ [z]).Nodup:=by
    rw [List.nodup_append]
    refine ⟨hC,by simp,fun a ha b hb e=>hn ?_⟩
    rw [List.mem_singleton.mp hb] at e
    exact e ▸ ha
   have key:∀ {ks L:List α},L.Nodup->ks.Nodup->(∀ y ∈ ks,y ∈ L)->sumL ks (R x) <= sumL L (R x):=by
    intro ks
    induction ks with
    | nil=>intro L _ _ _; rw [zG2]; exact zQ4 fun y _=>h0 y
    | cons k ks ih =>
     intro L hL hk hs
     rw [List.nodup_cons] at hk
     rw [zB2,zM7 (hs k List.mem_cons_self)]
     have:=ih (L:=L.erase k) (hL.erase k) hk.2 fun y hy=>by
      refine (List.mem_erase_of_ne ?_).mpr (hs y (List.mem_cons_of_mem _ hy))
      rintro rfl; exact hk.1 hy
     grind
   have:=key hL hcz fun y hy=>by
    rcases List.mem_append.mp hy with q | q
    ·exact hCL y q
    ·rw [List.mem_singleton.mp q]; exact hz
   rw [zV7] at this
   exact this
  rw [e,hs] at e3
  have:=yA2 (h0 z) hr
  grind
end
section
variable {α:Type} [DecidableEq α]
theorem LfT.done {C L:List α} {R:α->α->Rat} {T:List α} (hC:C.Nodup) (hL:L.Nodup) (hCL:∀ x ∈ C,x ∈ L) (h0:∀ x ∈ C,∀ z,0 <= R x z) (hs:∀ x ∈ C,sumL L (R x) = 1) (h:LfT C R T) (d:∀ x ∈ T,∀ z ∈ L,R x z ≠ 0->z ∈ T):yL9 C R T:=by
 intro x l
 induction l with
 | now hx hn =>
  intro q
  obtain ⟨z,h1,h2,h3⟩:=(zX0 hC hL hCL (h0 _ hx) (hs _ hx)).mp hn
  exact h2 (h.sub z (d _ q z h1 h3))
 | via hx hy hp _ ih=>exact fun q=>ih (d _ q _ (hCL _ hy) hp)
noncomputable def yE9 (T:List α) (x:α):List α:=T.filter fun y=>decide (y ≠ x)
theorem mem_dropT {T:List α} {x z:α}:z ∈ yE9 T x ↔ z ∈ T /\ z ≠ x:=by
 unfold yE9; rw [List.mem_filter]; simp
theorem xE3 {T:List α} {x:α} (h:x ∈ T):(yE9 T x).length + 1 <= T.length:=by
 unfold yE9
 induction T with
 | nil=>cases h
 | cons y T ih =>
  rw [List.filter_cons]
  by_cases e:y = x
  ·subst e
   rw [if_neg (by simp)]
   have:=List.length_filter_le (fun z=>decide (z ≠ y)) T
   rw [List.length_cons]; omega
  ·rw [if_pos (by simp [e])]
   rcases List.mem_cons.mp h with q | q
   ·exact absurd q.symm e
   ·have:=ih q
    rw [List.length_cons,List.length_cons]; omega
theorem LfT.drop {C L:List α} {R:α->α->Rat} {T:List α} (hC:C.Nodup) (hL:L.Nodup) (hCL:∀ x ∈ C,x ∈ L) (h0:∀ x ∈ C,∀ z,0 <= R x z) (hs:∀ x ∈ C,sumL L (R x) = 1) (h:LfT C R T) {x z:α} (hx:x ∈ T) (hz:z ∈ L) (hr:R x z ≠ 0) (hn:z ∉ T):LfT C R (yE9 T x):=by
 have hxC:=h.sub x hx
 refine ⟨h.nd.filter _,fun y hy=>h.sub y (mem_dropT.mp hy).1,fun y hy hm=>?_⟩
 by_cases e:y = x
 ·subst e
  by_cases q:z ∈ C
  ·exact .via hxC q hr (h.lk z q hn)
  ·exact .now hxC ((zX0 hC hL hCL (h0 _ hxC) (hs _ hxC)).mpr ⟨z,hz,q,hr⟩)
 ·exact h.lk y hy fun q=>hm (mem_dropT.mpr ⟨q,e⟩)
noncomputable def Swq (C L:List α) (R:α->α->Rat) (T0:List α) (i:Nat) (T:List α):Prop:=(∀ x ∈ T,x ∈ T0) /\ (∀ x ∈ T0.drop i,x ∈ T) /\ (T.length + 1 <= T0.length \/ (T = T0 /\ ∀ x ∈ T0.take i,∀ z ∈ L,R x z ≠ 0->z ∈ T0)) /\ (yL9 C R T0->yL9 C R T)
theorem Swq.start (C L:List α) (R:α->α->Rat) (T:List α):Swq C L R T 0 T:=⟨fun _ h=>h,fun _ h=>h,.inr ⟨rfl,fun x hx=>by simp at hx⟩,id⟩
theorem Swq.step {C L:List α} {R:α->α->Rat} {T0 T:List α} {i:Nat} {x:α} (nd:T0.Nodup) (hx:T0[i]? = some x) (h:Swq C L R T0 i T) (b:Bool) (hb:b = true ↔ ∃ z ∈ L,R x z ≠ 0 /\ z ∉ T):Swq C L R T0 (i + 1) (if b then yE9 T x else T):=by
 have hi:i < T0.length:=(List.getElem?_eq_some_iff.mp hx).1
 have ed:T0.drop i = x :: T0.drop (i + 1):=by rw [List.drop_eq_getElem_cons hi,(List.getElem?_eq_some_iff.mp hx).2]
 have et:T0.take (i + 1) = T0.take i ++ [x]:=by rw [List.take_add_one,hx]; rfl
 have hxT:x ∈ T:=h.2.1 x (by rw [ed]; exact List.mem_cons_self)
 have hxn:x ∉ T0.drop (i + 1):=by
  have:=nd.sublist (List.drop_sublist i T0)
  rw [ed,List.nodup_cons] at this
  exact this.1
 cases b with
 | false =>
  refine ⟨h.1,fun y hy=>h.2.1 y (by rw [ed]; exact List.mem_cons_of_mem _ hy),?_,h.2.2.2⟩
  rcases h.2.2.1 with l | ⟨e,f⟩
  ·exact .inl l
  ·right
   subst e
   refine ⟨rfl,fun y hy z hz hr=>?_⟩
   rw [et] at hy
   rcases List.mem_append.mp hy with q | q
   ·exact f y q z hz hr
   ·rw [List.mem_singleton.mp q] at hr
    by_cases u:z ∈ T
    ·exact u
    ·exact absurd (hb.mpr ⟨z,hz,hr,u⟩) (by simp)
 | true =>
  refine ⟨fun y hy=>h.1 y (mem_dropT.mp hy).1,fun y hy=>mem_dropT.mpr ⟨h.2.1 y (by rw [ed]; exact List.mem_cons_of_mem _ hy),fun e=>hxn (e ▸ hy)⟩,.inl ?_,fun f y l q=>h.2.2.2 f y l (mem_dropT.mp q).1⟩
  have:=xE3 hxT
  rcases h.2.2.1 with l | ⟨e,_⟩
  ·show (yE9 T x).length + 1 <= _
   omega
  ·rw [<- e]; exact this
theorem Swq.stop {C L:List α} {R:α->α->Rat} {T0 T:List α} {k:Nat} (hC:C.Nodup) (hL:L.Nodup) (hCL:∀ x ∈ C,x ∈ L) (h0:∀ x ∈ C,∀ z,0 <= R x z) (hs:∀ x ∈ C,sumL L (R x) = 1) (h:Swq C L R T0 T0.length T) (ht:LfT C R T) (hk:yL9 C R T0 \/ T0.length + k <= C.length):yL9 C R T \/ T.length + (k + 1) <= C.length:=by
 rcases hk with q | q
 ·exact .inl (h.2.2.2 q)
 ·rcases h.2.2.1 with l | ⟨e,f⟩
  ·right; omega
  ·left
   subst e
   rw [List.take_length] at f
   exact ht.done hC hL hCL h0 hs f
end
section
variable {α:Type} [DecidableEq α]
theorem yX8 {f:α->Rat} (h0:∀ z,0 <= f z):∀ {ks L:List α},L.Nodup->ks.Nodup->(∀ y ∈ ks,y ∈ L)->sumL ks f <= sumL L f:=by
 intro ks
 induction ks with
 | nil=>intro L _ _ _; rw [zG2]; exact zQ4 fun y _=>h0 y
 | cons k ks ih =>
  intro L hL hk hs
  rw [List.nodup_cons] at hk
  rw [zB2,zM7 (hs k List.mem_cons_self)]
  have:=ih (L:=L.erase k) (hL.erase k) hk.2 fun y hy=>by
   refine (List.mem_erase_of_ne ?_).mpr (hs y (List.mem_cons_of_mem _ hy))
   rintro rfl; exact hk.1 hy
  grind
theorem Good.sub {C L:List α} {D:Nat} {R:α->α->Rat} (G:Good L D R) (hC:C.Nodup) (hL:L.Nodup) (hCL:∀ x ∈ C,x ∈ L):SubC C R :=
 ⟨fun x hx y=>(G.part x (hCL x hx) y).1,fun x hx=>by rw [<- G.all x (hCL x hx)]; exact yX8 (fun z=>(G.part x (hCL x hx) z).1) hL hC hCL⟩
theorem xI3:∀ {C:List α} {i j:Nat},C.Nodup->i < C.length->C[i]? = C[j]?->i = j
 | [],i,j,_,hi,_=>by simp at hi
 | x :: C,0,0,_,_,_=>rfl
 | x :: C,0,j + 1,hn,_,e=>by
  rw [List.nodup_cons] at hn
  have:C[j]? = some x:=by simpa using e.symm
  exact absurd (List.mem_of_getElem? this) hn.1
 | x :: C,i + 1,0,hn,_,e=>by
  rw [List.nodup_cons] at hn
  have:C[i]? = some x:=by simpa using e
  exact absurd (List.mem_of_getElem? this) hn.1
 | x :: C,i + 1,j + 1,hn,hi,e=>by
  rw [List.nodup_cons] at hn
  have:=xI3 (i:=i) (j:=j) hn.2 (by simpa using hi) (by simpa using e)
  omega
noncomputable def Nmd (C:List α) (c:Nat->α):Prop:=∀ i,i < C.length->C[i]? = some (c i)
theorem Nmd.mem {C:List α} {c:Nat->α} (h:Nmd C c) {i:Nat} (hi:i < C.length):c i ∈ C:=List.mem_of_getElem? (h i hi)
theorem Nmd.sum {C:List α} {c:Nat->α} (h:Nmd C c) (f:α->Rat):∀ n,n <= C.length->sN n (fun i=>f (c i)) = sumL (C.take n) f
 | 0,_=>rfl
 | n + 1,hn=>by
  have e:C.take (n + 1) = C.take n ++ [c n]:=by rw [List.take_add_one,h n (by omega)]; rfl
  rw [zK7,Nmd.sum h f n (by omega),e,zV7]
theorem Nmd.sumC {C:List α} {c:Nat->α} (h:Nmd C c) (f:α->Rat):sN C.length (fun i=>f (c i)) = sumL C f:=by
 rw [h.sum f _ (Nat.le_refl _),List.take_length]
theorem Nmd.inj {C:List α} {c:Nat->α} (h:Nmd C c) (hn:C.Nodup) {i j:Nat} (hi:i < C.length) (hj:j < C.length) (e:c i = c j):i = j:=by
 exact xI3 hn hi ((h i hi).trans ((congrArg some e).trans (h j hj).symm))
theorem Nmd.idx {C:List α} {c:Nat->α} (h:Nmd C c) (hn:C.Nodup) {i:Nat} (hi:i < C.length):C.idxOf (c i) = i:=by
 have l:C.idxOf (c i) < C.length:=List.idxOf_lt_length_of_mem (h.mem hi)
 have a:C[C.idxOf (c i)] = c i:=List.getElem_idxOf l
 exact xI3 hn l ((List.getElem?_eq_getElem l).trans ((congrArg some a).trans (h i hi).symm))
theorem Nmd.at {C:List α} {c:Nat->α} (h:Nmd C c) {x:α} (hx:x ∈ C):∃ i,i < C.length /\ c i = x:=by
 obtain ⟨i,hi,e⟩:=List.getElem_of_mem hx
 refine ⟨i,hi,?_⟩
 have:=h i hi
 rw [List.getElem?_eq_getElem hi,e] at this
 exact (Option.some.inj this).symm
noncomputable def eqM (n:Nat) (c:Nat->α) (R:α->α->Rat) (b:α->Rat):Nat->Nat->Rat:=fun i j=>if j < n then (if c j = c i then 1 else 0) - R (c j) (c i) else b (c i)
theorem xD9 {C:List α} {c:Nat->α} (h:Nmd C c) (hn:C.Nodup) (R:α->α->Rat) (b:α->Rat) (y:Nat->Rat) {i:Nat} (hi:i < C.length) :
  sN C.length (fun j=>eqM C.length c R b i j * y j) = y i - sumL C fun z=>y (C.idxOf z) * R z (c i):=by
 have e1:sN C.length (fun j=>eqM C.length c R b i j * y j) = sN C.length (fun j=>(if j = i then y i else 0) * 1 + (y j * R (c j) (c i)) * (-1)):=zR2 fun j hj=>by
  unfold eqM
  rw [if_pos hj]
  by_cases e:j = i
  ·subst e; rw [if_pos rfl,if_pos rfl]; grind
  ·rw [if_neg e,if_neg fun q=>e (h.inj hn hj hi q)]; grind
 rw [e1,yZ4,yZ2 (k:=i) hi (fun j _ hne=>if_neg hne),if_pos rfl]
 have e2:sN C.length (fun j=>y j * R (c j) (c i)) = sumL C fun z=>y (C.idxOf z) * R z (c i):=by
  rw [<- h.sumC]
  exact zR2 fun j hj=>by rw [h.idx hn hj]
 rw [e2]; grind
theorem xJ3 {C:List α} {c:Nat->α} (h:Nmd C c) (hn:C.Nodup) {R:α->α->Rat} (S:SubC C R) (l:∀ x ∈ C,Leak C R x) (b:α->Rat) {y:Nat->Rat} (hy:y C.length = 0) (hk:KerM C.length (eqM C.length c R b) y):∀ j,j < C.length->y j = 0:=by
 have key:∀ z ∈ C,y (C.idxOf z) = sumL C fun x=>y (C.idxOf x) * R x z:=fun z hz=>by
  obtain ⟨i,hi,rfl⟩:=h.at hz
  have:=hk i hi
  unfold dotR at this
  rw [zK7,xD9 h hn R b y hi,hy] at this
  rw [h.idx hn hi]
  grind
 intro j hj
 have:=xC3 S (v:=fun z=>y (C.idxOf z)) key (l _ (h.mem hj))
 rw [<- h.idx hn hj]; exact this
theorem xR0 {C:List α} {c:Nat->α} (h:Nmd C c) (hn:C.Nodup) (R:α->α->Rat) (b:α->Rat) {x:Nat->Rat} (hs:∀ i,i < C.length->sN C.length (fun j=>eqM C.length c R b i j * x j) = b (c i)):∀ z ∈ C,x (C.idxOf z) = (sumL C fun y=>x (C.idxOf y) * R y z) + b z:=by
 intro z hz
 obtain ⟨i,hi,rfl⟩:=h.at hz
 have:=hs i hi
 rw [xD9 h hn R b x hi] at this
 rw [h.idx hn hi]
 grind
theorem Cd.diff {D:Nat} {r:Rat} (b:Bool) (h:IsM D 1 r):Cd D D ((if b then 1 else 0) - r):=by
 obtain ⟨_,m,hm,e⟩:=h
 have l:m <= D:=by omega
 cases b with
 | true =>
  refine ⟨(D:Int) - m,?_,by omega⟩
  rw [Rat.intCast_sub]
  show _ = (D:Rat) - (m:Rat)
  rw [<- e]
  simp only [if_true]
  grind
 | false =>
  refine ⟨-(m:Int),?_,by omega⟩
  rw [Rat.intCast_neg]
  show _ = -(m:Rat)
  rw [<- e]
  simp only [Bool.false_eq_true,if_false]
  grind
theorem xW6 {C L:List α} {c:Nat->α} (h:Nmd C c) (hCL:∀ x ∈ C,x ∈ L) {D:Nat} {R:α->α->Rat} (G:Good L D R) (hD:0 < D) {b:α->Rat} {E W:Nat} (hE:0 < E) (hEW:E <= W) (hb:∀ z ∈ C,Cd E W (b z)) {a d:Nat} (ha:D <= 2 ^ a) (hd:W <= 2 ^ d):BdB C.length (eqM C.length c R b) a d:=by
 refine ⟨D,E,hD,ha,hE,Nat.le_trans hEW hd,fun i hi j hj=>?_,fun i hi=>?_⟩
 ·unfold eqM
  rw [if_pos hj]
  have:=Cd.diff (decide (c j = c i)) (G.part (c j) (hCL _ (h.mem hj)) (c i))
  simp only [decide_eq_true_eq] at this
  exact this.mono ha
 ·unfold eqM
  rw [if_neg (by omega)]
  exact (hb _ (h.mem hi)).mono hd
end
section
variable {α:Type} [DecidableEq α]
theorem zO5 {C C':List α} (hn:C.Nodup) (hn':C'.Nodup) (h:∀ x,x ∈ C ↔ x ∈ C') (f:α->Rat):sumL C f = sumL C' f :=
 zM2 f hn' hn (fun z hz=>(h z).mp hz) fun z hz _=>(h z).mpr hz
theorem Leak.same {C C':List α} {R:α->α->Rat} (hn:C.Nodup) (hn':C'.Nodup) (h:∀ x,x ∈ C ↔ x ∈ C') {x:α} (l:Leak C R x):Leak C' R x:=by
 induction l with
 | now hx hs=>exact .now ((h _).mp hx) (by rw [<- zO5 hn hn' h]; exact hs)
 | via hx hy hp _ ih=>exact .via ((h _).mp hx) ((h _).mp hy) hp ih
theorem yG8 {C C':List α} {R:α->α->Rat} (hn:C.Nodup) (hn':C'.Nodup) (h:∀ x,x ∈ C ↔ x ∈ C'):∀ k,stay C R k = stay C' R k
 | 0=>rfl
 | k + 1=>by
  funext x
  show sumL C _ = sumL C' _
  rw [yG8 hn hn' h k,zO5 hn hn' h]
theorem IsM.mul {P Q k j:Nat} {a b:Rat} (h:IsM P k a) (g:IsM Q j b):IsM (P * Q) (k * j) (a * b):=by
 obtain ⟨h0,m,hm,e⟩:=h
 obtain ⟨g0,n,hn,f⟩:=g
 refine ⟨Rat.mul_nonneg h0 g0,m * n,?_,?_⟩
 ·have:=Nat.mul_le_mul hm hn
  have e:k * P * (j * Q) = k * j * (P * Q):=by rw [Nat.mul_mul_mul_comm]
  rw [<- e]; exact this
 ·rw [Rat.natCast_mul,Rat.natCast_mul,<- e,<- f]; grind
theorem zQ9 {C L:List α} {D:Nat} {R:α->α->Rat} (G:Good L D R) (hC:C.Nodup) (hL:L.Nodup) (hCL:∀ x ∈ C,x ∈ L):∀ k,∀ x ∈ C,IsM (D ^ k) 1 (stay C R k x)
 | 0,x,_=>by rw [Nat.pow_zero]; exact IsM.one 1
 | k + 1,x,hx=>by
  have S:=G.sub hC hL hCL
  have n0:=yB4 S (k + 1) x hx
  have n1:=zN7 S (k + 1) x hx
  have key:∀ l:List α,(∀ y ∈ l,y ∈ C)->∃ m:Nat,(sumL l fun y=>R x y * stay C R k y) * ((D ^ (k + 1):Nat):Rat) = (m:Rat):=by
   intro l
   induction l with
   | nil=>intro _; exact ⟨0,by rw [zG2,Rat.zero_mul]; rfl⟩
   | cons y l ih =>
    intro hl
    obtain ⟨m,e⟩:=ih fun z hz=>hl z (List.mem_cons_of_mem _ hz)
    have hy:=hl y List.mem_cons_self
    obtain ⟨_,p,_,f⟩:=(G.part x (hCL x hx) y).mul (zQ9 G hC hL hCL k y hy)
    refine ⟨p + m,?_⟩
    rw [zB2,Rat.add_mul,e,Rat.natCast_add,<- f,Nat.pow_succ,Nat.mul_comm D]
  obtain ⟨m,e⟩:=key C fun _ h=>h
  refine ⟨n0,m,?_,e⟩
  have e:stay C R (k + 1) x * ((D ^ (k + 1):Nat):Rat) = (m:Rat):=e
  have h2:(m:Rat) <= ((D ^ (k + 1):Nat):Rat):=by
   rw [<- e]
   have c0:(0:Rat) <= ((D ^ (k + 1):Nat):Rat):=by exact_mod_cast Nat.zero_le _
   have:=Rat.mul_nonneg (show 0 <= 1 - stay C R (k + 1) x by grind) c0
   grind
  have h3:m <= D ^ (k + 1):=by exact_mod_cast h2
  omega
end
theorem Cd.bd {D N s:Nat} {r:Rat} (hD:0 < D) (hDN:D <= N) (hN:N <= 2 ^ s) (h:Cd D N r):Bd (s + 1) r:=by
 obtain ⟨m,e,l⟩:=h
 have er:r = Rat.divInt m D:=by
  rw [Rat.divInt_eq_div,Rat.intCast_natCast]
  have:=xB6 hD
  grind
 have hp:(2:Nat) ^ s < 2 ^ (s + 1):=by rw [Nat.pow_succ]; have:=Nat.two_pow_pos s; omega
 rw [er]
 refine Bd.divInt (by omega) (by omega) ?_
 show D < _
 omega
theorem BdB.all {n c k a b:Nat} {M:Nat->Nat->Rat} (h:BdB n M a b) (hc:c < n) (hk:k < n) (hp:M c k ≠ 0) (h1:2 * a + 2 <= 8000) (h2:a + b + 2 <= 8000):∀ i,i < n->∀ j,j < n + 1->Bd 8000 (M i j) /\ Bd 8000 (M c j / M c k) /\ Bd 8000 (M c j / M c k * M i k):=by
 obtain ⟨D,E,h⟩:=h
 obtain ⟨D',E',g,t1,t2⟩:=h.piv hc hk hp
 have e1:2 * (2 ^ a * 2 ^ a) = 2 ^ (2 * a + 1):=by rw [<- Nat.pow_add,Nat.mul_comm,<- Nat.pow_succ]; congr 1; omega
 have e2:2 * (2 ^ b * 2 ^ a) = 2 ^ (a + b + 1):=by rw [<- Nat.pow_add,Nat.mul_comm,<- Nat.pow_succ]; congr 1; omega
 intro i hi j hj
 have el:∀ x,pivM M c k c x = M c x / M c k:=fun x=>by unfold pivM; rw [if_pos rfl]
 by_cases q:j < n
 ·refine ⟨((h.co i hi j q).bd h.d0 h.dn (Nat.le_refl _)).mono (by omega),?_,((t1 i hi j q).bd g.d0 g.dn (Nat.le_of_eq e1)).mono (by omega)⟩
  rw [<- el]
  exact ((g.co c hc j q).bd g.d0 g.dn (Nat.le_of_eq e1)).mono (by omega)
 ·have q:j = n:=by omega
  subst q
  refine ⟨((h.la i hi).bd h.e0 h.ew (Nat.le_refl _)).mono (by omega),?_,((t2 i hi).bd g.e0 g.ew (Nat.le_of_eq e2)).mono (by omega)⟩
  rw [<- el]
  exact ((g.la c hc).bd g.e0 g.ew (Nat.le_of_eq e2)).mono (by omega)
theorem BdB.swap {n x y a b:Nat} {M:Nat->Nat->Rat} (h:BdB n M a b) (hx:x < n) (hy:y < n):BdB n (zP8 M x y) a b:=let ⟨D,E,h⟩:=h; ⟨D,E,h.swap hx hy⟩
end Tc
namespace L2
open PySem PySem.Spec PyProof.Rows
theorem yN9:typeLookup (.type "zip") "keys" = pure none:=by rw [typeLookup_type,builtinLookup_eq_fast]; kernel_rfl
theorem zU2:typeLookup (.type "zip") "__getattr__" = pure none:=by rw [typeLookup_type,builtinLookup_eq_fast]; kernel_rfl
theorem yJ7:entryFor table "zip.__getattribute__" = some Builtin.«object.__getattribute__» :=
 entryFor_alias (id':="object.__getattribute__") (by kernel_rfl) (by first | rfl | decide +kernel) (by decide +kernel) (by kernel_rfl)
section
variable {prog:Program} {w:World} {A:Around} {E:Value->Shared->Prop} {h:Heap} {g:Array GenState} {d:Drawn} {t:Nat} {os:OsState} {a:Addr} {fs:Array Value}
noncomputable abbrev ZpO (fs:Array Value):Obj:={ cls:=.type "zip",dict:=none,data:=.fields fs,slots:=#[] }
theorem yO0 {tk:Tok} {Q:PySem.Fin->Shared->Prop} (hh:A.handled = none) (hx:h.get? a = some (ZpO fs)) (hE:∀ h' tk' e,Heap.NewAttrErr h h' e (.ref a) "keys"->E (.ref e) ⟨h',g,d,tk',os⟩) :
  wpAny (model prog w) A (Builtin.«object.__getattribute__» ⟨[.ref a,.str "keys" tk],[]⟩) Q E ⟨h,g,d,t,os⟩:=by
 have hT:(⟨h,g,d,t,os⟩:Shared).TypeIs (.ref a) "zip":=⟨_,hx,rfl⟩
 have f4:=yN9
 repeat (any_goals (first | assumption | wp_step))
 exact wpAny_raiseAttrError hh hE (attrMsg_fits (by decide +kernel) (by size_fits))
theorem xI1 {Q:Option Value->Shared->Prop} (hh:A.handled = none) (hx:h.get? a = some (ZpO fs)) (fin:∀ h' tk,(∀ b o,h.get? b = some o->h'.get? b = some o)->Q none ⟨h',g,d,tk,os⟩) :
  wpAny (model prog w) A (getAttr? (.ref a) "keys") Q E ⟨h,g,d,t,os⟩:=by
 have hT:∀ t',(⟨h,g,d,t',os⟩:Shared).TypeIs (.ref a) "zip":=fun _=>⟨_,hx,rfl⟩
 have hT0:=hT t
 have hT1:=hT (t + 1)
 have f1:=sub_AttributeError
 have f3:=F.slot_zip_getattribute.lookup
 have f4:=F.slot_zip_getattribute.bind (.ref a)
 have f5:=zU2
 unfold getAttr? getAttrBy? getAttrBy
 repeat (any_goals (first | assumption | wp_step))
 refine codeAny_call_builtin F.slot_zip_getattribute.plain yJ7 (F.slot_zip_getattribute.check _ _ _ _ _ _ _ _ (hT _) (F.args_zip_getattribute_2 _ _) (yO0 (by first | exact hh | simp [hh]) hx fun h' tk' e hx'=>?_))
 obtain ⟨t',u',he⟩:=hx'.there
 have hk:=hx'.keeps
 show wpAny _ _ (getattributeRaised _ _ _ _ _ _ _) _ _ _
 unfold getattributeRaised
 repeat (any_goals (first | assumption | wp_step))
 exact fin _ _ hk
end
section
variable {P:Program} {w:World} {A:Around} {E:Value->Shared->Prop} {s:Shared}
noncomputable abbrev ZpB (h:Heap) (z ti to' a:Addr) (b:Bool):Prop:=h.get? z = some { cls:=.type "zip",dict:=none,data:=.fields #[rawInt a,.bool b,.bool false,.ref ti,.ref to'],slots:=#[] }
theorem xF8 {z ti to' m n l l' a:Addr} {k:Nat} {b:Bool} {xs ys:Array Value} {x y:Value} {Q:Value->Shared->Prop} (D:ZipApart z ti to' m n l l') (zz:ZpB s.heap z ti to' a b) (ha:∃ o,s.heap.get? a = some o) (hT:IsPair s.heap ti (.ref m) (.ref n))
  (h1:s.heap.IsListIter m l k) (h2:s.heap.IsListIter n l' k) (hl1:s.heap.IsList l xs) (hl2:s.heap.IsList l' ys) (hx:xs[k]? = some x) (hy:ys[k]? = some y)
  (fin:∀ g,ZpB g z ti to' a true->g.IsListIter m l (k + 1)->g.IsListIter n l' (k + 1)->IsPair g s.heap.objs.size x y->(∀ c o,c ≠ z->c ≠ m->c ≠ n->s.heap.get? c = some o->g.get? c = some o)->Q (.ref s.heap.objs.size) { s with heap:=g }) :
  wpAny (model P w) A (Builtin.«zip.__next__» ⟨[.ref z],[]⟩) (fun r s'=>∃ v,r = .done (.ret v) /\ Q v s') E s:=by
 obtain ⟨hp,gg,dr,tk,os⟩:=s
 show wpAny (model P w) _ (field (.ref z) 2 >>= _) _ _ _
 refine wpAny_bind (wpAny_field zz rfl (x:=.bool false) rfl ?_)
 show wpAny (model P w) _ (field (.ref z) 3 >>= _) _ _ _
 refine wpAny_bind (wpAny_field zz rfl (x:=.ref ti) rfl (wpAny_bind (wpAny_seqItems hT rfl ?_)))
 show wpAny (model P w) _ (Builtin.SmallTypes.ownedTupleIsFree (.ref z) >>= _) _ _ _
 obtain ⟨oa,ga⟩:=ha
 refine wpAny_bind ?_
 unfold Builtin.SmallTypes.ownedTupleIsFree
 refine wpAny_bind (wpAny_field zz rfl (x:=rawInt a) rfl ?_)
 show wpAny (model P w) _ (loadIfAlive a >>= _) _ _ _
 refine wpAny_bind (yU4 ga ?_)
 simp only [Option.isNone_some,Bool.false_eq_true,if_false]
 refine wpAny_bind (wpAny_field zz rfl (x:=.bool b) rfl ?_)
 have go:∀ g1:Heap,ZpB g1 z ti to' a true->Heap.SameBut z hp g1->∀ (f:Value->(Option PySem.Fin × Array Value)->Sem (ForInStep (Option PySem.Fin × Array Value))) (fe:(Option PySem.Fin × Array Value)->Sem PySem.Fin),
   (∀ (it:Addr) (u:Option PySem.Fin × Array Value) (q:Value) (Z:ForInStep (Option PySem.Fin × Array Value)->Shared->Prop) (s1:Shared),wpAny (model P w) A (Builtin.SmallTypes.nextOf (.ref it)) (fun v s2=>Z (.yield (none,u.2.push v)) s2) E s1->wpAny (model P w) A (f (.ref it) u) Z E s1) ->
   (∀ vs:Array Value,fe (none,vs) = newTuple vs.toList >>= fun r=>ret r) ->
   wpAny (model P w) A (forIn #[Value.ref m,Value.ref n] (none,#[]) f >>= fe) (fun r s'=>∃ v,r = .done (.ret v) /\ Q v s') E ⟨g1,gg,dr,tk,os⟩:=by
  intro g1 z1 b1 f fe hf hfe
  have e:forIn #[Value.ref m,Value.ref n] ((none,#[]):Option PySem.Fin × Array Value) f = forIn [Value.ref m,Value.ref n] ((none,#[]):Option PySem.Fin × Array Value) f:=by simp
  rw [e]
  simp only [List.forIn_cons,List.forIn_nil]
  refine wpAny_bind (wpAny_bind (hf m _ .none _ _ (wpAny_nextOf_list_item (h1.extBut b1.extBut D.i1z) (hl1.extBut b1.extBut D.l1z) hx fun g2 i2 b2=>?_)))
  refine wpAny_bind (hf n _ .none _ _ (wpAny_nextOf_list_item ((h2.extBut b1.extBut D.i2z).extBut b2.extBut D.i12.symm) ((hl2.extBut b1.extBut D.l2z).extBut b2.extBut D.l2i1) hy fun g3 i3 b3=>?_))
  refine wpAny_pure ?_
  rw [hfe]
  refine wpAny_bind (wpAny_newTuple (hsz:=(show (2:Nat) <= sizeLine by decide)) ?_)
  have es:g3.objs.size = hp.objs.size:=by rw [b3.1,b2.1,b1.1]
  have k3:∀ c o,c ≠ z->c ≠ m->c ≠ n->hp.get? c = some o->g3.get? c = some o:=fun c o c1 c2 c3 e=>b3.extBut _ _ c3 (b2.extBut _ _ c2 (b1.extBut _ _ c1 e))
  have z3:ZpB g3 z ti to' a true:=b3.extBut _ _ D.i2z.symm (b2.extBut _ _ D.i1z.symm z1)
  refine wpAny_pure ⟨_,rfl,?_⟩
  show Q (.ref g3.objs.size) _
  rw [es]
  refine fin _ (Heap.get?_push_of_some _ z3) ((i2.extBut b3.extBut D.i12).at fun o q=>Heap.get?_push_of_some _ q) (i3.at fun o q=>Heap.get?_push_of_some _ q) ?_ fun c o c1 c2 c3 q=>Heap.get?_push_of_some _ (k3 c o c1 c2 c3 q)
  show IsPair _ hp.objs.size x y
  rw [<- es]
  exact Heap.get?_push_size _ rfl
 cases b with
 | true =>
  refine wpAny_pure ?_
  simp only [Bool.false_eq_true,if_false]
  refine go hp zz ⟨rfl,fun _ _=>rfl⟩ _ _ (fun it u q Z s1 h=>?_) fun vs=>rfl
  refine wpAny_bind (wpAny_holding ?_)
  show wpAny (model P w) A (Builtin.SmallTypes.nextOf (.ref it) >>= _) _ _ _
  exact wpAny_bind (wpAny_mono h (fun v s2 z=>wpAny_pure (wpAny_pure z)) fun _ _ z=>z)
 | false =>
  refine wpAny_bind (wpAny_setField_rec zz (by simp) fun g1 z1 b1=>?_)
  replace z1:ZpB g1 z ti to' a true:=z1
  refine wpAny_pure ?_
  simp only [Bool.false_eq_true,if_false]
  refine go g1 z1 b1 _ _ (fun it u q Z s1 h=>?_) fun vs=>rfl
  refine wpAny_bind (wpAny_holding ?_)
  show wpAny (model P w) A (Builtin.SmallTypes.nextOf (.ref it) >>= _) _ _ _
  exact wpAny_bind (wpAny_mono h (fun v s2 z=>wpAny_pure (wpAny_pure z)) fun _ _ z=>z)
theorem xF9 {z ti to' m n l l' a:Addr} {k:Nat} {b:Bool} {xs:Array Value} {Q:PySem.Fin->Shared->Prop} (hh:A.handled = none) (D:ZipApart z ti to' m n l l') (zz:ZpB s.heap z ti to' a b) (ha:∃ o,s.heap.get? a = some o) (hT:IsPair s.heap ti (.ref m) (.ref n))
  (h1:s.heap.IsListIter m l k) (hl1:s.heap.IsList l xs) (hx:xs[k]? = none)
  (fin:∀ g e,(∀ c o,c ≠ z->c ≠ m->s.heap.get? c = some o->g.get? c = some o)->(∃ o,g.get? e = some o /\ o.cls = .type "StopIteration")->E (.ref e) { s with heap:=g }) :
  wpAny (model P w) A (Builtin.«zip.__next__» ⟨[.ref z],[]⟩) Q E s:=by
 obtain ⟨hp,gg,dr,tk,os⟩:=s
 show wpAny (model P w) _ (field (.ref z) 2 >>= _) _ _ _
 refine wpAny_bind (wpAny_field zz rfl (x:=.bool false) rfl ?_)
 show wpAny (model P w) _ (field (.ref z) 3 >>= _) _ _ _
 refine wpAny_bind (wpAny_field zz rfl (x:=.ref ti) rfl (wpAny_bind (wpAny_seqItems hT rfl ?_)))
 show wpAny (model P w) _ (Builtin.SmallTypes.ownedTupleIsFree (.ref z) >>= _) _ _ _
 obtain ⟨oa,ga⟩:=ha
 refine wpAny_bind ?_
 unfold Builtin.SmallTypes.ownedTupleIsFree
 refine wpAny_bind (wpAny_field zz rfl (x:=rawInt a) rfl ?_)
 show wpAny (model P w) _ (loadIfAlive a >>= _) _ _ _
 refine wpAny_bind (yU4 ga ?_)
 simp only [Option.isNone_some,Bool.false_eq_true,if_false]
 refine wpAny_bind (wpAny_field zz rfl (x:=.bool b) rfl ?_)
 have go:∀ g1:Heap,Heap.SameBut z hp g1->∀ (f:Value->(Option PySem.Fin × Array Value)->Sem (ForInStep (Option PySem.Fin × Array Value))) (fe:(Option PySem.Fin × Array Value)->Sem PySem.Fin),
   (∀ (it:Addr) (u:Option PySem.Fin × Array Value) (Z:ForInStep (Option PySem.Fin × Array Value)->Shared->Prop) (s1:Shared),wpAny (model P w) A (Builtin.SmallTypes.nextOf (.ref it)) (fun v s2=>Z (.yield (none,u.2.push v)) s2) E s1->wpAny (model P w) A (f (.ref it) u) Z E s1) ->
   wpAny (model P w) A (forIn #[Value.ref m,Value.ref n] (none,#[]) f >>= fe) Q E ⟨g1,gg,dr,tk,os⟩:=by
  intro g1 b1 f fe hf
  have e:forIn #[Value.ref m,Value.ref n] ((none,#[]):Option PySem.Fin × Array Value) f = forIn [Value.ref m,Value.ref n] ((none,#[]):Option PySem.Fin × Array Value) f:=by simp
  rw [e]
  simp only [List.forIn_cons,List.forIn_nil]
  exact wpAny_bind (wpAny_bind (hf m _ _ _ (wpAny_nextOf_list_end hh (h1.extBut b1.extBut D.i1z) (hl1.extBut b1.extBut D.l1z) hx fun g2 e2 b2 h2=>fin g2 e2 (fun c o c1 c2 q=>b2 c o c2 (b1.extBut c o c1 q)) h2)))
 cases b with
 | true =>
  refine wpAny_pure ?_
  simp only [Bool.false_eq_true,if_false]
  refine go hp ⟨rfl,fun _ _=>rfl⟩ _ _ (fun it u Z s1 h=>?_)
  refine wpAny_bind (wpAny_holding ?_)
  show wpAny (model P w) A (Builtin.SmallTypes.nextOf (.ref it) >>= _) _ _ _
  exact wpAny_bind (wpAny_mono h (fun v s2 z=>wpAny_pure (wpAny_pure z)) fun _ _ z=>z)
 | false =>
  refine wpAny_bind (wpAny_setField_rec zz (by simp) fun g1 z1 b1=>?_)
  refine wpAny_pure ?_
  simp only [Bool.false_eq_true,if_false]
  refine go g1 b1 _ _ (fun it u Z s1 h=>?_)
  refine wpAny_bind (wpAny_holding ?_)
  show wpAny (model P w) A (Builtin.SmallTypes.nextOf (.ref it) >>= _) _ _ _
  exact wpAny_bind (wpAny_mono h (fun v s2 z=>wpAny_pure (wpAny_pure z)) fun _ _ z=>z)
noncomputable def ZpG (h:Heap) (z ti to' m n d:Addr):Prop:=(IsZip h z ti to' .none /\ ∃ u v,IsPair h to' u v) \/ ∃ a b,ZpB h z ti to' a b /\ (∃ o,h.get? a = some o) /\ a ≠ d /\ a ≠ z /\ a ≠ m /\ a ≠ n
theorem xB5 {z ti to' m n l l' d:Addr} {k:Nat} {xs ys:Array Value} {x y:Value} {Q:Option Value->Shared->Prop} (D:ZipApart z ti to' m n l l') (zz:ZpG s.heap z ti to' m n d) (dlt:d < s.heap.objs.size) (hT:IsPair s.heap ti (.ref m) (.ref n))
  (h1:s.heap.IsListIter m l k) (h2:s.heap.IsListIter n l' k) (hl1:s.heap.IsList l xs) (hl2:s.heap.IsList l' ys) (hx:xs[k]? = some x) (hy:ys[k]? = some y)
  (fin:∀ g,ZpG g z ti to' m n d->g.IsListIter m l (k + 1)->g.IsListIter n l' (k + 1)->IsPair g s.heap.objs.size x y->(∀ c o,c ≠ z->c ≠ to'->c ≠ m->c ≠ n->s.heap.get? c = some o->g.get? c = some o)->Q (some (.ref s.heap.objs.size)) { s with heap:=g }) :
  wpAny (model P w) A (pyNext (.ref z)) Q E s:=by
 rcases zz with ⟨zz,u,v,po⟩ | ⟨a,b,zz,ha,had,haz,ham,han⟩
 ·exact wpAny_pyNext_zip_item D zz hT po h1 h2 hl1 hl2 hx hy fun g jz jo j1 j2 jt hsz kp=>fin g (.inr ⟨_,false,jz,⟨_,jt⟩,Nat.ne_of_gt dlt,Nat.ne_of_gt (Heap.lt_size zz),Nat.ne_of_gt (let ⟨_,q,_⟩:=h1; Heap.lt_size q),Nat.ne_of_gt (let ⟨_,q,_⟩:=h2; Heap.lt_size q)⟩) j1 j2 jt kp
 ·have ty:s.TypeIs (.ref z) "zip":=⟨_,zz,rfl⟩
  unfold pyNext
  refine wpAny_bind (wpAny_attempt (wpAny_callSpecial?_slot (name:=Str.ofString "__next__") ty F.slot_zip_next (wpAny_call_entry F.slot_zip_next ty F.entry_zip_next
   (xF8 D zz ha hT h1 h2 hl1 hl2 hx hy fun g a1 a2 a3 a4 a5=>wpAny_pure (fin g (.inr ⟨a,true,a1,ha.imp fun o q=>a5 a o haz ham han q,had,haz,ham,han⟩) a2 a3 a4 fun c o c1 _ c3 c4 q=>a5 c o c1 c3 c4 q)) (F.args_zip_next_1 _))))
theorem xJ4 {z ti to' m n l l' d:Addr} {k:Nat} {xs ys:Array Value} {Q:Option Value->Shared->Prop} (hh:A.handled = none) (D:ZipApart z ti to' m n l l') (zz:ZpG s.heap z ti to' m n d) (hT:IsPair s.heap ti (.ref m) (.ref n))
  (h1:s.heap.IsListIter m l k) (h2:s.heap.IsListIter n l' k) (hl1:s.heap.IsList l xs) (hl2:s.heap.IsList l' ys) (hx:xs[k]? = none)
  (fin:∀ g,(∀ c o,c ≠ z->c ≠ to'->c ≠ m->c ≠ n->s.heap.get? c = some o->g.get? c = some o)->Q none { s with heap:=g }) :
  wpAny (model P w) A (pyNext (.ref z)) Q E s:=by
 rcases zz with ⟨zz,u,v,po⟩ | ⟨a,b,zz,ha,_⟩
 ·exact wpAny_pyNext_zip_end hh D zz hT po h1 h2 hl1 hl2 (.inl hx) fin
 ·have ty:s.TypeIs (.ref z) "zip":=⟨_,zz,rfl⟩
  unfold pyNext
  refine wpAny_bind (wpAny_attempt (wpAny_callSpecial?_slot (name:=Str.ofString "__next__") ty F.slot_zip_next (wpAny_call_entry F.slot_zip_next ty F.entry_zip_next (xF9 hh D zz ha hT h1 hl1 hx fun g e kp he=>?_) (F.args_zip_next_1 _))))
  obtain ⟨o,ho,hc⟩:=he
  exact wpAny_bind (wpAny_isInstance (T:="StopIteration") (b:=true) ⟨o,ho,hc⟩ isSubtype_stop (wpAny_pure (fin _ fun c o c1 _ c3 _ q=>kp c o c1 c3 q)))
end
noncomputable def zkV (ks:List Str) (us:List Value) (i:Nat):List (Key × Value):=((ks.zip us).take i).map fun p=>(.inr p.1,p.2)
theorem xR9 (ks:List Str) (us:List Value) (i:Nat):(zkV ks us i).length <= i:=by
 unfold zkV; rw [List.length_map,List.length_take]; omega
theorem xN9 {ks:List Str} {us:List Value} {i:Nat} {x:Str} {u:Value} (nd:ks.Nodup) (hk:ks[i]? = some x) (hu:us[i]? = some u):stored (zkV ks us i) (.inr x) u = zkV ks us (i + 1):=by
 have hz:(ks.zip us)[i]? = some (x,u):=by
  rw [List.getElem?_zip_eq_some]; exact ⟨hk,hu⟩
 unfold stored
 rw [if_neg]
 ·unfold zkV
  rw [List.take_add_one,hz,List.map_append]; rfl
 ·intro z
  rw [List.any_eq_true] at z
  obtain ⟨kv,hm,e⟩:=z
  unfold zkV at hm
  obtain ⟨⟨y,q⟩,h1,h2⟩:=List.mem_map.mp hm
  have e:kv.1 = (.inr x:Key):=of_decide_eq_true e
  rw [<- h2] at e
  have e:y = x:=Sum.inr.inj e
  obtain ⟨j,hj,ej⟩:=List.getElem_of_mem h1
  rw [List.length_take] at hj
  have hj1:(ks.zip us)[j]? = some (y,q):=by
   rw [List.getElem_take] at ej
   rw [List.getElem?_eq_getElem (by omega),ej]
  have hj2:=(List.getElem?_zip_eq_some.mp hj1).1
  rw [e] at hj2
  obtain ⟨l1,e1⟩:=List.getElem?_eq_some_iff.mp hj2
  obtain ⟨l2,e2⟩:=List.getElem?_eq_some_iff.mp hk
  exact List.pairwise_iff_getElem.mp nd j i l1 l2 (by omega) (e1.trans e2.symm)
theorem yX9:∀ {vs:List Value} {ks:List Str} {i:Nat} {v:Value},StrsAre vs ks->vs[i]? = some v->∃ x t,ks[i]? = some x /\ v = .str x t
 | _,_,i,v,.nil,h=>by simp at h
 | _,_,0,v,.cons y t _,h=>⟨y,t,rfl,by simpa using h.symm⟩
 | _,_,i + 1,v,.cons y t r,h=>by
  obtain ⟨x,t',h1,h2⟩:=yX9 (i:=i) r (by simpa using h)
  exact ⟨x,t',by simpa using h1,h2⟩
section
variable {P:Program} {w:World} {A:Around} {E:Value->Shared->Prop} {s:Shared}
theorem yO4 {R:Result->Shared->Prop} {z ti to' m n l l' d:Addr} {xs ys:Array Value} {ks:List Str} (hh:A.handled = none) (Da:ZipApart z ti to' m n l l') (nd:ks.Nodup) (hk:StrsAre xs.toList ks) (hy:ys.size = xs.size) (hz:xs.size < 4000)
  (d1:d ≠ z) (d2:d ≠ ti) (d3:d ≠ to') (d4:d ≠ m) (d5:d ≠ n) (d6:d ≠ l) (d7:d ≠ l') (t1:ti ≠ z) (t2:ti ≠ m) (t3:ti ≠ n) (t4:ti ≠ to') :
  ∀ (k i:Nat) (s:Shared),i + k = xs.size->ZpG s.heap z ti to' m n d->IsPair s.heap ti (.ref m) (.ref n)->s.heap.IsListIter m l i->s.heap.IsListIter n l' i->s.heap.IsList l xs->s.heap.IsList l' ys->s.heap.DictOf (zD9 P w) d (zkV ks ys.toList i) ->
   (∀ g tk,g.DictOf (zD9 P w) d (zkV ks ys.toList xs.size)->(∀ c o,c ≠ z->c ≠ to'->c ≠ m->c ≠ n->c ≠ d->s.heap.get? c = some o->g.get? c = some o)->R (.ok (.ret .none)) { s with heap:=g,toks:=tk }) ->
   codeAny (model P w) A (.builtin "dict.update.loop" ⟨[.ref d,.ref z,rawInt i,.none],[]⟩) R s:=by
 intro k
 induction k with
 | zero =>
  intro i s hi zz hT h1 h2 hl1 hl2 hd fin
  have:i = xs.size:=by omega
  subst this
  refine codeAny_builtin yJ8 ?_
  rw [Around.under_plainId zR4 _]
  show wpAny (model P w) A.in1 (pyNext (.ref z) >>= _) _ _ s
  refine wpAny_bind (xJ4 (by first | exact hh | simp [hh]) Da zz hT h1 h2 hl1 hl2 (by simp) fun g b1=>?_)
  show wpAny (model P w) A.in1 (Builtin.Dict.addKeywords d [] >>= _) _ _ _
  refine wpAny_bind (wpAny_pure (wpAny_pure (fin g s.toks ?_ fun c o c1 c2 c3 c4 _ q=>b1 c o c1 c2 c3 c4 q)))
  obtain ⟨o,es,ep,ho,r⟩:=hd
  exact ⟨o,es,ep,b1 d o d1 d3 d4 d5 ho,r⟩
 | succ k ih =>
  intro i s hi zz hT h1 h2 hl1 hl2 hd fin
  refine codeAny_builtin yJ8 ?_
  rw [Around.under_plainId zR4 _]
  show wpAny (model P w) A.in1 (pyNext (.ref z) >>= _) _ _ s
  obtain ⟨x,hx⟩:∃ x,xs[i]? = some x:=⟨_,Array.getElem?_eq_getElem (by omega)⟩
  obtain ⟨y,hy1⟩:∃ y,ys[i]? = some y:=⟨_,Array.getElem?_eq_getElem (by omega)⟩
  obtain ⟨x0,t0,hk0,rfl⟩:=yX9 hk (by simpa using hx)
  refine wpAny_bind (xB5 Da zz (by obtain ⟨_,_,_,ho,_⟩:=hd; exact Heap.lt_size ho) hT h1 h2 hl1 hl2 hx hy1 fun g a1 a2 a3 a4 a5=>?_)
  obtain ⟨hp,gg,dr,tk,os⟩:=s
  have hd1:g.DictOf (zD9 P w) d (zkV ks ys.toList i):=by
   obtain ⟨o,es,ep,ho,r⟩:=hd
   exact ⟨o,es,ep,a5 d o d1 d3 d4 d5 ho,r⟩
  have a4:g.get? hp.objs.size = some { cls:=.type "tuple",data:=.seq #[.str x0 t0,y] }:=a4
  show wpAny (model P w) A.in1 (holding [.ref hp.objs.size] _ >>= _) _ _ ⟨g,gg,dr,tk,os⟩
  refine wpAny_bind (wpAny_holding (wpAny_bind (wpAny_tryCatch (yV6 a4 ?_))))
  show wpAny (model P w) A.in1 (holding [.str x0 t0,y] (dictSet d (.str x0 t0) y)) _ _ _
  refine wpAny_holding (wpAny_dictSet_pairs (zX7 P w x0 t0) hd1 (fun h2' hd2 s2=>?_) (Nat.le_trans (xR9 _ _ _) (Nat.le_trans (m:=4000) (by omega) (by decide))))
  rw [xN9 nd hk0 (by simpa using hy1)] at hd2
  replace s2:Heap.SameBut d g h2':=s2
  refine wpAny_pure ⟨plainId_quiet zR4 _,?_⟩
  have hTg:IsPair g ti (.ref m) (.ref n):=a5 _ _ t1 t4 t2 t3 hT
  refine ih (i + 1) ⟨h2',gg,dr,_,os⟩ (by omega) ?_ (s2.extBut _ _ (Ne.symm d2) hTg) (a2.extBut s2.extBut (Ne.symm d4)) (a3.extBut s2.extBut (Ne.symm d5)) ?_ ?_ hd2 fun g3 tk3 hd3 k3=>fin g3 tk3 hd3 fun c o c1 c2 c3 c4 c5 q=>k3 c o c1 c2 c3 c4 c5 (s2.extBut c o c5 (a5 c o c1 c2 c3 c4 q))
  ·rcases a1 with ⟨q1,u,v,q2⟩ | ⟨a,b,q,⟨o,qo⟩,q2,q3,q4,q5⟩
   ·exact .inl ⟨s2.extBut _ _ (Ne.symm d1) q1,u,v,s2.extBut _ _ (Ne.symm d3) q2⟩
   ·exact .inr ⟨a,b,s2.extBut _ _ (Ne.symm d1) q,⟨o,s2.extBut _ _ q2 qo⟩,q2,q3,q4,q5⟩
  ·exact (hl1.at fun o q=>a5 l o Da.l1z Da.l1TO Da.l1i1 Da.l1i2 q).extBut s2.extBut (Ne.symm d6)
  ·exact (hl2.at fun o q=>a5 l' o Da.l2z Da.l2TO Da.l2i1 Da.l2i2 q).extBut s2.extBut (Ne.symm d7)
theorem yF3 {z ti to' m n l l':Addr} {xs ys:Array Value} {ks:List Str} {Q:Value->Shared->Prop} (hh:A.handled = none) (Da:ZipApart z ti to' m n l l') (nd:ks.Nodup) (hk:StrsAre xs.toList ks) (hy:ys.size = xs.size) (hz:xs.size < 4000)
  (zz:IsZip s.heap z ti to' .none) (hT:IsPair s.heap ti (.ref m) (.ref n)) (hO:∃ u v,IsPair s.heap to' u v) (h1:s.heap.IsListIter m l 0) (h2:s.heap.IsListIter n l' 0) (hl1:s.heap.IsList l xs) (hl2:s.heap.IsList l' ys)
  (fin:∀ g tk,g.DictOf (zD9 P w) s.heap.objs.size (zkV ks ys.toList xs.size)->(∀ c o,c ≠ z->c ≠ to'->c ≠ m->c ≠ n->s.heap.get? c = some o->g.get? c = some o)->Q (.ref s.heap.objs.size) { s with heap:=g,toks:=tk }) :
  wpAny (model P w) A (call (.type "dict") [.ref z]) Q E s:=by
 refine callType_codes (Q₁:=fun obj s₁=>obj = .ref s.heap.objs.size /\ s₁ = { s with heap:=s.heap.push { cls:=.type "dict",data:=.dict #[] } }) F.kt_called_dict (F.kt_typeCall_dict_1 _) F.entry_dict_init (kt_code_dict_new _ ⟨rfl,rfl⟩) ?_
 rintro obj s₁ ⟨rfl,rfl⟩
 obtain ⟨hp,gg,dr,tk,os⟩:=s
 have hnew:(hp.push { cls:=.type "dict",data:=.dict #[] }).DictOf (zD9 P w) hp.objs.size []:=Heap.DictOf.new hp
 have k1:∀ c o,hp.get? c = some o->(hp.push { cls:=.type "dict",data:=.dict #[] }).get? c = some o:=fun c o q=>Heap.get?_push_of_some _ q
 have z1:IsZip (hp.push { cls:=.type "dict",data:=.dict #[] }) z ti to' .none:=k1 _ _ zz
 have ty1:(⟨hp.push { cls:=.type "dict",data:=.dict #[] },gg,dr,tk,os⟩:Shared).TypeIs (.ref z) "zip":=⟨_,z1,rfl⟩
 have lz:z < hp.objs.size:=Heap.lt_size zz
 have lti:ti < hp.objs.size:=Heap.lt_size hT
 obtain ⟨u,v,hO⟩:=hO
 have lto:to' < hp.objs.size:=Heap.lt_size hO
 have lm:m < hp.objs.size:=by obtain ⟨_,q,_⟩:=h1; exact Heap.lt_size q
 have ln:n < hp.objs.size:=by obtain ⟨_,q,_⟩:=h2; exact Heap.lt_size q
 have ll:l < hp.objs.size:=by obtain ⟨_,q,_⟩:=hl1; exact Heap.lt_size q
 have ll':l' < hp.objs.size:=by obtain ⟨_,q,_⟩:=hl2; exact Heap.lt_size q
 refine ⟨hnew.typeIs,F.args_dict_init_2 _ _,?_⟩
 unfold Builtin.«dict.__init__»
 refine wpAny_bind ?_
 unfold Builtin.Dict.selfAndRest
 refine wpAny_bind (wpAny_notOrdered_dict hnew.typeIs (wpAny_pure ?_))
 show wpAny (model P w) _ (Builtin.Dict.updateFrom "dict.__init__" hp.objs.size (.ref z) [] .none) _ _ ⟨hp.push { cls:=.type "dict",data:=.dict #[] },gg,dr,tk,os⟩
 generalize hp.push { cls:=.type "dict",data:=.dict #[] } = h1' at hnew z1 ty1 k1 ⊢
 unfold Builtin.Dict.updateFrom
 refine wpAny_bind (wpAny_typeOf ty1 ?_)
 rw [if_pos (by decide)]
 refine wpAny_bind (xI1 (by first | exact hh | simp [hh]) z1 fun h2' t2 k2=>?_)
 rw [if_pos (show (none:Option Value).isNone = true from rfl)]
 have z2:IsZip h2' z ti to' .none:=k2 _ _ z1
 refine wpAny_bind (wpAny_rule (wpAny_bind (wpAny_pyIter_zip z2 (wpAny_pure ⟨plainId_quiet zR4 _,?_⟩))))
 refine yO4 (by first | exact hh | simp [hh]) Da nd hk hy hz (Nat.ne_of_gt lz) (Nat.ne_of_gt lti) (Nat.ne_of_gt lto) (Nat.ne_of_gt lm) (Nat.ne_of_gt ln) (Nat.ne_of_gt ll) (Nat.ne_of_gt ll') Da.TIz Da.TIi1 Da.TIi2 Da.TITO xs.size 0 ⟨h2',gg,dr,t2,os⟩ (Nat.zero_add _) (.inl ⟨z2,u,v,k2 _ _ (k1 _ _ hO)⟩) (k2 _ _ (k1 _ _ hT)) ?_ ?_ ?_ ?_ ?_ fun g tk3 hd kp=>?_
 ·obtain ⟨o,q,r⟩:=h1; exact ⟨o,k2 _ _ (k1 _ _ q),r⟩
 ·obtain ⟨o,q,r⟩:=h2; exact ⟨o,k2 _ _ (k1 _ _ q),r⟩
 ·obtain ⟨o,q,r⟩:=hl1; exact ⟨o,k2 _ _ (k1 _ _ q),r⟩
 ·obtain ⟨o,q,r⟩:=hl2; exact ⟨o,k2 _ _ (k1 _ _ q),r⟩
 ·obtain ⟨o,es,ep,q,r⟩:=hnew; exact ⟨o,es,ep,k2 _ _ q,r⟩
 ·exact ⟨rfl,fin g tk3 hd fun c o c1 c2 c3 c4 q=>kp c o c1 c2 c3 c4 (Nat.ne_of_lt (Heap.lt_size q)) (k2 _ _ (k1 _ _ q))⟩
end
noncomputable def zipV (ks:List Str) (ys:List V):List (Key × V):=(ks.zip ys).map fun p=>(.inr p.1,p.2)
theorem yP5:∀ {ks:List Str} {ys:List V} {us:List Value},Vals ys us->KV (zipV ks ys) ((ks.zip us).map fun p=>(.inr p.1,p.2))
 | [],_,_,_=>.nil
 | _ :: _,_,_,.nil=>.nil
 | k :: ks,_,_,.cons a r=>.cons ⟨rfl,a⟩ (yP5 (ks:=ks) r)
noncomputable def xG3 (K:PySem.W.Frag) (ta:TA):TE:=fun σ H Q=>ta σ H fun vs H1=>∃ (a b:Addr) (ks:List Str) (ys:List V),vs = [V.ref a,V.ref b] /\ SqL K H1 a (ks.map V.str) /\ SqL K H1 b ys /\ ks.Nodup /\ ys.length = ks.length /\ ks.length < 4000 /\ ∀ p,H1 p = none->Q (.ref p) (upd H1 p (.dK (zipV ks ys)))
theorem yV3 {X:Cx} {K:PySem.W.Frag} {a b:Expr} {ta:TA} {p p2 pos pos2:Pos} (hK:X.K = K) (hc:X.calm = true) (hg:Gl X "dict") (hm:X.mg "dict" = none) (hg2:Gl X "zip") (hm2:X.mg "zip" = none) (ha:PA X [a,b] ta)
  (hs:starEach [a,b] X.env = (false,eval a X.env) :: starEach [b] X.env:=by rfl) (hs2:starEach [b] X.env = [(false,eval b X.env)]:=by rfl) (hs3:starEach [.Call (.Name "zip" p2) [a,b] [] pos2] X.env = [(false,eval (.Call (.Name "zip" p2) [a,b] [] pos2) X.env)]:=by rfl) :
  PE X (.Call (.Name "dict" p) [.Call (.Name "zip" p2) [a,b] [] pos2] [] pos) (xG3 K ta):=by
 subst hK
 intro pins s σ H Q I h
 refine Call_ (zQ1 I hg hm yF5 (PyProof.Rows.callWith_type1 ?_ hs3 rfl))
 rw [hs3]
 show wpAny _ _ (spliced ((false,eval (.Call (.Name "zip" p2) [a,b] [] pos2) X.env) :: [])) _ _ s
 refine Calls.spliced_cons (Call_ (zQ1 I hg2 hm2 xN4 (PyProof.Rows.callWith_type1 (thn (ha pos2 pins s σ H _ I h) fun us s1 ⟨vs,H1,I1,r1,q1⟩=>?_) hs (by rw [hs2]; rfl))))
 obtain ⟨b1,b2,ks,ys,rfl,hq1,hq2,nd,hlen,h4,q⟩:=q1
 obtain ⟨u,u',rfl,ru,ru'⟩:=xO0 r1
 cases ru
 cases ru'
 obtain ⟨its1,rv1,p1,hz1⟩:=I1.list hq1
 obtain ⟨its2,rv2,p2',hz2⟩:=I1.list hq2
 have l1:its1.length = ks.length:=by rw [<- rv1.length,List.length_map]
 have l2:its2.length = ks.length:=by rw [<- rv2.length]; exact hlen
 have lt1:b1 < s1.heap.objs.size:=by obtain ⟨_,q,_⟩:=p1.isList; exact Heap.lt_size q
 have lt2:b2 < s1.heap.objs.size:=by obtain ⟨_,q,_⟩:=p2'.isList; exact Heap.lt_size q
 refine call_zip_2 p1.isList p2'.isList fun h' jz jt jo j1 j2 hsz kp=>Calls.spliced_nil ?_
 have ea:h'.objs.size = s1.heap.objs.size + 5:=hsz
 refine yF3 (xs:=its1.toArray) (ys:=its2.toArray) (ks:=ks) (I1.ok.hd hc) (zipApart_new lt1 lt2) nd (by simpa using zM3 rv1) (by simp [l1,l2]) (by rw [List.size_toArray]; omega) jz jt ⟨_,_,jo⟩ j1 j2 ?_ ?_ fun g tk hd kk=>?_
 ·obtain ⟨o,q,r⟩:=p1.isList; exact ⟨o,kp _ _ q,r⟩
 ·obtain ⟨o,q,r⟩:=p2'.isList; exact ⟨o,kp _ _ q,r⟩
 have zl:(zipV ks ys).length <= 4000:=by unfold zipV; rw [List.length_map,List.length_zip]; omega
 have ne:∀ {b:Addr} {ob:Obj} {j:Nat},s1.heap.get? b = some ob->b ≠ s1.heap.objs.size + j:=fun e=>Nat.ne_of_lt (Nat.lt_of_lt_of_le (Heap.lt_size e) (Nat.le_add_right _ _))
 refine ⟨.ref _,_,I1.laid (a:=h'.objs.size) (o:=.dK (zipV ks ys)) (t':=tk) (fun b ob e=>kk b ob (ne (j:=4) e) (ne (j:=3) e) (ne (j:=0) e) (ne (j:=1) e) (kp b ob e)) (by rw [ea]; exact Nat.le_add_right _ _) ⟨Nat.le_trans zl (by decide),?_,_,yP5 rv2,?_⟩,rfl,q _ (I1.hok.fresh (by rw [ea]; exact Nat.le_add_right _ _))⟩
 ·refine beq_eq_false_iff_ne.mpr (Nat.ne_of_gt ?_)
  rw [ea]
  exact Nat.lt_of_lt_of_le I1.big (Nat.le_add_right _ _)
 ·have hd:g.DictOf (zD9 X.prog X.w) h'.objs.size (zkV ks its2.toArray.toList its1.toArray.size):=hd
  unfold zkV at hd
  rw [List.take_of_length_le (by rw [List.length_zip,List.size_toArray]; omega)] at hd
  simpa using hd
end L2
namespace L2
open PySem PySem.Spec PyProof.Rows
theorem zO4:∀ {vs:List Value} {ys:List Str},StrsAre vs ys->Vals (ys.map V.str) vs
 | _,_,.nil=>.nil
 | _,_,.cons y t r=>.cons ⟨t,rfl⟩ (zO4 r)
section
variable {P0:Program} {w0:World} {A0:Around} {E0':Value->Shared->Prop} {s0:Shared} {T0:String} {r0 d0:Addr} {n0:Nat} {F0:Nat->Value->Prop} {G0:Heap->Prop}
theorem yK1 {R0:List Value->Shared->Prop} (S:PySem.W.KdlSrc P0 w0 T0 r0 d0 n0 F0 G0) (hh:A0.handled = none) (ok:G0 s0.heap) (hn:n0 <= sizeLine)
  (fin:∀ (h1:Heap) (t1:Nat) (ac:Array Value),(∀ b o,s0.heap.get? b = some o->h1.get? b = some o)->s0.heap.objs.size < h1.objs.size->PySem.ItemsOf F0 ac n0->R0 ac.toList { s0 with heap:=h1,toks:=t1 }) :
  wpAny (model P0 w0) A0 (collect (.ref r0)) R0 E0' s0:=by
 have lt:=S.there _ ok
 have ne1:=Nat.ne_of_gt lt.1
 have ne2:=Nat.ne_of_gt lt.2
 unfold collect
 refine wpAny_bind (wpAny_runValue (codeAny_builtin entry_proto_collect' ?_))
 rw [Around.under_plainId PySem.F.plain_proto_collect _]
 refine (show wpAny (model P0 w0) A0.in1 (newList [] >>= fun l=>again (.builtin "list.__iadd__" ⟨[l,.ref r0],[]⟩)) _ _ s0 from wpAny_bind (wpAny_newObj_type (wpAny_pure ⟨plainId_quiet PySem.F.plain_list_iadd _,codeAny_builtin entry_list_iadd' ?_⟩)))
 rw [Around.under_plainId PySem.F.plain_list_iadd _]
 let hp:Heap:=s0.heap.push { cls:=.type "list",data:=.seq ([]:List Value).toArray }
 have new:hp.get? s0.heap.objs.size = some { cls:=.type "list",data:=.seq #[] }:=Heap.get?_push_size _ rfl
 have key:=PySem.W.kdl_extend (A:=A0) (s:={ s0 with heap:=hp })
  (R:=fun (z:Result) (u:Shared)=>∃ (h1:Heap) (t1:Nat) (ac:Array Value) (c:Nat),z = .ok (.ret (.ref s0.heap.objs.size)) /\ u = { s0 with heap:=h1,toks:=t1 } /\ (∀ b o,s0.heap.get? b = some o->h1.get? b = some o) /\
   h1.get? s0.heap.objs.size = some { cls:=.type "list",dict:=none,data:=.seq ac c,slots:=#[] } /\ PySem.ItemsOf F0 ac n0)
  S hh (S.keep _ _ ok fun b _ o e=>Heap.get?_push_of_some _ e) s0.heap.objs.size ne1 ne2 (.ref s0.heap.objs.size) 0 new
  (fun h1 t1 ac c k1 k2 k3=>⟨h1,t1,ac,c,rfl,rfl,fun b o e=>k1 b o (Nat.ne_of_lt (Heap.lt_size e)) (Heap.get?_push_of_some _ e),k2,k3⟩) hn
 have go:∀ u,(∃ (h1:Heap) (t1:Nat) (ac:Array Value) (c:Nat),u = { s0 with heap:=h1,toks:=t1 } /\ (∀ b o,s0.heap.get? b = some o->h1.get? b = some o) /\
   h1.get? s0.heap.objs.size = some { cls:=.type "list",dict:=none,data:=.seq ac c,slots:=#[] } /\ PySem.ItemsOf F0 ac n0)->wpAny (model P0 w0) A0 (load s0.heap.objs.size >>= fun o=>match o.data with | .seq items _=>pure items.toList | _=>unsupported "internal:collect") R0 E0' u:=by
  rintro u ⟨h1,t1,ac,c,rfl,k1,k2,k3⟩
  exact wpAny_bind (wpAny_load k2 (wpAny_pure (fin h1 t1 ac k1 (Heap.lt_size k2) k3)))
 refine wpAny_mono key (fun z u x=>?_) fun e u x=>?_
 ·cases z with
  | done f =>
   obtain ⟨h1,t1,ac,c,e,rfl,k1,k2,k3⟩:=x
   cases e
   exact go _ ⟨h1,t1,ac,c,rfl,k1,k2,k3⟩
  | again c1 =>
   refine ⟨x.1,codeAny_mono x.2 fun z u y=>?_⟩
   obtain ⟨h1,t1,ac,c,rfl,rfl,k1,k2,k3⟩:=y
   exact go _ ⟨h1,t1,ac,c,rfl,k1,k2,k3⟩
 ·obtain ⟨_,_,_,_,e,_⟩:=x
  cases e
end
section
variable {X:Cx} {K:PySem.W.Frag}
theorem yK2:zO3 X (.builtin "sorted") (fun xs H Q=>∃ (a:Addr) (ss:List Str),xs = [V.ref a] /\ SqL X.K H a (ss.map V.str) /\ ss.length < 64 /\ ∀ ss',ss'.Perm ss->sortedS ss' = true->∀ l,H l = none->Q (.ref l) (upd H l (.lst (ss'.map V.str)))):=by
 intro pins s σ H xs us Q I r h
 obtain ⟨a,ss,rfl,hq,h64,q⟩:=h
 obtain ⟨u,rfl,ru⟩:=zU3 r
 cases ru
 obtain ⟨its,rv,pl,hz⟩:=I.list hq
 have hl:its.length = ss.length:=by rw [<- rv.length,List.length_map]
 refine sorted_strs pl.isList (zM3 rv) (by omega) fun out ss' a1 a2 a3=>?_
 obtain ⟨e,he⟩:=sortedAll_at s.heap its out
 refine ⟨.ref _,_,I.laid (a:=s.heap.objs.size + 1) (o:=.lst (ss'.map V.str)) (t':=s.toks) (fun b ob e=>sortedAll_old e) (Nat.le_succ _) ⟨?_,out.toList,e,zO4 a1,by simpa using he⟩,rfl,q ss' a2 a3 _ (I.hok.fresh (Nat.le_succ _))⟩
 rw [List.length_map,a2.length_eq]
 exact Nat.le_trans (m:=4000) (by omega) (by decide)
theorem yF2 (h:X.K = K):zO3 X (.builtin "sorted") (fun xs H Q=>∃ (a:Addr) (ss:List Str),xs = [V.ref a] /\ SqL K H a (ss.map V.str) /\ ss.length < 64 /\ ∀ ss',ss'.Perm ss->sortedS ss' = true->∀ l,H l = none->Q (.ref l) (upd H l (.lst (ss'.map V.str)))):=by subst h; exact yK2
theorem yK3 (hc:X.calm = true):zO3 X (.builtin "sorted") (fun xs H Q=>∃ (d:Addr) (kvs:List (Key × V)) (ss:List Str),xs = [V.ref d] /\ H d = some (.dK kvs) /\ kvs.map (·.1) = ss.map Sum.inr /\ ss.length < 64 /\ ∀ ss',ss'.Perm ss->sortedS ss' = true->∀ l,H l = none->Q (.ref l) (upd H l (.lst (ss'.map V.str)))):=by
 intro pins s σ H xs us Q I r h
 obtain ⟨d,kvs,ss,rfl,hd,hk,h64,q⟩:=h
 obtain ⟨w0,rfl,rw0⟩:=zU3 r
 cases rw0
 obtain ⟨o,es,ep,ps,g,ex,dat,hs,hps0,rel⟩:=I.raw hd (show isDk (.dK kvs) = true from rfl)
 have hps:ps = kvs.map fun kv=>(kV kv.1,kv.2):=hps0
 have hlen:ps.length = es.size:=by rw [rel.length]; simp
 have hkl:ss.length = ps.length:=by
  rw [hps,List.length_map,<- List.length_map (f:=(·.1)) (as:=kvs),hk,List.length_map]
 refine Calls.call_function_entry kind_sorted plain_sorted entry_sorted (args_sorted1 _) ?_
 unfold Builtin.«sorted»
 refine wpAny_bind (m:=checkCount "sorted" 1 1 _) (wpAny_pure ?_)
 refine wpAny_bind (yK1 (A0:=X.A.in1) (yQ2 (es:=es) (ep:=ep) hs) (I.ok.hd hc) ⟨o,g,ex,dat⟩ (Nat.le_trans (m:=4000) (by omega) (by decide)) fun h' tk acc kk hgr hacc=>?_)
 have sa:StrsAre acc.toList ss:=by
  have e1:acc.toList = es.toList.map (·.key):=by
   apply List.ext_getElem?
   intro j
   rw [List.getElem?_map]
   by_cases hj:j < es.size
   ·have hj2:j < acc.size:=by rw [hacc.1]; exact hj
    obtain ⟨e,he,hv⟩:=hacc.2 j acc[j] (by simp [hj2])
    have e2:es.toList[j]? = some e:=by simpa using he
    rw [e2]
    simp [hj2,hv]
   ·have hj2:¬ j < acc.size:=by rw [hacc.1]; exact hj
    rw [List.getElem?_eq_none (by simp; omega),List.getElem?_eq_none (by simp; omega)]; rfl
  have vr:Vals (ps.map (·.1)) acc.toList:=by
   rw [e1]
   clear hlen hkl hps hps0 e1 hacc
   generalize es.toList = el at rel
   induction rel with
   | nil=>exact .nil
   | cons h t ih=>exact .cons h.1 ih
  have e2:ps.map (·.1) = ss.map V.str:=by
   rw [hps,List.map_map]
   have:(kvs.map fun kv=>kV kv.1) = (kvs.map (·.1)).map kV:=by rw [List.map_map]; rfl
   show (kvs.map fun kv=>kV kv.1) = _
   rw [this,hk,List.map_map]; rfl
  rw [e2] at vr
  exact zM3 vr
 have hl2:acc.toList.length = ss.length:=by
  have:=hacc.1
  rw [Array.length_toList]; omega
 refine wpAny_bind (wpAny_newList ?_ (Nat.le_trans (m:=4000) (by omega) (by decide)))
 have hoL:(h'.push (seqObj "list" acc.toList.toArray 0)).get? h'.objs.size = some (seqObj "list" acc.toList.toArray 0):=Heap.get?_push_size _ rfl
 refine wpAny_bind (wpAny_holding (wpAny_call_entry slot_list_sort ⟨_,hoL,rfl⟩ entry_list_sort (list_sort_treeK strKind_oneLt hoL sa.keysOf (fun v₁ v₂ rest e=>keyKind_strs (by rw [<- e]; exact sa)) (by omega) fun st' a1 a2=>⟨_,rfl,?_⟩) (args_list_sort _)))
 obtain ⟨ss',h1,h2,h3⟩:=sorted_out_str sa a1 a2
 refine wpAny_pure ⟨_,rfl,?_⟩
 have kk2:∀ b ob,s.heap.get? b = some ob->(sortedHeap (h'.push (seqObj "list" acc.toList.toArray 0)) h'.objs.size acc.toList ((arrOf st').map (·.2))).get? b = some ob:=fun b ob e=>by
  have e1:=kk b ob e
  have hlt:=Heap.lt_size e1
  rw [sortedHeap_old (Nat.ne_of_lt hlt) (by rw [size_push']; exact Nat.lt_succ_of_lt hlt)]
  exact Heap.get?_push_of_some _ e1
 have hsz:s.heap.objs.size <= h'.objs.size:=Nat.le_of_lt hgr
 obtain ⟨ee,he⟩:=sortedHeap_at (h:=h'.push (seqObj "list" acc.toList.toArray 0)) (a:=h'.objs.size) (vs:=acc.toList) (out:=(arrOf st').map (·.2)) (n:=0) hoL
 refine ⟨.ref _,_,I.laid (a:=h'.objs.size) (o:=.lst (ss'.map V.str)) (t':=tk) kk2 hsz ⟨?_,((arrOf st').map (·.2)).toList,ee,zO4 h1,?_⟩,rfl,q ss' h2 h3 _ (I.hok.fresh hsz)⟩
 ·rw [List.length_map,h2.length_eq]
  exact Nat.le_trans (m:=4000) (by omega) (by decide)
 ·show _ = some (seqObj "list" ((arrOf st').map (·.2)).toList.toArray ee)
  rw [Array.toArray_toList]
  exact he
end
end L2
namespace Tc
section
variable {α:Type} [DecidableEq α]
end
end Tc
namespace Tc
section
variable {α:Type} [DecidableEq α]
noncomputable def mass (C:List α) (P:α->α->Rat) (m:α->Rat):Nat->α->Rat
 | 0=>m
 | k + 1=>fun z=>sumL C fun y=>mass C P m k y * P y z
theorem yJ2 (C:List α) (P:α->α->Rat) (m:α->Rat):∀ k j,(sumL C fun z=>mass C P m k z * stay C P j z) = sumL C fun z=>m z * stay C P (j + k) z
 | 0,j=>rfl
 | k + 1,j=>by
  have e1:(sumL C fun z=>mass C P m (k + 1) z * stay C P j z) = sumL C fun z=>sumL C fun y=>mass C P m k y * (P y z * stay C P j z):=zC6 fun z _=>by
   show (sumL C fun y=>mass C P m k y * P y z) * stay C P j z = _
   have:=zM6 C (fun y=>mass C P m k y * P y z) (stay C P j z)
   have e:(sumL C fun y=>mass C P m k y * (P y z * stay C P j z)) = sumL C fun y=>stay C P j z * (mass C P m k y * P y z):=zC6 fun y _=>by grind
   rw [e,this]; grind
  rw [e1,zV8]
  have e2:(sumL C fun y=>sumL C fun z=>mass C P m k y * (P y z * stay C P j z)) = sumL C fun y=>mass C P m k y * stay C P (j + 1) y:=zC6 fun y _=>zM6 C _ _
  rw [e2,yJ2 C P m k (j + 1)]
  have:j + 1 + k = j + (k + 1):=by omega
  rw [this]
theorem yS4 (C:List α) (P:α->α->Rat) (m:α->Rat) (k:Nat):sumL C (mass C P m k) = sumL C fun z=>m z * stay C P k z:=by
 have:=yJ2 C P m k 0
 rw [Nat.zero_add] at this
 rw [<- this]
 exact zC6 fun z _=>by
  show _ = _ * (1:Rat)
  rw [Rat.mul_one]
theorem xI4 {C:List α} (P:α->α->Rat) (hC:C.Nodup) {x:α} (hx:x ∈ C) (k:Nat):sumL C (mass C P (dlt x) k) = stay C P k x:=by
 rw [yS4,zM7 hx]
 have e:sumL (C.erase x) (fun z=>dlt x z * stay C P k z) = 0:=zK6 _ _ fun z hz=>by
  have:=((hC.mem_erase_iff).mp hz).1
  unfold dlt
  rw [if_neg this,Rat.zero_mul]
 rw [e]
 unfold dlt
 rw [if_pos rfl]; grind
theorem yS6 {C:List α} {P:α->α->Rat} (S:SubC C P) (d:α->Rat):∀ k z,z ∈ C->absR (mass C P d k z) <= mass C P (fun y=>absR (d y)) k z
 | 0,_,_=>Rat.le_refl
 | k + 1,z,_=>by
  have a:=yU5 C fun y=>mass C P d k y * P y z
  refine Rat.le_trans a (zS2 fun y hy=>?_)
  rw [yU6 (S.nn y hy z)]
  have:=Rat.mul_nonneg (show 0 <= mass C P (fun y=>absR (d y)) k y - absR (mass C P d k y) by have:=yS6 S d k y hy; grind) (S.nn y hy z)
  grind
noncomputable def farL (C:List α) (d:α->Rat):Rat:=sumL C fun z=>absR (d z)
theorem xD7 {C:List α} {P:α->α->Rat} (S:SubC C P) (d:α->Rat) {k:Nat} {r:Rat} (h:∀ x ∈ C,stay C P k x <= r):farL C (mass C P d k) <= r * farL C d:=by
 have a:farL C (mass C P d k) <= sumL C (mass C P (fun y=>absR (d y)) k):=zS2 fun z hz=>yS6 S d k z hz
 rw [yS4] at a
 refine Rat.le_trans a ?_
 unfold farL
 rw [<- zM6]
 exact zS2 fun z hz=>by
  have:=Rat.mul_nonneg (yP3 (d z)) (show 0 <= r - stay C P k z by have:=h z hz; grind)
  grind
theorem yS5 (C:List α) (P:α->α->Rat) (d:α->Rat) (a:Nat):∀ b,mass C P d (a + b) = mass C P (mass C P d a) b
 | 0=>rfl
 | b + 1=>by
  funext z
  show (sumL C fun y=>mass C P d (a + b) y * P y z) = sumL C fun y=>mass C P (mass C P d a) b y * P y z
  rw [yS5 C P d a b]
theorem yT5 {C:List α} {P:α->α->Rat} (S:SubC C P) {k:Nat} {r:Rat} (r0:0 <= r) (h:∀ x ∈ C,stay C P k x <= r):∀ (q rr:Nat) (d:α->Rat),farL C (mass C P d (q * k + rr)) <= r ^ q * farL C d
 | 0,rr,d=>by
  have:=xD7 S d (k:=rr) (r:=1) fun x hx=>zN7 S rr x hx
  rw [Nat.zero_mul,Nat.zero_add,Rat.pow_zero]; exact this
 | q + 1,rr,d=>by
  have e:(q + 1) * k + rr = k + (q * k + rr):=by rw [Nat.succ_mul]; omega
  rw [e,yS5]
  have a:=yT5 S r0 h q rr (mass C P d k)
  have b:=xD7 S d h
  have c:=Rat.mul_nonneg (show 0 <= r ^ q from Rat.pow_nonneg r0) (show 0 <= r * farL C d - farL C (mass C P d k) by grind)
  rw [Rat.pow_succ]
  grind
end
end Tc
namespace Tc
section
variable {α:Type} [DecidableEq α]
end
end Tc
namespace T48
open PySem L2 Tc
noncomputable def top (i:Nat):Stmt:=PySem.Challenge.pw_tiercask_k48_whole_bound_of_the_long_run.main.body.getD i (.Pass ⟨0,0,0,0⟩)
set_option genInjectivity false in
structure Ca where
 NoNumber:Addr
structure Txt (K:PySem.W.Frag) (mg:Str->Option Value) (ca:Ca):Prop where
 z_abs:mg "abs" = none
 z_any:mg "any" = none
 z_bool:mg "bool" = none
 z_dict:mg "dict" = none
 z_enumerate:mg "enumerate" = none
 z_int:mg "int" = none
 z_isinstance:mg "isinstance" = none
 z_len:mg "len" = none
 z_list:mg "list" = none
 z_range:mg "range" = none
 z_reversed:mg "reversed" = none
 z_sorted:mg "sorted" = none
 z_tuple:mg "tuple" = none
 z_zip:mg "zip" = none
 c_NoNumber:mg "NoNumber" = some (.ref ca.NoNumber)
 e_NoNumber:PySem.W.excIn K ca.NoNumber [.type "ValueError",.type "Exception",.type "BaseException",.type "object"] "ValueError.__new__" = true
 x_NoNumber:ExcK K ca.NoNumber
 i_NoNumber_NoNumber:PySem.W.kitOne K (.ref ca.NoNumber) (.ref ca.NoNumber) = some true
 m_NoNumber_NoNumber:PySem.W.exmOne K (.ref ca.NoNumber) (.ref ca.NoNumber) = some true
structure RowAt (H:Hp) (kvs:List (Key × V)) (f:Str->Option Rat):Prop where
 nodup:(kvs.map (·.1)).Nodup
 keys:∀ kv ∈ kvs,∃ z,kv.1 = .inr z
 has:∀ z r,f z = .some r->∃ v,valV kvs (.inr z) = .some v /\ FrV H v r
 not:∀ z,f z = .none->valV kvs (.inr z) = .none
theorem RowAt.same {H H':Hp} {kvs:List (Key × V)} {f:Str->Option Rat} (h:RowAt H kvs f) (s:∀ v r,FrV H v r->FrV H' v r):RowAt H' kvs f :=
 ⟨h.nodup,h.keys,fun z r e=>(let ⟨v,a,b⟩:=h.has z r e; ⟨v,a,s v r b⟩),h.not⟩
theorem RowAt.nil (H:Hp):RowAt H [] fun _=>.none:=⟨List.nodup_nil,(fun _ z=>nomatch z),(fun _ _ e=>nomatch e),fun _ _=>rfl⟩
theorem zV1 (kvs:List (Key × V)) (k:Key) (v:V):(putK kvs k v).map (·.1) = if (kvs.any fun kv=>decide (kv.1 = k)) = true then kvs.map (·.1) else kvs.map (·.1) ++ [k]:=by
 unfold putK
 split
 ·rw [List.map_map]
  apply List.map_congr_left
  intro kv _
  show (if kv.1 = k then (kv.1,v) else kv).1 = kv.1
  split <;> rfl
 ·rw [List.map_append]; rfl
theorem RowAt.put {H:Hp} {kvs:List (Key × V)} {f:Str->Option Rat} (h:RowAt H kvs f) {z:Str} {v:V} {r:Rat} (hv:FrV H v r):RowAt H (putK kvs (.inr z) v) fun y=>if y = z then .some r else f y:=by
 refine ⟨?_,?_,fun y q e=>?_,fun y e=>?_⟩
 ·rw [zV1]
  split
  ·exact h.nodup
  ·rename_i hn
   refine List.nodup_append.mpr ⟨h.nodup,by simp,fun a ha b hb e=>hn ?_⟩
   have hb:=List.mem_singleton.mp hb
   subst hb
   obtain ⟨kv,hk,ek⟩:=List.mem_map.mp ha
   exact List.any_eq_true.mpr ⟨kv,hk,decide_eq_true (ek.trans e)⟩
 ·intro kv hkv
  have:kv.1 ∈ (putK kvs (.inr z) v).map (·.1):=List.mem_map.mpr ⟨kv,hkv,rfl⟩
  rw [zV1] at this
  split at this
  ·obtain ⟨kw,h1,h2⟩:=List.mem_map.mp this
   rw [<- h2]; exact h.keys kw h1
  ·rcases List.mem_append.mp this with q | q
   ·obtain ⟨kw,h1,h2⟩:=List.mem_map.mp q
    rw [<- h2]; exact h.keys kw h1
   ·exact ⟨z,List.mem_singleton.mp q⟩
 ·rw [zU6]
  by_cases ey:y = z
  ·subst ey
   rw [if_pos rfl] at e ⊢
   cases e
   exact ⟨v,rfl,hv⟩
  ·rw [if_neg ey] at e
   rw [if_neg fun q=>ey (Sum.inr.inj q)]
   exact h.has y q e
 ·rw [zU6]
  by_cases ey:y = z
  ·subst ey; rw [if_pos rfl] at e; cases e
  ·rw [if_neg ey] at e
   rw [if_neg fun q=>ey (Sum.inr.inj q)]
   exact h.not y e
noncomputable def nmz:Key->Str
 | .inr z=>z
 | .inl _=>""
noncomputable def nms (ks:List (Key × V)):List Str:=ks.map fun kv=>nmz kv.1
theorem zK9:∀ {ks:List (Key × V)},(ks.map (·.1)).Nodup->∀ {i:Nat} {p:Key × V},ks[i]? = .some p->valV ks p.1 = .some p.2
 | [],_,_,_,e=>by simp at e
 | q :: qs,hn,0,p,e=>by
  simp at e; subst e
  unfold valV
  rw [List.find?_cons_of_pos (by simp)]; rfl
 | q :: qs,hn,i + 1,p,e=>by
  have e':qs[i]? = .some p:=by simpa using e
  rw [List.map_cons,List.nodup_cons] at hn
  have ne:q.1 ≠ p.1:=fun z=>hn.1 (by rw [z]; exact List.mem_map.mpr ⟨p,List.mem_of_getElem? e',rfl⟩)
  have ih:=zK9 hn.2 e'
  unfold valV at ih ⊢
  rw [List.find?_cons_of_neg (by simp [ne])]; exact ih
theorem zT3 {ks:List (Key × V)} {z:Str} {v:V} (h:valV ks (.inr z) = .some v):z ∈ nms ks:=by
 unfold valV at h
 cases q:ks.find? fun kv=>decide (kv.1 = .inr z) with
 | none=>rw [q] at h; cases h
 | some kv =>
  have h1:=List.mem_of_find?_eq_some q
  have h2:=List.find?_some q
  refine List.mem_map.mpr ⟨kv,h1,?_⟩
  rw [of_decide_eq_true h2]; rfl
theorem xB4 {ks:List (Key × V)} (hn:(ks.map (·.1)).Nodup) {i:Nat} {p:Key × V} (hp:ks[i]? = .some p) {z:Str} (hz:p.1 = .inr z) (hk:∀ kv ∈ ks,∃ y,kv.1 = .inr y):z ∉ nms (ks.take i):=by
 intro h
 obtain ⟨q,hq,e⟩:=List.mem_map.mp h
 obtain ⟨j,hj,ej⟩:=List.getElem_of_mem hq
 have hji:j < i:=by rw [List.length_take] at hj; omega
 have hj2:ks[j]? = .some q:=by
  have:(ks.take i)[j]? = .some q:=by rw [List.getElem?_eq_getElem hj,ej]
  rwa [List.getElem?_take_of_lt hji] at this
 obtain ⟨y,hy⟩:=hk q (List.mem_of_getElem? hj2)
 have eyz:y = z:=by rw [hy] at e; exact e
 have ek:q.1 = p.1:=by rw [hy,eyz,hz]
 have hi:i < ks.length:=(List.getElem?_eq_some_iff.mp hp).1
 have hjl:j < ks.length:=by omega
 have e1:(ks.map (·.1))[j]'(by simpa using hjl) = (ks.map (·.1))[i]'(by simpa using hi):=by
  have a1:ks[j] = q:=by rw [List.getElem?_eq_getElem hjl] at hj2; exact Option.some.inj hj2
  have a2:ks[i] = p:=by rw [List.getElem?_eq_getElem hi] at hp; exact Option.some.inj hp
  simp [a1,a2,ek]
 exact List.pairwise_iff_getElem.mp hn j i (by simpa using hjl) (by simpa using hi) hji e1
noncomputable def addF (e s:Str->Option Rat) (t:Rat) (ks:List Str):Str->Option Rat:=fun z=>if z ∈ ks then .some ((e z).getD 0 + (s z).getD 0 * t) else e z
noncomputable def zW2:Sp:=fun vs H Q _=>∃ (a b:Addr) (x:V) (t:Rat) (kv ks:List (Key × V)) (e s:Str->Option Rat),vs = [.ref a,.ref b,x] /\ a ≠ b /\ H a = some (.dK kv) /\ H b = some (.dK ks) /\ RowAt H kv e /\ RowAt H ks s /\ FrV H x t /\ Bd 3500 t /\
 (∀ z,Bd 3500 ((e z).getD 0) /\ Bd 3500 ((s z).getD 0)) /\ kv.length + ks.length <= 900 /\
 ∀ H' kv',(∀ c o,H c = some o->c ≠ a->H' c = some o)->H' a = some (.dK kv')->kv'.length <= kv.length + ks.length->RowAt H' kv' (if t = 0 then e else fun z=>if (s z).isSome then .some ((e z).getD 0 + (s z).getD 0 * t) else e z)->Q .non H'
noncomputable def addR (e s:Str->Option Rat) (t:Rat):Str->Option Rat:=if t = 0 then e else fun z=>if (s z).isSome then .some ((e z).getD 0 + (s z).getD 0 * t) else e z
noncomputable def yB5:Sp:=fun vs H Q _=>∃ (rw st ax ay:Addr) (x y:Str) (fr:V) (t:Rat) (rows kx ky:List (Key × V)) (fx fy:Str->Option Rat),vs = [.ref rw,.ref st] /\ H rw = some (.dK rows) /\ H st = some (.tup [.str "pass",.str x,.str y,fr]) /\ FrV H fr t /\
 valV rows (.inr x) = some (.ref ax) /\ H ax = some (.dK kx) /\ RowAt H kx fx /\ valV rows (.inr y) = some (.ref ay) /\ H ay = some (.dK ky) /\ RowAt H ky fy /\ Bd 3500 t /\ Bd 3500 (1 - t) /\
 (∀ z,Bd 3500 ((fx z).getD 0) /\ Bd 3500 ((fy z).getD 0) /\ Bd 3500 ((addR (fun _=>none) fx (1 - t) z).getD 0)) /\ kx.length + ky.length <= 900 /\
 ∀ p H' kv',H p = none->Same H H'->H' p = some (.dK kv')->kv'.length <= kx.length + ky.length->RowAt H' kv' (addR (addR (fun _=>none) fx (1 - t)) fy t)->Q (.ref p) H'
theorem _root_.Tc.FrV.tup {H H':Hp} {v:V} {r:Rat} (h:FrV H v r) (s:∀ a xs,H a = some (.tup xs)->H' a = some (.tup xs)):FrV H' v r:=let ⟨a,e,h⟩:=h; ⟨a,e,s _ _ h⟩
theorem zC8 {H:Hp} {p:Addr} {u o:HO} (hp:H p = some u) (hu:∀ xs,u ≠ .tup xs):∀ a ys,H a = some (.tup ys)->upd H p o a = some (.tup ys):=fun a ys e=>by
 rw [upd_ne (zG3 e hp (fun z=>hu ys z.symm))]; exact e
theorem xB3 {kvs:List (Key × V)} {k:Key} {v:V} (h:(kvs.map (·.1)).Nodup):((putK kvs k v).map (·.1)).Nodup:=by
 rw [zV1]
 split
 ·exact h
 ·rename_i hn
  refine List.nodup_append.mpr ⟨h,by simp,fun a ha b hb e=>hn ?_⟩
  have hb:=List.mem_singleton.mp hb
  subst hb
  obtain ⟨kv,hk,ek⟩:=List.mem_map.mp ha
  exact List.any_eq_true.mpr ⟨kv,hk,decide_eq_true (ek.trans e)⟩
theorem xQ4 {kvs:List (Key × V)} {k:Key} {v:V} {kv:Key × V} (h:kv ∈ putK kvs k v):kv.1 = k \/ ∃ kw ∈ kvs,kw.1 = kv.1:=by
 have:kv.1 ∈ (putK kvs k v).map (·.1):=List.mem_map.mpr ⟨kv,h,rfl⟩
 rw [zV1] at this
 split at this
 ·obtain ⟨kw,h1,h2⟩:=List.mem_map.mp this
  exact .inr ⟨kw,h1,h2⟩
 ·rcases List.mem_append.mp this with q | q
  ·obtain ⟨kw,h1,h2⟩:=List.mem_map.mp q
   exact .inr ⟨kw,h1,h2⟩
  ·exact .inl (List.mem_singleton.mp q)
theorem zE8 {kvs:List (Key × V)} (h:(kvs.map (·.1)).Nodup) (hk:∀ kv ∈ kvs,∃ z,kv.1 = .inr z):(nms kvs).Nodup:=by
 unfold nms List.Nodup
 unfold List.Nodup at h
 rw [List.pairwise_map] at h ⊢
 refine List.Pairwise.imp_of_mem (fun {a b} ha hb hab e=>hab ?_) h
 obtain ⟨x,hx⟩:=hk a ha
 obtain ⟨y,hy⟩:=hk b hb
 rw [hx,hy] at e ⊢
 have e:x = y:=e
 rw [e]
theorem zD2 (kvs:List (Key × V)):(nms kvs).length = kvs.length:=List.length_map ..
theorem RowAt.iff {H:Hp} {kvs:List (Key × V)} {g:Str->Option Rat} (h:RowAt H kvs g) (z:Str):z ∈ nms kvs ↔ (g z).isSome = true:=by
 constructor
 ·intro q
  obtain ⟨kvi,hm,ez⟩:=List.mem_map.mp q
  obtain ⟨y,hy⟩:=h.keys kvi hm
  obtain ⟨j,hj,ej⟩:=List.getElem_of_mem hm
  have hval:=zK9 h.nodup (i:=j) (p:=kvi) (by rw [List.getElem?_eq_getElem hj,ej])
  have eyz:y = z:=by rw [hy] at ez; exact ez
  rw [hy,eyz] at hval
  cases q2:g z with
  | none=>rw [h.not z q2] at hval; cases hval
  | some r=>rfl
 ·intro q
  obtain ⟨r,hr⟩:=Option.isSome_iff_exists.mp q
  obtain ⟨v,h1,_⟩:=h.has z r hr
  exact zT3 h1
theorem RowAt.len {H:Hp} {kvs:List (Key × V)} {f:Str->Rat} {L:List Str} (h:RowAt H kvs (op f)) (hf:∀ z,f z ≠ 0->z ∈ L):kvs.length <= L.length:=by
 rw [<- zD2]
 exact zD8 (zE8 h.nodup h.keys) fun z hz=>hf z (op_some.mp ((h.iff z).mp hz))
theorem RowAt.getD {H:Hp} {kvs:List (Key × V)} {g:Str->Option Rat} (h:RowAt H kvs g) {w:V} (hw:FrV H w 0) (z:Str):FrV H ((valV kvs (.inr z)).getD w) ((g z).getD 0):=by
 cases q:g z with
 | none=>rw [h.not z q]; exact hw
 | some r=>obtain ⟨v,h1,h2⟩:=h.has z r q; rw [h1]; exact h2
theorem RowAt.at {H:Hp} {kvs:List (Key × V)} {g:Str->Option Rat} (h:RowAt H kvs g) {i:Nat} {p:Key × V} (hp:kvs[i]? = some p):∃ z r,p.1 = .inr z /\ g z = some r /\ FrV H p.2 r /\ z ∉ nms (kvs.take i) /\ nms (kvs.take (i + 1)) = nms (kvs.take i) ++ [z]:=by
 obtain ⟨z,hz⟩:=h.keys p (List.mem_of_getElem? hp)
 have hval:=zK9 h.nodup hp
 rw [hz] at hval
 refine ⟨z,?_⟩
 cases q:g z with
 | none=>rw [h.not z q] at hval; cases hval
 | some r =>
  obtain ⟨v',h1,h2⟩:=h.has z r q
  rw [hval] at h1; cases h1
  refine ⟨r,hz,rfl,h2,xB4 h.nodup hp hz h.keys,?_⟩
  unfold nms
  rw [List.take_add_one,hp,List.map_append]
  show _ ++ [nmz p.1] = _
  rw [hz]; rfl
theorem RowAt.unit {H:Hp} {f:Addr} (n:Str) (h:FrV H (.ref f) 1):RowAt H (zJ6 [] [(.inr n,.ref f)]) (op (dlt n)):=by
 have e:(fun y=>if y = n then some (1:Rat) else (fun _=>none:Str->Option Rat) y) = op (dlt n):=by
  funext y
  unfold op dlt
  by_cases q:y = n
  ·rw [if_pos q,if_pos q,if_neg (by decide)]
  ·rw [if_neg q,if_neg q,if_pos rfl]
 rw [<- e]
 exact (RowAt.nil H).put (z:=n) h
theorem yG0 {g f:Str->Rat} {t:Rat} (hg:∀ z,0 <= g z) (hf:∀ z,0 <= f z) (ht:0 <= t):addR (op g) (op f) t = op fun z=>g z + f z * t:=by
 unfold addR
 split
 ·rename_i e
  subst e
  congr 1
  funext z
  rw [Rat.mul_zero,Rat.add_zero]
 ·rename_i e
  funext z
  by_cases q:f z = 0
  ·have n:¬ (op f z).isSome = true:=fun h=>op_some.mp h q
   rw [if_neg n]
   have e2:g z + f z * t = g z:=by rw [q,Rat.zero_mul,Rat.add_zero]
   show op g z = op (fun z=>g z + f z * t) z
   unfold op
   show _ = if g z + f z * t = 0 then none else some (g z + f z * t)
   rw [e2]
  ·rw [if_pos (op_some.mpr q),zO9,zO9]
   have h1:0 < f z * t:=Rat.mul_pos (yA2 (hf z) q) (yA2 ht e)
   have n:g z + f z * t ≠ 0:=by have:=hg z; grind
   show _ = if g z + f z * t = 0 then none else some (g z + f z * t)
   rw [if_neg n]
inductive Stp where
 | br (z:Str) (yr:Int) (x:Str) (q:Rat)
 | ps (x y:Str) (t:Rat)
noncomputable abbrev Lay (z:Str):Prop:=(PyData.str z).canLay0 = true
noncomputable def bwS:Stp->(Str->Str->Rat)->(Str->Str->Rat)
 | .br _ _ _ _,R=>R
 | .ps x y t,R=>bw x y t R
noncomputable def fwS:Stp->(Str->Rat)->(Str->Rat)
 | .br _ _ _ _,v=>v
 | .ps x y t,v=>fw x y t v
noncomputable def dnS:Stp->Nat
 | .br _ _ _ _=>1
 | .ps _ _ t=>t.den
noncomputable def OkS (L:List Str):Stp->Prop
 | .br z _ x _=>x ∈ L /\ Lay z
 | .ps x y t=>x ∈ L /\ y ∈ L /\ x ≠ y /\ 0 <= t /\ t <= 1 /\ t.den < 2 ^ 40
noncomputable def zL1 (R:Str->Str->Rat):List Stp->Str->Str->Rat
 | []=>R
 | s :: ss=>bwS s (zL1 R ss)
noncomputable def back (ss:List Stp):Str->Str->Rat:=zL1 dlt ss
noncomputable def zC5:List Stp->Nat
 | []=>1
 | s :: ss=>zC5 ss * dnS s
theorem yA8 (R:Str->Str->Rat) (s:Stp):∀ ss:List Stp,zL1 R (ss ++ [s]) = zL1 (bwS s R) ss
 | []=>rfl
 | a :: ss=>by
  show bwS a (zL1 R (ss ++ [s])) = bwS a (zL1 (bwS s R) ss)
  rw [yA8 R s ss]
theorem yF7 (x y:Str) (t:Rat) (R:Str->Str->Rat):∀ ss:List Stp,zL1 (fun n=>fw x y t (R n)) ss = fun n=>fw x y t (zL1 R ss n)
 | []=>rfl
 | .br _ _ _ _ :: ss=>yF7 x y t R ss
 | .ps x' y' t' :: ss=>by
  show bw x' y' t' (zL1 (fun n=>fw x y t (R n)) ss) = fun n=>fw x y t (bw x' y' t' (zL1 R ss) n)
  rw [yF7 x y t R ss,wB2]
theorem zY4 {L:List Str} (ss:List Stp) {s:Stp} (h:OkS L s):back (ss ++ [s]) = fun n=>fwS s (back ss n):=by
 unfold back
 rw [yA8]
 cases s with
 | br _ _ _ _=>rfl
 | ps x y t =>
  show zL1 (bw x y t dlt) ss = fun n=>fw x y t (zL1 dlt ss n)
  rw [xX4 t h.2.2.1,yF7]
theorem zE3 {L:List Str} (hn:L.Nodup):∀ {ss:List Stp},(∀ s ∈ ss,OkS L s)->Good L (zC5 ss) (back ss)
 | [],_=>Good.dlt hn
 | .br _ _ _ _ :: ss,h=>by
  have g:=zE3 hn (ss:=ss) fun s hs=>h s (List.mem_cons_of_mem _ hs)
  show Good L (zC5 ss * 1) (back ss)
  rw [Nat.mul_one]; exact g
 | .ps x y t :: ss,h=>by
  have g:=zE3 hn (ss:=ss) fun s hs=>h s (List.mem_cons_of_mem _ hs)
  obtain ⟨hx,hy,_,h0,h1,_⟩:=h _ List.mem_cons_self
  exact g.bw hx hy h0 h1
theorem xR2:∀ s:Stp,0 < dnS s
 | .br _ _ _ _=>Nat.one_pos
 | .ps _ _ t=>t.den_pos
theorem xW8 {L:List Str}:∀ {s:Stp},OkS L s->dnS s <= 2 ^ 40
 | .br _ _ _ _,_=>Nat.one_le_two_pow
 | .ps _ _ _,h=>Nat.le_of_lt h.2.2.2.2.2
theorem zG4:∀ ss:List Stp,0 < zC5 ss
 | []=>Nat.one_pos
 | s :: ss=>Nat.mul_pos (zG4 ss) (xR2 s)
theorem yR7 {L:List Str}:∀ {ss:List Stp},(∀ s ∈ ss,OkS L s)->zC5 ss < 2 ^ (40 * ss.length + 1)
 | [],_=>by decide
 | s :: ss,h=>by
  have g:=yR7 (ss:=ss) fun s hs=>h s (List.mem_cons_of_mem _ hs)
  have e:40 * (s :: ss).length + 1 = (40 * ss.length + 1) + 40:=by rw [List.length_cons]; omega
  rw [e,Nat.pow_add]
  exact Nat.mul_lt_mul_of_lt_of_le g (xW8 (h s List.mem_cons_self)) (Nat.two_pow_pos _)
theorem _root_.Tc.IsM.bd {P k n:Nat} {r:Rat} (hP:0 < P) (hk:1 <= k) (hb:k * P < 2 ^ n) (h:IsM P k r):Bd n r:=by
 obtain ⟨m,hm,rfl⟩:=h.eq hP
 refine Bd.divInt (by omega) ?_ ?_
 ·show m < 2 ^ n
  omega
 ·show P < 2 ^ n
  have:=Nat.mul_le_mul_right P hk
  omega
theorem zW6 {L:List Str} {ss:List Stp} (h:∀ s ∈ ss,OkS L s) (hl:ss.length <= 64) {k:Nat} (hk:k <= 16):k * zC5 ss < 2 ^ 2600:=by
 have h1:=yR7 h
 have h2:2 ^ (40 * ss.length + 1) <= 2 ^ 2561:=zM4 (by omega)
 have h3:k * zC5 ss < 2 ^ 4 * 2 ^ 2561:=Nat.lt_of_le_of_lt (Nat.mul_le_mul_right _ hk) (Nat.mul_lt_mul_of_pos_left (Nat.lt_of_lt_of_le h1 h2) (by decide))
 rw [<- Nat.pow_add] at h3
 exact Nat.lt_of_lt_of_le h3 (zM4 (by decide))
theorem _root_.Tc.Bd.share {t:Rat} (h0:0 <= t) (h1:t <= 1) (hd:t.den < 2 ^ 40):Bd 50 t /\ Bd 50 (1 - t):=by
 have a:=(IsM.one 1).mulL h0 h1
 have b:=(IsM.one 1).mulR h0 h1
 rw [Rat.one_mul,Nat.one_mul] at a b
 have hb:1 * t.den < 2 ^ 50:=Nat.lt_of_lt_of_le (by omega) (zM4 (m:=40) (by decide))
 exact ⟨a.bd t.den_pos (Nat.le_refl _) hb,b.bd t.den_pos (Nat.le_refl _) hb⟩
noncomputable def StV (H:Hp) (v:V):Stp->Prop
 | .br z yr x q=>∃ a l f,v = .ref a /\ H a = some (.tup [.str "bring",.ref l,.str x,f]) /\ H l = some (.tup [.str z,.int yr]) /\ FrV H f q
 | .ps x y t=>∃ a f,v = .ref a /\ H a = some (.tup [.str "pass",.str x,.str y,f]) /\ FrV H f t
theorem StV.tup {H H':Hp} (s:∀ a xs,H a = some (.tup xs)->H' a = some (.tup xs)):∀ {v:V} {st:Stp},StV H v st->StV H' v st
 | _,.br _ _ _ _,⟨a,l,f,e,h1,h2,h3⟩=>⟨a,l,f,e,s _ _ h1,s _ _ h2,h3.tup s⟩
 | _,.ps _ _ _,⟨a,f,e,h1,h3⟩=>⟨a,f,e,s _ _ h1,h3.tup s⟩
theorem StV.same {H H':Hp} {v:V} {st:Stp} (h:StV H v st) (s:Same H H'):StV H' v st:=h.tup fun _ _ e=>s _ _ e
theorem zD0 {H H':Hp} {xs:List V} {ss:List Stp} (h:Paired (StV H) xs ss) (s:Same H H'):Paired (StV H') xs ss:=Paired.mapP h fun _ _ f=>f.same s
structure TabAt (H0 H:Hp) (rw:Addr) (rows:List (Key × V)) (L:List Str) (R:Str->Str->Rat) (ad:Str->Addr):Prop where
 nodup:(rows.map (·.1)).Nodup
 keys:∀ kv ∈ rows,∃ z,kv.1 = .inr z /\ z ∈ L
 row:∀ n ∈ L,valV rows (.inr n) = some (.ref (ad n)) /\ H0 (ad n) = none /\ ∃ kvs,H (ad n) = some (.dK kvs) /\ RowAt H kvs (op (R n))
 inj:∀ n ∈ L,∀ m ∈ L,ad n = ad m->n = m
 apart:∀ n ∈ L,ad n ≠ rw
theorem TabAt.nil (H0 H:Hp) (rw:Addr) (R:Str->Str->Rat) (ad:Str->Addr):TabAt H0 H rw [] [] R ad:=⟨List.nodup_nil,(fun _ z=>nomatch z),(fun _ z=>nomatch z),(fun _ z=>nomatch z),fun _ z=>nomatch z⟩
theorem TabAt.same {H0 H H':Hp} {rw:Addr} {rows:List (Key × V)} {L:List Str} {R:Str->Str->Rat} {ad:Str->Addr} (T:TabAt H0 H rw rows L R ad) (s:Same H H'):TabAt H0 H' rw rows L R ad :=
 ⟨T.nodup,T.keys,fun n hn=>(let ⟨a,b,kvs,c,d⟩:=T.row n hn; ⟨a,b,kvs,s _ _ c,d.same fun _ _ f=>f.same s⟩),T.inj,T.apart⟩
theorem TabAt.len {H0 H:Hp} {rw:Addr} {rows:List (Key × V)} {L:List Str} {R:Str->Str->Rat} {ad:Str->Addr} (T:TabAt H0 H rw rows L R ad) (hn:L.Nodup):rows.length = L.length:=by
 rw [<- zD2]
 refine Nat.le_antisymm (zD8 (zE8 T.nodup fun kv h=>(let ⟨z,e,_⟩:=T.keys kv h; ⟨z,e⟩)) fun z hz=>?_) (zD8 hn fun z hz=>zT3 (T.row z hz).1)
 obtain ⟨kv,h1,h2⟩:=List.mem_map.mp hz
 obtain ⟨y,h3,h4⟩:=T.keys kv h1
 rw [h3] at h2
 have h2:y = z:=h2
 rw [<- h2]; exact h4
theorem TabAt.put {H0 H H':Hp} {rw:Addr} {rows:List (Key × V)} {L L':List Str} {R R':Str->Str->Rat} {ad:Str->Addr} (T:TabAt H0 H rw rows L R ad) {n:Str} {q:Addr} {kvs:List (Key × V)} (hq0:H0 q = none) (hq:H q = none) (hqr:q ≠ rw)
  (hk:∀ c o,H c = some o->c ≠ rw->H' c = some o) (hH:∀ v r,FrV H v r->FrV H' v r) (hr:H' q = some (.dK kvs)) (row:RowAt H' kvs (op (R' n))) (hR:∀ m ∈ L,m ≠ n->R' m = R m) (hL:∀ z,z ∈ L' ↔ z ∈ L \/ z = n) :
  TabAt H0 H' rw (putK rows (.inr n) (.ref q)) L' R' (fun z=>if z = n then q else ad z):=by
 have old:∀ m,m ∈ L'->m ≠ n->m ∈ L:=fun m hm e=>by
  rcases (hL m).mp hm with z | z
  ·exact z
  ·exact absurd z e
 have ne:∀ m ∈ L,ad m ≠ q:=fun m hm e=>by
  obtain ⟨_,_,kv,c,_⟩:=T.row m hm
  rw [e,hq] at c; cases c
 refine ⟨xB3 T.nodup,fun kv h=>?_,fun m hm=>?_,fun m hm l hl e=>?_,fun m hm=>?_⟩
 ·rcases xQ4 h with e | ⟨kw,h1,h2⟩
  ·exact ⟨n,e,(hL n).mpr (.inr rfl)⟩
  ·obtain ⟨z,e,hz⟩:=T.keys kw h1
   exact ⟨z,h2 ▸ e,(hL z).mpr (.inl hz)⟩
 ·rw [zU6]
  by_cases e:m = n
  ·subst e
   rw [if_pos rfl,if_pos rfl]
   exact ⟨rfl,hq0,kvs,hr,row⟩
  ·obtain ⟨a,b,kv,c,d⟩:=T.row m (old m hm e)
   rw [if_neg fun z=>e (Sum.inr.inj z),if_neg e]
   refine ⟨a,b,kv,hk _ _ c (T.apart m (old m hm e)),?_⟩
   rw [hR m (old m hm e) e]
   exact d.same hH
 ·by_cases e1:m = n
  ·by_cases e2:l = n
   ·rw [e1,e2]
   ·rw [if_pos e1,if_neg e2] at e
    exact absurd e.symm (ne l (old l hl e2))
  ·by_cases e2:l = n
   ·rw [if_neg e1,if_pos e2] at e
    exact absurd e (ne m (old m hm e1))
   ·rw [if_neg e1,if_neg e2] at e
    exact T.inj m (old m hm e1) l (old l hl e2) e
 ·by_cases e1:m = n
  ·rw [if_pos e1]; exact hqr
  ·rw [if_neg e1]; exact T.apart m (old m hm e1)
noncomputable def zV9 (K:PySem.W.Frag):Sp:=fun vs H Q _=>∃ (an:Addr) (L:List Str),vs = [.ref an] /\ SqL K H an (L.map V.str) /\ L.Nodup /\ L.length <= 8 /\ ∀ p H' rows ad,H p = none->Same H H'->H' p = some (.dK rows)->TabAt H H' p rows L dlt ad->Q (.ref p) H'
noncomputable def xS8 (K:PySem.W.Frag):Sp:=fun vs H Q _=>∃ (an as:Addr) (L:List Str) (xs:List V) (ss:List Stp),vs = [.ref an,.ref as] /\ SqL K H an (L.map V.str) /\ L.Nodup /\ L.length <= 8 /\ SqL K H as xs /\ Paired (StV H) xs ss /\ (∀ s ∈ ss,OkS L s) /\ ss.length <= 64 /\
 ∀ p H' rows ad,H p = none->Same H H'->H' p = some (.dK rows)->TabAt H H' p rows L (back ss) ad->Q (.ref p) H'
theorem _root_.Tc.IsM.mono {P k j:Nat} {r:Rat} (h:IsM P k r) (hk:k <= j):IsM P j r:=by
 obtain ⟨a,m,b,c⟩:=h
 exact ⟨a,m,Nat.le_trans b (Nat.mul_le_mul_right _ hk),c⟩
theorem yB3 {P:Nat} {f:Str->Rat} (h:∀ z,IsM P 1 (f z)):∀ l:List Str,IsM P l.length (sumL l f)
 | []=>IsM.zero P 0
 | z :: l=>by
  rw [zB2,Rat.add_comm]
  exact (yB3 h l).add (h z)
theorem zO7 {L:List Str} {i:Nat} {x:V} (h:(L.map V.str)[i]? = some x):∃ n,x = .str n /\ L[i]? = some n:=by
 rw [List.getElem?_map] at h
 cases q:L[i]? with
 | none=>rw [q] at h; cases h
 | some n=>rw [q] at h; exact ⟨n,(Option.some.inj h).symm,rfl⟩
theorem zR5 {L:List Str} {i:Nat} {n:Str} (h:L[i]? = some n) (z:Str):z ∈ L.take (i + 1) ↔ z ∈ L.take i \/ z = n:=by
 rw [List.take_add_one,h]
 simp
noncomputable def ch8 (j:Nat):Nat:=(("abcdefgh":Str).cps.toList).getD j 0
noncomputable def nm8 (b:Str) (s k:Nat):Str:=b ++ one1 (ch8 ((k + s) % 8))
theorem xX2 {j:Nat} (h:j < 8):atI (("abcdefgh":Str).cps.toList) ((j:Nat):Int) = some (ch8 j):=by
 have:j = 0 \/ j = 1 \/ j = 2 \/ j = 3 \/ j = 4 \/ j = 5 \/ j = 6 \/ j = 7:=by omega
 rcases this with rfl | rfl | rfl | rfl | rfl | rfl | rfl | rfl <;> decide +kernel
theorem yR8:(10:Int) ^ (9:Int).toNat = 1000000000:=by decide
theorem lay3:∀ z ∈ (["ab","b","ba"]:List Str),(PyData.str z).canLay0 = true:=by decide +kernel
theorem xQ7 {ms:List Int} {i:Nat} {x:V} (h:(ms.map V.int)[i]? = some x):∃ n,x = .int n /\ ms[i]? = some n:=by
 rw [List.getElem?_map] at h
 cases q:ms[i]? with
 | none=>rw [q] at h; cases h
 | some n=>rw [q] at h; exact ⟨n,(Option.some.inj h).symm,rfl⟩
theorem repL {K:PySem.W.Frag} {H:Hp} {a:Addr} {vs:List V} {xs:List PyData} (h:SqL K H a vs) (r:RepDs K H xs vs):RepD K H (.list xs) (.ref a):=by simp only [RepD]; exact ⟨a,vs,rfl,h,r⟩
theorem xT3 {K:PySem.W.Frag} {H:Hp}:RepDs K H [] []:=by simp [RepDs]
theorem xZ4 {K:PySem.W.Frag} {H:Hp} {d:PyData} {v:V} {ds:List PyData} {vs:List V} (h:RepD K H d v) (r:RepDs K H ds vs):RepDs K H (d :: ds) (v :: vs):=by simp only [RepDs]; exact ⟨_,_,rfl,h,r⟩
theorem repS {K:PySem.W.Frag} {H:Hp} {z:Str} (h:Lay z):RepD K H (.str z) (.str z):=by rw [RepD]; exact ⟨rfl,h⟩
theorem yH6 {K:PySem.W.Frag} {H:Hp}:∀ {L:List Str},(∀ z ∈ L,Lay z)->RepDs K H (L.map PyData.str) (L.map V.str)
 | [],_=>xT3
 | _ :: _,h=>xZ4 (repS (h _ List.mem_cons_self)) (yH6 fun z hz=>h z (List.mem_cons_of_mem _ hz))
theorem yK0 {α:Type} {f:α->PyData} {n:Nat} (h:∀ a,(f a).depth <= n):∀ l:List α,PyData.depthAll (l.map f) <= n
 | []=>by simp [PyData.depthAll]
 | a :: l=>by
  rw [List.map_cons]; simp only [PyData.depthAll]
  have:=h a
  have:=yK0 h l
  omega
inductive Plc where
 | ck (z:Str) (r:Rat)
 | sk (z:Str)
noncomputable def nmP:Plc->Str
 | .ck z _=>z
 | .sk z=>z
noncomputable def isC:Plc->Bool
 | .ck _ _=>true
 | .sk _=>false
noncomputable def kd (b:Bool):Str:=if b then "cask" else "sink"
noncomputable def PlV (H:Hp) (v:V):Plc->Prop
 | .ck z r=>∃ a f,v = .ref a /\ H a = some (.tup [.str "cask",.str z,f]) /\ FrV H f r
 | .sk z=>∃ a,v = .ref a /\ H a = some (.tup [.str "sink",.str z])
theorem PlV.tup {H H':Hp} (s:∀ a xs,H a = some (.tup xs)->H' a = some (.tup xs)):∀ {v:V} {p:Plc},PlV H v p->PlV H' v p
 | _,.ck _ _,⟨a,f,e,h1,h2⟩=>⟨a,f,e,s _ _ h1,h2.tup s⟩
 | _,.sk _,⟨a,e,h1⟩=>⟨a,e,s _ _ h1⟩
theorem PlV.same {H H':Hp} {v:V} {p:Plc} (h:PlV H v p) (s:Same H H'):PlV H' v p:=h.tup fun _ _ e=>s _ _ e
theorem PlV.at {H:Hp}:∀ {v:V} {p:Plc},PlV H v p->∃ a ys,v = .ref a /\ H a = some (.tup ys) /\ atI ys 0 = some (.str (kd (isC p))) /\ atI ys 1 = some (.str (nmP p))
 | _,.ck _ _,⟨a,f,e,h1,h2⟩=>⟨a,_,e,h1,rfl,rfl⟩
 | _,.sk _,⟨a,e,h1⟩=>⟨a,_,e,h1,rfl,rfl⟩
theorem zB9 {H H':Hp} {xs:List V} {ps:List Plc} (h:Paired (PlV H) xs ps) (s:Same H H'):Paired (PlV H') xs ps:=Paired.mapP h fun _ _ f=>f.same s
noncomputable def allN (ps:List Plc):List Str:=ps.map nmP
noncomputable def ckN (ps:List Plc):List Str:=(ps.filter isC).map nmP
structure HouseOk (ps:List Plc):Prop where
 nd:(allN ps).Nodup
 lay:∀ z ∈ allN ps,Lay z
 len:ps.length <= 8
theorem zJ7 {ps:List Plc} {z:Str} (h:z ∈ ckN ps):z ∈ allN ps:=by
 obtain ⟨p,hp,e⟩:=List.mem_map.mp h
 exact List.mem_map.mpr ⟨p,(List.mem_filter.mp hp).1,e⟩
theorem HouseOk.ck {ps:List Plc} (h:HouseOk ps):(ckN ps).Nodup:=h.nd.sublist (List.filter_sublist.map nmP)
theorem yA6 {ps:List Plc}:(ckN ps).length <= ps.length:=by
 unfold ckN
 rw [List.length_map]
 exact List.length_filter_le _ _
noncomputable def resC (C:List Str) (R:Str->Str->Rat):Str->Str->Rat:=fun n z=>if z ∈ C then R n z else 0
noncomputable def all (L:List Str) (f:Str->Rat):Str->Option Rat:=fun z=>if z ∈ L then some (f z) else none
theorem zS1 (L:List Str) (f:Str->Rat) (n:Str):all (L ++ [n]) f = fun y=>if y = n then some (f n) else all L f y:=by
 funext y
 unfold all
 by_cases e:y = n
 ·subst e; simp
 ·simp [e]
theorem zY6 (f:Str->Rat):all [] f = fun _=>none:=by funext z; simp [all]
noncomputable def zW0 (K:PySem.W.Frag):Sp:=fun vs H Q _=>∃ (a:Addr) (xs:List V) (ps:List Plc),vs = [.ref a] /\ SqL K H a xs /\ Paired (PlV H) xs ps /\ ps.length <= 8 /\ ∀ p H',H p = none->Same H H'->H' p = some (.lst ((allN ps).map V.str))->Q (.ref p) H'
noncomputable def zW1 (K:PySem.W.Frag):Sp:=fun vs H Q _=>∃ (a:Addr) (xs:List V) (ps:List Plc),vs = [.ref a] /\ SqL K H a xs /\ Paired (PlV H) xs ps /\ ps.length <= 8 /\ ∀ p H',H p = none->Same H H'->H' p = some (.lst ((ckN ps).map V.str))->Q (.ref p) H'
noncomputable def yY4 (K:PySem.W.Frag):Sp:=fun vs H Q _=>∃ (a:Addr) (xs:List V) (ps:List Plc) (b:Bool),vs = [.ref a,.str (kd b)] /\ SqL K H a xs /\ Paired (PlV H) xs ps /\ ps.length <= 8 /\ ∀ p H',H p = none->Same H H'->H' p = some (.lst (((ps.filter fun q=>isC q == b).map nmP).map V.str))->Q (.ref p) H'
noncomputable def yY3 (K:PySem.W.Frag):Sp:=fun vs H Q _=>∃ (a b:Addr) (kv:List (Key × V)) (C:List Str) (f:Str->Rat),vs = [.ref a,.ref b] /\ H a = some (.dK kv) /\ RowAt H kv (op f) /\ SqL K H b (C.map V.str) /\ C.length <= 8 /\
 ∀ p H' kv',H p = none->Same H H'->H' p = some (.dK kv')->RowAt H' kv' (op fun z=>if z ∈ C then f z else 0)->Q (.ref p) H'
noncomputable def zZ6 (K:PySem.W.Frag):Sp:=fun vs H Q _=>∃ (ah as:Addr) (xs:List V) (ps:List Plc) (ys:List V) (ss:List Stp),vs = [.ref ah,.ref as] /\ SqL K H ah xs /\ Paired (PlV H) xs ps /\ HouseOk ps /\ SqL K H as ys /\ Paired (StV H) ys ss /\ (∀ s ∈ ss,OkS (allN ps) s) /\ ss.length <= 40 /\
 ∀ p H' rows ad,H p = none->Same H H'->H' p = some (.dK rows)->TabAt H H' p rows (ckN ps) (resC (ckN ps) (back ss)) ad->Q (.ref p) H'
theorem xU6 {f:Str->Rat} {C:List Str} {n:Str} (hf:f n ≠ 0):(fun y=>if y = n then some (f n) else op (fun z=>if z ∈ C then f z else 0) y) = op fun z=>if z ∈ C ++ [n] then f z else 0:=by
 funext y
 by_cases e:y = n
 ·subst e; simp [op,hf]
 ·simp [op,e]
theorem xP8 {f:Str->Rat} {C:List Str} {n:Str} (hf:f n = 0):(op fun z=>if z ∈ C then f z else 0) = op fun z=>if z ∈ C ++ [n] then f z else 0:=by
 funext y
 by_cases e:y = n
 ·subst e; simp [op,hf]
 ·simp [op,e]
theorem zC2 {α:Type} {L:List α} {i:Nat} {n:α} (h:L[i]? = some n):L.take (i + 1) = L.take i ++ [n]:=by rw [List.take_add_one,h]; rfl
theorem TabAt.mem {H0 H:Hp} {rw:Addr} {rows:List (Key × V)} {L L':List Str} {R:Str->Str->Rat} {ad:Str->Addr} (T:TabAt H0 H rw rows L R ad) (h:∀ z,z ∈ L' ↔ z ∈ L):TabAt H0 H rw rows L' R ad :=
 ⟨T.nodup,fun kv hk=>(let ⟨z,e,m⟩:=T.keys kv hk; ⟨z,e,(h z).mpr m⟩),fun n hn=>T.row n ((h n).mp hn),fun n hn m hm e=>T.inj n ((h n).mp hn) m ((h m).mp hm) e,fun n hn=>T.apart n ((h n).mp hn)⟩
theorem yM9 {α β:Type} {F:α->β->Prop} {xs:List α} {ys:List β} (h:Paired F xs ys) {y:β} (hy:y ∈ ys):∃ x,x ∈ xs /\ F x y:=by
 induction h with
 | nil=>cases hy
 | cons r t ih =>
  rcases List.mem_cons.mp hy with e | e
  ·exact ⟨_,List.mem_cons_self,e ▸ r⟩
  ·obtain ⟨x,h1,h2⟩:=ih e
   exact ⟨x,List.mem_cons_of_mem _ h1,h2⟩
theorem yV5 {α β:Type} {F G:α->β->Prop} {xs:List α} {ys:List β} (h:Paired F xs ys) (k:∀ x y,y ∈ ys->F x y->G x y):Paired G xs ys:=by
 induction h with
 | nil=>exact .nil
 | cons r t ih=>exact .cons (k _ _ List.mem_cons_self r) (ih fun x y hy f=>k x y (List.mem_cons_of_mem _ hy) f)
set_option genInjectivity false in
structure Br where
 z:Str
 yr:Int
 q:Rat
 g:Str->Rat
noncomputable def brL:List Stp->List Br
 | []=>[]
 | .br z yr x q :: ss=>⟨z,yr,q,back ss x⟩ :: brL ss
 | .ps _ _ _ :: ss=>brL ss
noncomputable def adv (s:Stp) (b:Br):Br:=⟨b.z,b.yr,b.q,fwS s b.g⟩
noncomputable def newB:Stp->List Br
 | .br z yr x q=>[⟨z,yr,q,dlt x⟩]
 | .ps _ _ _=>[]
theorem yF6 {L:List Str} (s:Stp) (h:OkS L s):∀ ss:List Stp,brL (ss ++ [s]) = (brL ss).map (adv s) ++ newB s
 | []=>by cases s <;> rfl
 | .br z yr x q :: ss=>by
  show (⟨z,yr,q,back (ss ++ [s]) x⟩:Br) :: brL (ss ++ [s]) = _
  rw [yF6 s h ss,zY4 ss h]; rfl
 | .ps _ _ _ :: ss=>yF6 s h ss
theorem zY2:∀ ss:List Stp,(brL ss).length <= ss.length
 | []=>Nat.le_refl _
 | .br _ _ _ _ :: ss=>Nat.succ_le_succ (zY2 ss)
 | .ps _ _ _ :: ss=>Nat.le_succ_of_le (zY2 ss)
theorem yO8 {L:List Str}:∀ {ss:List Stp},(∀ s ∈ ss,OkS L s)->∀ b ∈ brL ss,∃ n x,x ∈ L /\ b.g = back (ss.drop n) x
 | .br z yr x q :: ss,h,b,hb=>by
  rcases List.mem_cons.mp hb with e | e
  ·exact ⟨1,x,(h _ List.mem_cons_self).1,by rw [e]; rfl⟩
  ·obtain ⟨n,y,hy,eg⟩:=yO8 (ss:=ss) (fun s hs=>h s (List.mem_cons_of_mem _ hs)) b e
   exact ⟨n + 1,y,hy,eg⟩
 | .ps _ _ _ :: ss,h,b,hb=>by
  obtain ⟨n,y,hy,eg⟩:=yO8 (ss:=ss) (fun s hs=>h s (List.mem_cons_of_mem _ hs)) b hb
  exact ⟨n + 1,y,hy,eg⟩
noncomputable def BrV (H:Hp) (v:V) (bd:Br × Addr):Prop:=∃ a l f kvs,v = .ref a /\ H a = some (.tup [.ref l,f,.ref bd.2]) /\ H l = some (.tup [.str bd.1.z,.int bd.1.yr]) /\ FrV H f bd.1.q /\ H bd.2 = some (.dK kvs) /\ RowAt H kvs (op bd.1.g)
theorem BrV.keep {H H':Hp} {v:V} {bd:Br × Addr} (h:BrV H v bd) (s:∀ a xs,H a = some (.tup xs)->H' a = some (.tup xs)) (d:∀ kvs,H bd.2 = some (.dK kvs)->H' bd.2 = some (.dK kvs)):BrV H' v bd:=by
 obtain ⟨a,l,f,kvs,e,h1,h2,h3,h4,h5⟩:=h
 exact ⟨a,l,f,kvs,e,s _ _ h1,s _ _ h2,h3.tup s,d _ h4,h5.same fun v r g=>g.tup s⟩
noncomputable def yH4 (K:PySem.W.Frag):Sp:=fun vs H Q _=>∃ (an as:Addr) (L:List Str) (xs:List V) (ss:List Stp),vs = [.ref an,.ref as] /\ SqL K H an (L.map V.str) /\ L.Nodup /\ L.length <= 8 /\ SqL K H as xs /\ Paired (StV H) xs ss /\ (∀ s ∈ ss,OkS L s) /\ ss.length <= 64 /\
 ∀ p H' ys tds,H p = none->Same H H'->H' p = some (.lst ys)->Paired (BrV H') ys tds->tds.map (·.1) = brL ss->(tds.map (·.2)).Nodup->(∀ d ∈ tds.map (·.2),H d = none)->Q (.ref p) H'
noncomputable def Tm:Stp->Prop
 | .br _ _ _ q=>IsM 12 1000 q
 | .ps _ _ t=>t.den <= 99
noncomputable def OkT (L:List Str) (s:Stp):Prop:=OkS L s /\ Tm s
theorem wA0 {u d:Int} (h0:0 <= u) (h1:u <= 1000) (d1:1 <= d) (d4:d <= 4):IsM 12 1000 (Rat.divInt u d):=by
 obtain ⟨n,rfl⟩:=Int.eq_ofNat_of_zero_le h0
 refine ⟨Rat.divInt_nonneg h0 (by omega),?_⟩
 have hd:d = 1 \/ d = 2 \/ d = 3 \/ d = 4:=by omega
 have e12:((12:Nat):Rat) = 12:=rfl
 have en:(((n:Nat):Int):Rat) = (n:Rat):=rfl
 rcases hd with rfl | rfl | rfl | rfl
 ·refine ⟨n * 12,by omega,?_⟩
  rw [Rat.divInt_eq_div,Rat.natCast_mul,e12,en]
  have:((1:Int):Rat) = 1:=rfl
  rw [this]; grind
 ·refine ⟨n * 6,by omega,?_⟩
  rw [Rat.divInt_eq_div,Rat.natCast_mul,e12,en]
  have:((2:Int):Rat) = 2:=rfl
  have:((6:Nat):Rat) = 6:=rfl
  grind
 ·refine ⟨n * 4,by omega,?_⟩
  rw [Rat.divInt_eq_div,Rat.natCast_mul,e12,en]
  have:((3:Int):Rat) = 3:=rfl
  have:((4:Nat):Rat) = 4:=rfl
  grind
 ·refine ⟨n * 3,by omega,?_⟩
  rw [Rat.divInt_eq_div,Rat.natCast_mul,e12,en]
  have:((4:Int):Rat) = 4:=rfl
  have:((3:Nat):Rat) = 3:=rfl
  grind
theorem yW8 {d:Int} (h:2 <= d) (hd:d <= 99):(Rat.divInt 1 d).den <= 99:=Nat.le_trans (zR7 1 d (by omega)) (by omega)
theorem yW2:∀ b ∈ (["","a","tier","zz"]:List Str),b.length <= 4 /\ ∀ s ∈ List.range 8,((["out","oust"]:List Str) ++ (List.range 8).map (nm8 b s)).Nodup /\ ∀ z ∈ (["out","oust"]:List Str) ++ (List.range 8).map (nm8 b s),(PyData.str z).canLay0 = true:=by decide +kernel
noncomputable def mkC (b:Str) (s k:Nat):Plc:=.ck (nm8 b s k) (Rat.divInt (1 + (0 + (k:Int))) 1)
noncomputable def sks:List Plc:=(["out","oust"]:List Str).map Plc.sk
noncomputable def skN (ps:List Plc):List Str:=(ps.filter fun q=>isC q == false).map nmP
noncomputable def yY6:Sp:=fun vs H Q _=>∃ (c:Int) (n s:Nat),vs = [.int c,.int (n:Nat),.int (s:Nat)] /\ 1 <= n /\ n <= 5 /\ s <= 2 /\ ∀ a H' xs ps,H a = none->Same H H'->H' a = some (.lst xs)->Paired (PlV H') xs ps->HouseOk ps->ckN ps ≠ []->(ckN ps).length = n->(1 <= s->skN ps ≠ [])->Q (.ref a) H'
noncomputable def yQ5:Sp:=fun vs H Q _=>∃ m f:Int,vs = [.int m,.int f] /\ (f = 0 \/ f = 1) /\ ∀ v H' t,Same H H'->FrV H' v t->0 <= t->t <= 1->t.den <= 99->Q v H'
noncomputable def yY2:Sp:=fun vs H Q _=>∃ (m:Int) (x:Str) (ao:Addr) (os L:List Str) (f:Int),vs = [.int m,.str x,.ref ao,.int f] /\ H ao = some (.lst (os.map V.str)) /\ os.length <= 8 /\ x ∈ L /\ (∀ z ∈ os,z ∈ L /\ z ≠ x /\ Lay z) /\ (f = 0 \/ f = 1) /\
 ∀ v H' st,Same H H'->StV H' v st->OkT L st->Q v H'
theorem xT7:(10:Int) ^ (5:Int).toNat = 100000:=by decide
theorem xI7 {ps:List Plc} {b:Str} {s0 n s:Nat} (hok:((["out","oust"]:List Str) ++ (List.range 8).map (nm8 b s0)).Nodup /\ ∀ z ∈ (["out","oust"]:List Str) ++ (List.range 8).map (nm8 b s0),(PyData.str z).canLay0 = true) (n1:1 <= n) (n5:n <= 5) (s2:s <= 2)
  (h:ps.Perm (sks.take s ++ (List.range n).map (mkC b s0))):HouseOk ps /\ ckN ps ≠ [] /\ (ckN ps).length = n /\ (1 <= s->skN ps ≠ []):=by
 have hp:(allN ps).Perm ((["out","oust"]:List Str).take s ++ (List.range n).map (nm8 b s0)):=by
  have:=h.map nmP
  rw [List.map_append] at this
  have e1:(sks.take s).map nmP = (["out","oust"]:List Str).take s:=by
   unfold sks
   rw [<- List.map_take,List.map_map]
   have:(nmP ∘ Plc.sk) = id:=by funext z; rfl
   rw [this,List.map_id]
  have e2:((List.range n).map (mkC b s0)).map nmP = (List.range n).map (nm8 b s0):=by
   rw [List.map_map]; rfl
  rw [e1,e2] at this
  exact this
 have et:(List.range n).map (nm8 b s0) = ((List.range 8).map (nm8 b s0)).take n:=by
  rw [<- List.map_take,List.take_range,Nat.min_eq_left (by omega)]
 have sub:List.Sublist ((["out","oust"]:List Str).take s ++ (List.range n).map (nm8 b s0)) ((["out","oust"]:List Str) ++ (List.range 8).map (nm8 b s0)):=by
  rw [et]; exact (List.take_sublist _ _).append (List.take_sublist _ _)
 refine ⟨⟨?_,fun z hz=>?_,?_⟩,fun e=>?_,?_,fun hs1 e=>?_⟩
 ·exact hp.nodup_iff.mpr (hok.1.sublist sub)
 ·exact hok.2 z (sub.subset (hp.mem_iff.mp hz))
 ·have:=h.length_eq
  rw [List.length_append,List.length_take,List.length_map,List.length_range] at this
  have e:sks.length = 2:=rfl
  omega
 ·have hm:mkC b s0 0 ∈ ps:=h.mem_iff.mpr (List.mem_append_right _ (List.mem_map.mpr ⟨0,List.mem_range.mpr (by omega),rfl⟩))
  have:nmP (mkC b s0 0) ∈ ckN ps:=List.mem_map.mpr ⟨_,List.mem_filter.mpr ⟨hm,rfl⟩,rfl⟩
  rw [e] at this; cases this
 ·have hf:=(h.filter isC).length_eq
  have e1:(ckN ps).length = (ps.filter isC).length:=by unfold ckN; rw [List.length_map]
  rw [List.filter_append,List.length_append] at hf
  have e2:(sks.take s).filter isC = []:=by
   rw [List.filter_eq_nil_iff]
   intro p hp
   have hp:=List.mem_of_mem_take hp
   unfold sks at hp
   obtain ⟨z,_,e⟩:=List.mem_map.mp hp
   rw [<- e]; simp [isC]
  have e3:((List.range n).map (mkC b s0)).filter isC = (List.range n).map (mkC b s0):=by
   rw [List.filter_eq_self]
   intro p hp
   obtain ⟨z,_,e⟩:=List.mem_map.mp hp
   rw [<- e]; rfl
  rw [e2,e3,List.length_nil,List.length_map,List.length_range] at hf
  omega
 ·have hm:Plc.sk "out" ∈ ps:=h.mem_iff.mpr (List.mem_append_left _ (by
   have e1:sks = Plc.sk "out" :: [Plc.sk "oust"]:=rfl
   have e2:s = (s - 1) + 1:=by omega
   rw [e1,e2,List.take_succ_cons]
   exact List.mem_cons_self))
  have:nmP (Plc.sk "out") ∈ skN ps:=List.mem_map.mpr ⟨_,List.mem_filter.mpr ⟨hm,rfl⟩,rfl⟩
  rw [e] at this; cases this
theorem xM4:∀ {ps:List Plc},(ps.map nmP).Nodup->∀ p ∈ ps,∀ q ∈ ps,nmP p = nmP q->p = q
 | [],_,_,h,_,_,_=>nomatch h
 | a :: r,hn,p,hp,q,hq,e=>by
  rw [List.map_cons,List.nodup_cons] at hn
  rcases List.mem_cons.mp hp with e1 | h1
  ·rcases List.mem_cons.mp hq with e2 | h2
   ·rw [e1,e2]
   ·exact absurd (List.mem_map.mpr ⟨q,h2,by rw [<- e,e1]⟩) hn.1
  ·rcases List.mem_cons.mp hq with e2 | h2
   ·exact absurd (List.mem_map.mpr ⟨p,h1,by rw [e,e2]⟩) hn.1
   ·exact xM4 hn.2 p h1 q h2 e
theorem zN6 (zs:List Str):PyData.eqv (.list (zs.map PyData.str)) (.list []) = zs.isEmpty:=by
 cases zs <;> simp [PyData.eqv,PyData.eqvAll]
theorem zM9 (zs:List Str):(PyData.list (zs.map PyData.str)).depth <= 64:=by
 have h1:=yK0 (f:=PyData.str) (n:=10) (fun a=>by simp [PyData.depth]) zs
 simp only [PyData.depth]
 omega
theorem zR3 {K:PySem.W.Frag} {H:Hp} {a:Addr} {zs:List Str} (h:H a = some (.lst (zs.map V.str))) (l:∀ z ∈ zs,Lay z):RepD K H (.list (zs.map PyData.str)) (.ref a):=repL (SqL.of h) (yH6 l)
theorem zW3 {K:PySem.W.Frag} {H:Hp} {a:Addr} (h:H a = some (.lst [])):RepD K H (.list []) (.ref a):=repL (SqL.of h) xT3
theorem zV4 {d:Int} (h:2 <= d) (hd:d < 1000):(1:Int) = (Rat.divInt 1 d).num /\ d = ((Rat.divInt 1 d).den:Int) /\ 0 <= Rat.divInt 1 d /\ Rat.divInt 1 d <= 1 /\ (Rat.divInt 1 d).den < 2 ^ 40:=by
 have l:=low (n:=1) (d:=d) (by omega) (by simp)
 have f:=xN1 (u:=1) (b:=d) (by decide) (by omega) (by omega)
 exact ⟨l.1.symm,l.2.symm,f.1,f.2,Nat.lt_of_le_of_lt (zR7 1 d (by omega)) (Nat.lt_of_le_of_lt (m:=1000) (by omega) (by decide))⟩
noncomputable def ChP (C:List Str) (ch:List Stp):Prop:=ch.length = C.length /\ ∀ (k:Nat) (x:Str),C[k]? = some x->∃ y t,ch[k]? = some (.ps x y t) /\ 0 < t /\ t <= 1 /\ ((k = 0 /\ y ∉ C) \/ ∃ k',k = k' + 1 /\ C[k']? = some y)
noncomputable def DrP (C:List Str) (dr:List Stp):Prop:=(∀ s ∈ dr,∃ x y t,s = .ps x y t /\ x ∈ C /\ y ∉ C /\ 0 <= t /\ t <= 1) /\ ∀ x ∈ C,∃ y t,Stp.ps x y t ∈ dr /\ 0 < t
theorem yB0 {d:Int} (h:2 <= d):0 < Rat.divInt 1 d:=by
 have h0:=Rat.divInt_nonneg (a:=1) (b:=d) (by decide) (by omega)
 refine yA2 h0 fun e=>?_
 have:=low (n:=1) (d:=d) (by omega) (by simp)
 rw [e] at this
 exact absurd this.1 (by decide)
noncomputable def yQ3 (K:PySem.W.Frag):Sp:=fun vs H Q _=>∃ (ac ah:Addr) (ms:List Int) (xs:List V) (ps:List Plc) (f d:Int),vs = [.ref ac,.ref ah,.int f,.int d] /\ SqL K H ac (ms.map V.int) /\ ms.length <= 10 /\ H ah = some (.lst xs) /\ Paired (PlV H) xs ps /\ HouseOk ps /\ ckN ps ≠ [] /\ (ckN ps).length <= 5 /\ (f = 0 \/ f = 1) /\
 ∀ p H' ys ss,H p = none->Same H H'->H' p = some (.lst ys)->Paired (StV H') ys ss->(∀ s ∈ ss,OkT (allN ps) s)->ss.length <= 15->(skN ps ≠ []->d = 2->∃ ch rest,ss = ch ++ rest /\ ChP (ckN ps) ch)->(skN ps ≠ []->d = 1->∃ rest dr,ss = rest ++ dr /\ DrP (ckN ps) dr)->Q (.ref p) H'
theorem wB1 (ps:List Plc):(ps.filter fun q=>isC q == true).map nmP = ckN ps:=by
 unfold ckN
 congr 1
 apply List.filter_congr
 intro q _
 cases isC q <;> rfl
theorem yZ0 {ps:List Plc} {z:Str} (h:z ∈ skN ps):z ∈ allN ps:=by
 obtain ⟨p,hp,e⟩:=List.mem_map.mp h
 exact List.mem_map.mpr ⟨p,(List.mem_filter.mp hp).1,e⟩
theorem xJ6 {ps:List Plc} (ok:HouseOk ps) {x y:Str} (hx:x ∈ ckN ps) (hy:y ∈ skN ps):x ≠ y:=by
 intro e
 obtain ⟨p,hp,e1⟩:=List.mem_map.mp hx
 obtain ⟨q,hq,e2⟩:=List.mem_map.mp hy
 obtain ⟨h1,h2⟩:=List.mem_filter.mp hp
 obtain ⟨h3,h4⟩:=List.mem_filter.mp hq
 have:=xM4 ok.nd p h1 q h3 (by rw [e1,e2,e])
 rw [this] at h2
 rw [h2] at h4; cases h4
theorem yA9 {zs:List Str} {j:Nat} {z:Str} (h:zs[j]? = some z):atI (zs.map V.str) ((j:Nat):Int) = some (.str z):=zU0 (by rw [List.getElem?_map,h]; rfl)
theorem xZ9 {zs:List Str} (h:zs.Nodup) {i j:Nat} {x y:Str} (hi:zs[i]? = some x) (hj:zs[j]? = some y) (n:i < j):x ≠ y:=by
 obtain ⟨hi',ei⟩:=List.getElem?_eq_some_iff.mp hi
 obtain ⟨hj',ej⟩:=List.getElem?_eq_some_iff.mp hj
 have:=List.pairwise_iff_getElem.mp h i j hi' hj' n
 rw [ei,ej] at this; exact this
theorem wB0 (ns:List Int):∃ ms:List Int,cutV (ns.map V.int) (some 2) (some 12) = ms.map V.int /\ ms.length <= 10:=by
 have e1:HT.sIx (ns.map V.int).length 0 (some 2) = min 2 (ns.map V.int).length:=HT.sIx_nat _ _ 2
 have e2:HT.sIx (ns.map V.int).length (ns.map V.int).length (some 12) = min 12 (ns.map V.int).length:=HT.sIx_nat _ _ 12
 refine ⟨(ns.drop (HT.sIx (ns.map V.int).length 0 (some 2))).take (HT.sIx (ns.map V.int).length (ns.map V.int).length (some 12) - HT.sIx (ns.map V.int).length 0 (some 2)),?_,?_⟩
 ·unfold cutV
  rw [List.map_take,List.map_drop]
 ·rw [List.length_take,e1,e2,List.length_drop]
  omega
noncomputable def stB (b:Bool):Stp->(Str->Rat)->(Str->Rat)
 | .br _ _ x q,f=>if b then fun z=>if z = x then f x + q else f z else f
 | .ps x y t,f=>fw x y t f
noncomputable def ledB (b:Bool) (ss:List Stp) (f:Str->Rat):Str->Rat:=ss.foldl (fun g s=>stB b s g) f
theorem yE5 {b:Bool} {ss:List Stp} {f:Str->Rat} {j:Nat} {s:Stp} (h:ss[j]? = some s):ledB b (ss.take (j + 1)) f = stB b s (ledB b (ss.take j) f):=by
 unfold ledB
 rw [zC2 h,List.foldl_append]; rfl
theorem zX8 {L:List Str} {ss:List Stp} (hO:∀ s ∈ ss,OkS L s) (n:Str):∀ j,j <= ss.length->ledB false (ss.take j) (dlt n) = back (ss.take j) n
 | 0,_=>rfl
 | j + 1,hj=>by
  obtain ⟨s,hs⟩:∃ s,ss[j]? = some s:=⟨_,List.getElem?_eq_getElem (by omega)⟩
  rw [yE5 hs,zX8 hO n j (by omega)]
  have es:=zY4 (ss.take j) (hO s (List.mem_of_getElem? hs))
  rw [<- zC2 hs] at es
  rw [es]
  cases s <;> rfl
theorem yX7 {α:Type} (l:List α) (a p q:α->Rat) (t u:Rat):∀ (_:DecidableEq α),(sumL l fun i=>a i * (p i * u + q i * t)) = (sumL l fun i=>a i * p i) * u + (sumL l fun i=>a i * q i) * t:=by
 intro inst
 induction l with
 | nil=>simp only [zG2]; grind
 | cons x l ih=>rw [zB2,zB2,zB2,ih]; grind
theorem xM9 {α:Type} (l:List α) (a:α->Rat) (g:α->Str->Rat) (x y:Str) (t:Rat) (z:Str):fw x y t (fun z=>sumL l fun i=>a i * g i z) z = sumL l fun i=>a i * fw x y t (g i) z:=by
 unfold fw
 have inst:DecidableEq α:=fun a b=>Classical.propDecidable (a = b)
 by_cases e:z = y
 ·rw [if_pos e]
  have:=yX7 l a (fun i=>g i y) (fun i=>g i x) t 1 inst
  have e2:(sumL l fun i=>a i * if z = y then g i y + g i x * t else if z = x then g i x - g i x * t else g i z) = sumL l fun i=>a i * (g i y * 1 + g i x * t):=by
   congr 1
   funext i
   rw [if_pos e]; grind
  rw [e2,this]; grind
 ·rw [if_neg e]
  by_cases e1:z = x
  ·rw [if_pos e1]
   have:=yX7 l a (fun i=>g i x) (fun i=>g i x) (-t) 1 inst
   have e2:(sumL l fun i=>a i * if z = y then g i y + g i x * t else if z = x then g i x - g i x * t else g i z) = sumL l fun i=>a i * (g i x * 1 + g i x * (-t)):=by
    congr 1
    funext i
    rw [if_neg e,if_pos e1]; grind
   rw [e2,this]; grind
  ·rw [if_neg e1]
   show (sumL l fun i=>a i * g i z) = _
   congr 1
   funext i
   rw [if_neg e,if_neg e1]
theorem xW3 (f g:Str->Rat) (x y:Str) (t:Rat) (z:Str):fw x y t (fun z=>f z + g z) z = fw x y t f z + fw x y t g z:=by
 unfold fw
 split
 ·grind
 ·split <;> grind
noncomputable def bTs (ss:List Stp) (z:Str):Rat:=sumL (brL ss) fun b=>b.q * b.g z
theorem xK2 {L:List Str} {ss:List Stp} {s:Stp} (h:OkS L s) (z:Str):bTs (ss ++ [s]) z = stB true s (bTs ss) z:=by
 have inst:DecidableEq Br:=fun a b=>Classical.propDecidable (a = b)
 unfold bTs
 rw [yF6 s h ss]
 have e1:∀ (l m:List Br) (f:Br->Rat),sumL (l ++ m) f = sumL l f + sumL m f:=fun l m f=>by
  induction l with
  | nil=>rw [List.nil_append,zG2,Rat.zero_add]
  | cons a l ih=>rw [List.cons_append,zB2,zB2,ih,Rat.add_assoc]
 have e2:∀ (l:List Br) (f:Br->Rat),sumL (l.map (adv s)) f = sumL l fun b=>f (adv s b):=fun l f=>by
  unfold sumL; rw [List.map_map]; rfl
 rw [e1,e2]
 cases s with
 | br z0 yr x q =>
  show (sumL (brL ss) fun b=>b.q * b.g z) + sumL [(⟨z0,yr,q,dlt x⟩:Br)] (fun b=>b.q * b.g z) = if z = x then bTs ss x + q else bTs ss z
  rw [zB2,zG2]
  show _ + (q * dlt x z + 0) = _
  unfold dlt
  by_cases e:z = x
  ·subst e; rw [if_pos rfl,if_pos rfl]; unfold bTs; grind
  ·rw [if_neg e,if_neg e]; unfold bTs; grind
 | ps x y t =>
  show (sumL (brL ss) fun b=>b.q * fw x y t b.g z) + sumL ([]:List Br) _ = fw x y t (bTs ss) z
  rw [zG2,Rat.add_zero]
  exact (xM9 (brL ss) (fun b=>b.q) (fun b=>b.g) x y t z).symm
theorem zV0 {L:List Str} {ss:List Stp} (hn:L.Nodup) (hO:∀ s ∈ ss,OkS L s) (b:Bool) (f:Str->Rat):∀ j,j <= ss.length->∀ z ∈ L,ledB b (ss.take j) f z = (sumL L fun n=>f n * back (ss.take j) n z) + if b then bTs (ss.take j) z else 0
 | 0,_,z,hz=>by
  show f z = _
  have e1:(sumL L fun n=>f n * back (ss.take 0) n z) = f z:=by
   rw [List.take_zero]
   show (sumL L fun n=>f n * dlt n z) = _
   rw [zM7 hz]
   have:sumL (L.erase z) (fun n=>f n * dlt n z) = 0:=zK6 _ _ fun n hm=>by
    have:=((hn.mem_erase_iff).mp hm).1
    unfold dlt
    rw [if_neg fun e=>this e.symm,Rat.mul_zero]
   rw [this]
   unfold dlt
   rw [if_pos rfl]; grind
  have e2:(if b then bTs (ss.take 0) z else 0) = 0:=by
   rw [List.take_zero]
   cases b <;> rfl
  rw [e1,e2,Rat.add_zero]
 | j + 1,hj,z,hz=>by
  obtain ⟨s,hs⟩:∃ s,ss[j]? = some s:=⟨_,List.getElem?_eq_getElem (by omega)⟩
  have ok:=hO s (List.mem_of_getElem? hs)
  have ih:=zV0 hn hO b f j (by omega)
  have es:=zY4 (ss.take j) ok
  rw [<- zC2 hs] at es
  rw [yE5 hs,es]
  have eb:∀ z,bTs (ss.take (j + 1)) z = stB true s (bTs (ss.take j)) z:=fun z=>by rw [zC2 hs]; exact xK2 ok z
  rw [eb]
  cases s with
  | br z0 yr x q =>
   cases b with
   | false=>exact ih z hz
   | true =>
    show (if z = x then ledB true (ss.take j) f x + q else ledB true (ss.take j) f z) = (sumL L fun n=>f n * back (ss.take j) n z) + if z = x then bTs (ss.take j) x + q else bTs (ss.take j) z
    by_cases e:z = x
    ·subst e
     rw [if_pos rfl,if_pos rfl,ih z hz]
     simp only [if_true]
     grind
    ·rw [if_neg e,if_neg e,ih z hz]
     simp only [if_true]
  | ps x y t =>
   obtain ⟨hx,hy,_⟩:=ok
   have ez:fw x y t (ledB b (ss.take j) f) z = fw x y t (fun z=>(sumL L fun n=>f n * back (ss.take j) n z) + if b then bTs (ss.take j) z else 0) z:=by
    unfold fw
    rw [ih x hx,ih y hy,ih z hz]
   show fw x y t (ledB b (ss.take j) f) z = (sumL L fun n=>f n * fw x y t (back (ss.take j) n) z) + if b then fw x y t (bTs (ss.take j)) z else 0
   rw [ez,xW3,xM9]
   cases b with
   | true=>rfl
   | false =>
    have:fw x y t (fun _=>(0:Rat)) z = 0:=by unfold fw; split; grind; split <;> grind
    show _ + fw x y t (fun _=>(0:Rat)) z = _ + 0
    rw [this]
noncomputable def xG6 (K:PySem.W.Frag):Sp:=fun vs H Q _=>∃ (a as:Addr) (kv:List (Key × V)) (ys:List V) (ss:List Stp) (L:List Str) (b:Bool) (f:Str->Rat),vs = [.ref a,.ref as,.bl b] /\ H a = some (.dK kv) /\ L.Nodup /\ L.length <= 8 /\ RowAt H kv (all L f) /\ SqL K H as ys /\ Paired (StV H) ys ss /\ (∀ s ∈ ss,OkT L s) /\ ss.length <= 15 /\
 (∀ j,j <= ss.length->∀ z ∈ L,Bd 3900 (ledB b (ss.take j) f z)) /\
 ∀ p H' kv',H p = none->Same H H'->H' p = some (.dK kv')->RowAt H' kv' (all L (ledB b ss f))->Q (.ref p) H'
noncomputable def zU7 (K:PySem.W.Frag):Sp:=fun vs H Q _=>∃ (ah b:Addr) (xs:List V) (ps:List Plc) (kt:List (Key × V)) (g:Str->Option Rat),vs = [.ref ah,.ref b] /\ SqL K H ah xs /\ Paired (PlV H) xs ps /\ ps.length <= 8 /\ H b = some (.dK kt) /\ RowAt H kt g /\
 ∀ p H' kv',H p = none->Same H H'->H' p = some (.dK kv')->RowAt H' kv' (all (allN ps) fun z=>(g z).getD 0)->Q (.ref p) H'
noncomputable def zU8 (K:PySem.W.Frag):Sp:=fun vs H Q _=>∃ (ah b:Addr) (xs:List V) (ps:List Plc) (km:List (Key × V)) (f:Str->Rat),vs = [.ref ah,.ref b] /\ SqL K H ah xs /\ Paired (PlV H) xs ps /\ ps.length <= 8 /\ H b = some (.dK km) /\ RowAt H km (all (allN ps) f) /\
 ∀ p H' kv',H p = none->Same H H'->H' p = some (.dK kv')->RowAt H' kv' (all (ckN ps) f)->Q (.ref p) H'
noncomputable def xK9 (K:PySem.W.Frag):Sp:=fun vs H Q _=>∃ (ah as:Addr) (xs:List V) (ps:List Plc) (ys:List V) (ss:List Stp),vs = [.ref ah,.ref as] /\ H ah = some (.lst xs) /\ Paired (PlV H) xs ps /\ HouseOk ps /\ H as = some (.lst ys) /\ Paired (StV H) ys ss /\ (∀ s ∈ ss,OkT (allN ps) s) /\ ss.length <= 15 /\
 ∀ p H' rows ad,H p = none->Same H H'->H' p = some (.dK rows)->TabAt H H' p rows (ckN ps) (back ss) ad->Q (.ref p) H'
theorem all_some {L:List Str} {f:Str->Rat} {z:Str}:(all L f z).isSome = true ↔ z ∈ L:=by
 unfold all
 split
 ·rename_i h; simp [h]
 ·rename_i h; simp [h]
theorem RowAt.len' {H:Hp} {kvs:List (Key × V)} {g:Str->Option Rat} {L:List Str} (h:RowAt H kvs g) (hf:∀ z,(g z).isSome = true->z ∈ L):kvs.length <= L.length:=by
 rw [<- zD2]
 exact zD8 (zE8 h.nodup h.keys) fun z hz=>hf z ((h.iff z).mp hz)
theorem xX9 {L:List Str} {f:Str->Rat} {x y:Str} {t:Rat} (hx:x ∈ L) (hy:y ∈ L):(fun z=>if z = y then some (f y + f x * t) else if z = x then some (f x + -(f x * t)) else all L f z) = all L (fw x y t f):=by
 funext z
 unfold all fw
 by_cases e1:z = y
 ·subst e1; simp [hy]
 ·by_cases e2:z = x
  ·subst e2; simp [hx,e1,xK8]
  ·simp [e1,e2]
noncomputable def LsF (H:Hp) (a:Addr) (rs:List Rat):Prop:=∃ vs,H a = some (.lst vs) /\ Paired (FrV H) vs rs
theorem LsF.same {H H':Hp} {a:Addr} {rs:List Rat} (h:LsF H a rs) (s:Same H H'):LsF H' a rs:=let ⟨vs,h1,h2⟩:=h; ⟨vs,s _ _ h1,Paired.mapP h2 fun _ _ f=>f.same s⟩
theorem LsF.keep {H H':Hp} {a:Addr} {rs:List Rat} (h:LsF H a rs) (tu:∀ c l,H c = some (.tup l)->H' c = some (.tup l)) (e:∀ vs,H a = some (.lst vs)->H' a = some (.lst vs)):LsF H' a rs:=let ⟨vs,h1,h2⟩:=h; ⟨vs,e _ h1,Paired.mapP h2 fun _ _ f=>f.tup tu⟩
theorem yT0 {α:Type} {xs:List α} {x y:α} {j:Nat} (h:(xs ++ [x])[j]? = some y):xs[j]? = some y \/ (j = xs.length /\ y = x):=by
 by_cases hj:j < xs.length
 ·left; rw [List.getElem?_append_left hj] at h; exact h
 ·right
  rw [List.getElem?_append_right (by omega)] at h
  have:j - xs.length = 0:=by
   have:=(List.getElem?_eq_some_iff.mp h).1
   simp at this; omega
  rw [this] at h
  exact ⟨by omega,by simpa using h.symm⟩
noncomputable def nR (m:Nat) (f:Nat->Rat):List Rat:=(List.range m).map f
theorem zP0 (m:Nat) (f:Nat->Rat):(nR m f).length = m:=by unfold nR; rw [List.length_map,List.length_range]
theorem xB7 {m:Nat} {f:Nat->Rat} {j:Nat} {r:Rat} (h:(nR m f)[j]? = some r):j < m /\ r = f j:=by
 unfold nR at h
 rw [List.getElem?_map] at h
 by_cases hj:j < m
 ·rw [List.getElem?_range hj] at h
  exact ⟨hj,(Option.some.inj h).symm⟩
 ·rw [List.getElem?_eq_none (by rw [List.length_range]; omega)] at h; cases h
theorem zX6 (m:Nat) (f:Nat->Rat):nR (m + 1) f = nR m f ++ [f m]:=by
 unfold nR
 rw [List.range_succ,List.map_append]; rfl
theorem yE3 {m:Nat} {f g:Nat->Rat} (h:∀ j,j < m->f j = g j):nR m f = nR m g:=by
 unfold nR
 exact List.map_congr_left fun j hj=>h j (List.mem_range.mp hj)
noncomputable def MatAt (H:Hp) (a:Addr) (r m:Nat) (M:Nat->Nat->Rat):Prop:=∃ bs:List Addr,H a = some (.lst (bs.map V.ref)) /\ bs.length = r /\ ∀ i b,bs[i]? = some b->LsF H b (nR m (M i))
theorem zW4 {bs:List Addr} {i:Nat} {b:Addr} (h:bs[i]? = some b):atI (bs.map V.ref) ((i:Nat):Int) = some (.ref b):=zU0 (by rw [List.getElem?_map,h]; rfl)
theorem yZ6 {bs:List Addr} {i:Nat} {x:V} (h:(bs.map V.ref)[i]? = some x):∃ b,x = .ref b /\ bs[i]? = some b:=by
 rw [List.getElem?_map] at h
 cases q:bs[i]? with
 | none=>rw [q] at h; cases h
 | some b=>rw [q] at h; exact ⟨b,(Option.some.inj h).symm,rfl⟩
theorem LsF.at {H:Hp} {a:Addr} {m:Nat} {f:Nat->Rat} (h:LsF H a (nR m f)) {j:Nat} (hj:j < m):∃ vs v,H a = some (.lst vs) /\ vs.length = m /\ atI vs ((j:Nat):Int) = some v /\ FrV H v (f j):=by
 obtain ⟨vs,h1,h2⟩:=h
 have hl:vs.length = m:=h2.length.trans (zP0 m f)
 obtain ⟨v,hv⟩:∃ v,vs[j]? = some v:=⟨_,List.getElem?_eq_getElem (by omega)⟩
 obtain ⟨r,hr,fr⟩:=zC4 h2 hv
 obtain ⟨_,rfl⟩:=xB7 hr
 exact ⟨vs,v,h1,hl,zU0 hv,fr⟩
theorem eq01 (t:Rat):PyData.eqv (pq t.num t.den) (pq 0 1) = decide (t = 0):=by
 rw [yT6]
 exact yT2 t 0
theorem eq11 (t:Rat):PyData.eqv (pq t.num t.den) (pq 1 1) = decide (t = 1):=by
 rw [yT6]
 exact yT2 t 1
theorem xC8 {n k:Nat} (h:k < n):ixN n ((k:Nat):Int) = some k:=by
 unfold ixN
 rw [if_pos (by omega),if_pos (by omega)]
 simp
theorem yS7 (bs:List Addr) (i:Nat) (b:Addr):(bs.map V.ref).set i (.ref b) = (bs.set i b).map V.ref:=by rw [List.map_set]
theorem MatAt.swap {H:Hp} {a:Addr} {bs:List Addr} {r m:Nat} {M:Nat->Nat->Rat} {x y:Nat} {bx bc:Addr} (h:H a = some (.lst (((bs.set x bc).set y bx).map V.ref))) (lb:bs.length = r) (hB:∀ i b,bs[i]? = some b->LsF H b (nR m (M i))) (hx:bs[x]? = some bx) (hy:bs[y]? = some bc):MatAt H a r m (zP8 M x y):=by
 refine ⟨_,h,by rw [List.length_set,List.length_set]; exact lb,fun i b e=>?_⟩
 have lx:=(List.getElem?_eq_some_iff.mp hx).1
 have ly:=(List.getElem?_eq_some_iff.mp hy).1
 unfold zP8
 rw [List.getElem?_set] at e
 by_cases e1:y = i
 ·rw [if_pos e1,List.length_set,if_pos ly] at e
  cases e
  rw [if_pos e1.symm]; exact hB x bx hx
 ·rw [if_neg e1,List.getElem?_set] at e
  rw [if_neg fun q=>e1 q.symm]
  by_cases e2:x = i
  ·rw [if_pos e2,if_pos lx] at e
   cases e
   rw [if_pos e2.symm]; exact hB y bc hy
  ·rw [if_neg e2] at e
   rw [if_neg fun q=>e2 q.symm]; exact hB i b e
theorem yE1 {kv:List (Key × V)} (n:Str) (v:V) (hk:∀ q ∈ kv,∃ z,q.1 = .inr z):nms (putK kv (.inr n) v) = putS (nms kv) n:=by
 have key:∀ {l:List (Key × V)},(∀ q ∈ l,∃ z,q.1 = .inr z)->((l.any fun q=>decide (q.1 = .inr n)) = true ↔ n ∈ nms l):=by
  intro l h
  rw [List.any_eq_true]
  unfold nms
  rw [List.mem_map]
  constructor
  ·rintro ⟨q,hq,e⟩
   refine ⟨q,hq,?_⟩
   rw [of_decide_eq_true e]; rfl
  ·rintro ⟨q,hq,e⟩
   obtain ⟨z,ez⟩:=h q hq
   refine ⟨q,hq,decide_eq_true ?_⟩
   rw [ez] at e ⊢
   rw [show z = n from e]
 unfold putK putS
 by_cases q:n ∈ nms kv
 ·rw [if_pos ((key hk).mpr q),if_pos q]
  unfold nms
  rw [List.map_map]
  refine List.map_congr_left fun p _=>?_
  show nmz (if p.1 = .inr n then (p.1,v) else p).1 = nmz p.1
  split <;> rfl
 ·rw [if_neg (fun u=>q ((key hk).mp u)),if_neg q]
  unfold nms
  rw [List.map_append]; rfl
theorem xH0 {S:List Str} {x:Str} (h:x ∈ S):putS S x = S:=by unfold putS; rw [if_pos h]
theorem yC1 {S:List Str} {x:Str} (h:x ∉ S):putS S x = S ++ [x]:=by unfold putS; rw [if_neg h]
theorem yE2 {C:List Str} (hn:C.Nodup) {i:Nat} {x:Str} (h:C[i]? = some x):x ∉ C.take i:=by
 intro hm
 obtain ⟨j,hj,e⟩:=List.getElem_of_mem hm
 rw [List.length_take] at hj
 rw [List.getElem_take] at e
 obtain ⟨hi,e2⟩:=List.getElem?_eq_some_iff.mp h
 exact List.pairwise_iff_getElem.mp hn j i (by omega) hi (by omega) (e.trans e2.symm)
theorem zY7 {L:List Str} {f g:Str->Rat} (h:∀ z ∈ L,f z = g z):all L f = all L g:=by
 funext z
 unfold all
 by_cases hz:z ∈ L
 ·rw [if_pos hz,if_pos hz,h z hz]
 ·rw [if_neg hz,if_neg hz]
theorem xR7 {L:List Str} {f:Str->Rat} {n:Str} (hn:n ∈ L) (r:Rat):(fun y=>if y = n then some r else all L f y) = all L (fun y=>if y = n then r else f y):=by
 funext y
 unfold all
 by_cases e:y = n
 ·subst e; simp [hn]
 ·simp [e]
theorem xA8 {f:Str->Rat} {z:Str} {r:Rat} (h:op f z = some r):f z = r /\ r ≠ 0:=by
 unfold op at h
 split at h
 ·cases h
 ·rename_i q
  cases h
  exact ⟨rfl,q⟩
theorem zW9 {α β:Type} {F:α->β->Prop}:∀ {xs:List α} {ys:List β},xs.length = ys.length->(∀ (i:Nat) (x:α) (y:β),xs[i]? = some x->ys[i]? = some y->F x y)->Paired F xs ys
 | [],[],_,_=>.nil
 | [],_ :: _,h,_=>by simp at h
 | _ :: _,[],h,_=>by simp at h
 | x :: xs,y :: ys,h,g=>.cons (g 0 x y rfl rfl) (zW9 (by simpa using h) fun i a b ha hb=>g (i + 1) a b (by simpa using ha) (by simpa using hb))
theorem RowAt.vals {H:Hp} {kvs:List (Key × V)} {f:Str->Rat} (h:RowAt H kvs (op f)):Paired (FrV H) (kvs.map (·.2)) ((nms kvs).map f):=by
 refine zW9 (by rw [List.length_map,List.length_map,zD2]) fun i x y hx hy=>?_
 rw [List.getElem?_map] at hx hy
 cases q:kvs[i]? with
 | none=>rw [q] at hx; cases hx
 | some p =>
  rw [q] at hx
  cases hx
  obtain ⟨z,r,hz,hg,fr,_,_⟩:=h.at q
  have:(nms kvs)[i]? = some z:=by
   unfold nms
   rw [List.getElem?_map,q]
   show some (nmz p.1) = _
   rw [hz]; rfl
  rw [this] at hy
  cases hy
  rw [(xA8 hg).1]; exact fr
theorem yZ5 {H:Hp} {kvs:List (Key × V)} {C:List Str} {f g:Str->Rat} (nC:C.Nodup) (h:RowAt H kvs (op (fun z=>if z ∈ C then f z else 0))) (hg:∀ z ∈ C,f z = 0->g z = 0):sumL (nms kvs) g = sumL C g:=by
 refine zM2 g nC (zE8 h.nodup h.keys) (fun z hz=>?_) fun z hz hn=>?_
 ·have:=op_some.mp ((h.iff z).mp hz)
  by_cases e:z ∈ C
  ·exact e
  ·rw [if_neg e] at this; exact absurd rfl this
 ·refine (h.iff z).mpr (op_some.mpr ?_)
  rw [if_pos hz]
  exact fun e=>hn (hg z hz e)
theorem xV0 (C:List Str):Nmd C (fun i=>C.getD i ""):=fun i hi=>by
 show C[i]? = some (C.getD i "")
 rw [List.getD_eq_getElem?_getD,List.getElem?_eq_getElem hi]; rfl
theorem yE6:∀ {rows:List (Key × V)},(∀ kv ∈ rows,∃ z,kv.1 = .inr z)->(rows.map fun kv=>kV kv.1) = (nms rows).map V.str
 | [],_=>rfl
 | kv :: rows,h=>by
  obtain ⟨z,e⟩:=h kv List.mem_cons_self
  have ih:=yE6 (rows:=rows) fun kv hk=>h kv (List.mem_cons_of_mem _ hk)
  rw [List.map_cons,ih]
  show kV kv.1 :: _ = V.str (nmz kv.1) :: _
  rw [e]; rfl
theorem yE7:∀ {rows:List (Key × V)},(∀ kv ∈ rows,∃ z,kv.1 = .inr z)->rows.map (·.1) = (nms rows).map Sum.inr
 | [],_=>rfl
 | kv :: rows,h=>by
  obtain ⟨z,e⟩:=h kv List.mem_cons_self
  have ih:=yE7 (rows:=rows) fun kv hk=>h kv (List.mem_cons_of_mem _ hk)
  rw [List.map_cons,ih]
  show kv.1 :: _ = Sum.inr (nmz kv.1) :: _
  rw [e]; rfl
theorem zU4:∀ {C:List Str} {vs:List V},vs.length = C.length->nms (zipV C vs) = C
 | [],vs,_=>rfl
 | c :: C,[],h=>by simp at h
 | c :: C,v :: vs,h=>by
  have:=zU4 (C:=C) (vs:=vs) (by simpa using h)
  show c :: nms (zipV C vs) = c :: C
  rw [this]
theorem yG1 (C:List Str) (vs:List V):∀ kv ∈ zipV C vs,∃ z,kv.1 = .inr z:=fun kv h=>by
 unfold zipV at h
 obtain ⟨p,_,e⟩:=List.mem_map.mp h
 exact ⟨p.1,by rw [<- e]⟩
theorem xD1 {C:List Str} (h:C.Nodup):(C.map (Sum.inr:Str->Key)).Nodup:=by
 rw [List.nodup_iff_pairwise_ne,List.pairwise_map]
 exact (List.nodup_iff_pairwise_ne.mp h).imp fun h e=>h (Sum.inr.inj e)
theorem RowAt.zip {H:Hp} {C:List Str} {vs:List V} {x:Nat->Rat} (nC:C.Nodup) (h:Paired (FrV H) vs (nR C.length x)):RowAt H (zipV C vs) (all C fun z=>x (C.idxOf z)):=by
 have hl:vs.length = C.length:=h.length.trans (zP0 _ _)
 have nk:((zipV C vs).map (·.1)).Nodup:=by
  rw [yE7 (yG1 C vs),zU4 hl]
  exact xD1 nC
 refine ⟨nk,yG1 C vs,fun z r e=>?_,fun z e=>?_⟩
 ·unfold all at e
  split at e
  ·rename_i hz
   cases e
   have li:C.idxOf z < C.length:=List.idxOf_lt_length_of_mem hz
   obtain ⟨v,hv⟩:∃ v,vs[C.idxOf z]? = some v:=⟨_,List.getElem?_eq_getElem (by omega)⟩
   obtain ⟨r,hr,fr⟩:=zC4 h hv
   obtain ⟨_,rfl⟩:=xB7 hr
   refine ⟨v,?_,fr⟩
   have hg:(zipV C vs)[C.idxOf z]? = some (.inr z,v):=by
    unfold zipV
    rw [List.getElem?_map]
    have:(C.zip vs)[C.idxOf z]? = some (z,v):=by
     rw [List.getElem?_zip_eq_some]
     exact ⟨by rw [List.getElem?_eq_getElem li,List.getElem_idxOf li],hv⟩
    rw [this]; rfl
   exact zK9 nk hg
  ·cases e
 ·unfold all at e
  split at e
  ·cases e
  ·rename_i hz
   cases q:valV (zipV C vs) (.inr z) with
   | none=>rfl
   | some v =>
    have:=zT3 q
    rw [zU4 hl] at this
    exact absurd this hz
noncomputable def xL4:Sp:=fun vs H Q _=>∃ (a b:Addr) (fv:V) (m:Nat) (f g:Nat->Rat) (t:Rat),vs = [.ref a,.ref b,fv] /\ LsF H a (nR m f) /\ LsF H b (nR m g) /\ FrV H fv t /\ m <= 30 /\ Bd 8000 t /\ (∀ j,j < m->Bd 8000 (f j) /\ Bd 8000 (g j) /\ Bd 8000 (g j * t)) /\
 ∀ p H',H p = none->Same H H'->LsF H' p (nR m fun j=>f j - g j * t)->Q (.ref p) H'
noncomputable def xS9:Sp:=fun vs H Q _=>∃ (a:Addr) (r m c k:Nat) (M:Nat->Nat->Rat),vs = [.ref a,.int (c:Nat),.int (k:Nat)] /\ MatAt H a r m M /\ c < r /\ k < m /\ r <= 30 /\ m <= 30 /\ M c k ≠ 0 /\ (∀ i,i < r->∀ j,j < m->Bd 8000 (M i j) /\ Bd 8000 (M c j / M c k) /\ Bd 8000 (M c j / M c k * M i k)) /\
 ∀ p H',H p = none->Same H H'->MatAt H' p r m (pivM M c k)->Q (.ref p) H'
noncomputable def yQ4:Sp:=fun vs H Q _=>∃ (a:Addr) (n d e:Nat) (A:Nat->Nat->Rat),vs = [.ref a] /\ MatAt H a n (n + 1) A /\ n <= 5 /\ BdB n A d e /\ 32 * (d + 1) <= 7900 /\ e + 31 * (d + 1) <= 7900 /\ (∀ y,y n = 0->KerM n A y->∀ j,j < n->y j = 0) /\
 ∀ p H' x,H p = none->Same H H'->LsF H' p (nR n x)->(∀ i,i < n->sN n (fun j=>A i j * x j) = A i n)->(∃ E W,0 < E /\ E <= W /\ W <= 2 ^ (e + 31 * (d + 1)) /\ ∀ i,i < n->Cd E W (x i))->Q (.ref p) H'
noncomputable def xL5:Sp:=fun vs H Q _=>∃ (pr pa:Addr) (H0:Hp) (rows kb:List (Key × V)) (ad:Str->Addr) (C L:List Str) (R:Str->Str->Rat) (b:Str->Rat) (D E W d e:Nat),vs = [.ref pr,.ref pa] /\ H pr = some (.dK rows) /\ TabAt H0 H pr rows C (resC C R) ad /\ nms rows = C /\ C.Nodup /\ C.length <= 5 /\ L.Nodup /\ (∀ x ∈ C,x ∈ L) /\
 Good L D R /\ 0 < D /\ D <= 2 ^ d /\ H pa = some (.dK kb) /\ RowAt H kb (all C b) /\ 0 < E /\ E <= W /\ W <= 2 ^ e /\ (∀ z ∈ C,Cd E W (b z)) /\ 32 * (d + 1) <= 7900 /\ e + 31 * (d + 1) <= 7900 /\ (∀ x ∈ C,Leak C R x) /\
 ∀ p H' kv X,H p = none->Same H H'->H' p = some (.dK kv)->RowAt H' kv (all C X)->nms kv = C->(∀ z ∈ C,X z = (sumL C fun y=>X y * R y z) + b z)->(∃ E W,0 < E /\ E <= W /\ W <= 2 ^ (e + 31 * (d + 1)) /\ ∀ z ∈ C,Cd E W (X z))->Q (.ref p) H'
noncomputable def bT (ss:List Stp) (z:Str):Rat:=sumQ ((brL ss).map fun b=>b.q * b.g z)
theorem zW7:∀ a b:List Stp,zC5 (a ++ b) = zC5 b * zC5 a
 | [],b=>by show zC5 b = zC5 b * 1; rw [Nat.mul_one]
 | s :: a,b=>by
  show zC5 (a ++ b) * dnS s = zC5 b * (zC5 a * dnS s)
  rw [zW7 a b,Nat.mul_assoc]
theorem yV2 (ss:List Stp) (n:Nat):zC5 ss = zC5 (ss.drop n) * zC5 (ss.take n):=by
 rw [<- zW7,List.take_append_drop]
theorem xA3 {L:List Str}:∀ {ss:List Stp},(∀ s ∈ ss,OkT L s)->zC5 ss <= 99 ^ ss.length
 | [],_=>Nat.le_refl _
 | s :: ss,h=>by
  have g:=xA3 (ss:=ss) fun s hs=>h s (List.mem_cons_of_mem _ hs)
  have e:dnS s <= 99:=by
   have:=(h s List.mem_cons_self).2
   cases s with
   | br _ _ _ _=>exact (by decide:1 <= 99)
   | ps _ _ t=>exact this
  rw [List.length_cons,Nat.pow_succ]
  exact Nat.mul_le_mul g e
theorem zL8 {L:List Str} {ss:List Stp} (h:∀ s ∈ ss,OkT L s) (hl:ss.length <= 15):zC5 ss <= 2 ^ 100 :=
 Nat.le_trans (xA3 h) (Nat.le_trans (Nat.pow_le_pow_right (by decide) hl) (by decide))
theorem xK0 {L:List Str}:∀ {ss:List Stp},(∀ s ∈ ss,OkT L s)->∀ b ∈ brL ss,IsM 12 1000 b.q
 | .br z yr x q :: ss,h,b,hb=>by
  rcases List.mem_cons.mp hb with e | e
  ·rw [e]; exact (h _ List.mem_cons_self).2
  ·exact xK0 (ss:=ss) (fun s hs=>h s (List.mem_cons_of_mem _ hs)) b e
 | .ps _ _ _ :: ss,h,b,hb=>xK0 (ss:=ss) (fun s hs=>h s (List.mem_cons_of_mem _ hs)) b hb
theorem xX7 {L:List Str} (hn:L.Nodup) {ss:List Stp} (hO:∀ s ∈ ss,OkT L s) (z:Str):∀ b ∈ brL ss,IsM (zC5 ss) 1 (b.g z):=by
 intro b hb
 obtain ⟨n,x,hx,eg⟩:=yO8 (fun s hs=>(hO s hs).1) b hb
 have G:=zE3 hn (ss:=ss.drop n) fun s hs=>(hO s (List.mem_of_mem_drop hs)).1
 rw [yV2 ss n,eg]; exact (G.part x hx z).up _
theorem xN6 {L:List Str} (hn:L.Nodup) {ss:List Stp} (hO:∀ s ∈ ss,OkT L s) (z:Str):∀ b ∈ brL ss,IsM (12 * zC5 ss) 1000 (b.q * b.g z):=by
 intro b hb
 have:=(xK0 hO b hb).mul (xX7 hn hO z b hb)
 rw [Nat.mul_one] at this; exact this
theorem yP1 {L:List Str} (hn:L.Nodup) {ss:List Stp} (hO:∀ s ∈ ss,OkT L s) (z:Str):∀ k,k <= (brL ss).length->IsM (12 * zC5 ss) (1000 * k) (sumQ (((brL ss).take k).map fun b=>b.q * b.g z))
 | 0,_=>IsM.zero _ _
 | k + 1,h=>by
  obtain ⟨b,hb⟩:∃ b,(brL ss)[k]? = some b:=⟨_,List.getElem?_eq_getElem (by omega)⟩
  have e:(brL ss).take (k + 1) = (brL ss).take k ++ [b]:=by rw [List.take_add_one,hb]; rfl
  rw [e,List.map_append]
  have g:=yP1 hn hO z k (by omega)
  have q:=xN6 hn hO z b (List.mem_of_getElem? hb)
  have s:sumQ (((brL ss).take k).map (fun b=>b.q * b.g z) ++ [b].map fun b=>b.q * b.g z) = sumQ (((brL ss).take k).map fun b=>b.q * b.g z) + b.q * b.g z:=by
   unfold sumQ; rw [List.foldl_append]; rfl
  rw [s]
  have:=g.add q
  exact this
theorem twelve {D:Nat} (h:D <= 2 ^ 100) {k:Nat} (hk:k <= 15000):k * (12 * D) <= 2 ^ 118:=by
 have e18:(2:Nat) ^ 18 = 262144:=by decide
 have h1:k * 12 <= 2 ^ 18:=by omega
 rw [<- Nat.mul_assoc]
 have:=Nat.mul_le_mul h1 h
 rw [<- Nat.pow_add] at this
 exact this
theorem xX8 {L:List Str} (hn:L.Nodup) {ss:List Stp} (hO:∀ s ∈ ss,OkT L s) (hl:ss.length <= 15) (z:Str):Cd (12 * zC5 ss) (15000 * (12 * zC5 ss)) (bT ss z):=by
 have:=yP1 hn hO z _ (Nat.le_refl _)
 rw [List.take_length] at this
 refine (Cd.of this).mono (Nat.mul_le_mul_right _ ?_)
 have:=zY2 ss
 omega
noncomputable def xL6 (K:PySem.W.Frag):Sp:=fun vs H Q _=>∃ (ah as:Addr) (xs:List V) (ps:List Plc) (ys:List V) (ss:List Stp),vs = [.ref ah,.ref as] /\ SqL K H ah xs /\ Paired (PlV H) xs ps /\ HouseOk ps /\ SqL K H as ys /\ Paired (StV H) ys ss /\ (∀ s ∈ ss,OkT (allN ps) s) /\ ss.length <= 15 /\
 ∀ p H' kv,H p = none->Same H H'->H' p = some (.dK kv)->RowAt H' kv (all (ckN ps) (bT ss))->nms kv = ckN ps->Q (.ref p) H'
noncomputable def yQ6:Sp:=fun vs H Q _=>∃ (pr:Addr) (H0:Hp) (rows:List (Key × V)) (ad:Str->Addr) (C L:List Str) (R:Str->Str->Rat) (D:Nat),vs = [.ref pr] /\ H pr = some (.dK rows) /\ TabAt H0 H pr rows C (resC C R) ad /\ nms rows = C /\ C.Nodup /\ C.length <= 5 /\ L.Nodup /\ (∀ x ∈ C,x ∈ L) /\ Good L D R /\ 0 < D /\ 8 * D < 2 ^ 2600 /\
 ∀ p H' ss,H p = none->Same H H'->H' p = some (.lst (ss.map V.str))->ss.Nodup->(∀ x,x ∈ ss ↔ x ∈ C /\ ¬ Leak C R x)->PyProof.Rows.sortedS ss = true->Q (.ref p) H'
noncomputable def xL1:Sp:=fun vs H Q _=>∃ (pr:Addr) (H0:Hp) (rows:List (Key × V)) (ad:Str->Addr) (C L:List Str) (R:Str->Str->Rat) (D:Nat),vs = [.ref pr] /\ H pr = some (.dK rows) /\ TabAt H0 H pr rows C (resC C R) ad /\ nms rows = C /\ C.Nodup /\ C ≠ [] /\ C.length <= 5 /\ L.Nodup /\ (∀ x ∈ C,x ∈ L) /\ Good L D R /\ 0 < D /\ D <= 2 ^ 500 /\ (∀ x ∈ C,Leak C R x) /\
 ∀ p H' f r (k:Nat),H p = none->Same H H'->H' p = some (.tup [.int (k:Nat),f])->FrV H' f r->1 <= k->k <= C.length->(∀ x ∈ C,stay C R k x <= r)->(∃ x ∈ C,stay C R k x = r)->r < 1->(∀ j,j < k->∃ x ∈ C,stay C R j x = 1)->Q (.ref p) H'
noncomputable def trK (S:List Str):List (Key × V):=S.map fun z=>(.inr z,.bl true)
theorem yX5 (S:List Str):(trK S).length = S.length:=by unfold trK; rw [List.length_map]
theorem yB1 (x:Str):∀ S:List Str,valV (trK S) (.inr x) = if x ∈ S then some (.bl true) else none
 | []=>rfl
 | z :: S=>by
  show valV ((Sum.inr z,V.bl true) :: trK S) (.inr x) = _
  by_cases e:z = x
  ·subst e
   rw [zH5 rfl,if_pos List.mem_cons_self]
  ·rw [zH6 (fun q=>e (Sum.inr.inj q)),yB1 x S]
   have:(x ∈ z :: S) ↔ x ∈ S:=by
    rw [List.mem_cons]
    exact ⟨fun q=>q.elim (fun q=>absurd q.symm e) id,.inr⟩
   by_cases q:x ∈ S
   ·rw [if_pos q,if_pos (this.mpr q)]
   ·rw [if_neg q,if_neg (fun u=>q (this.mp u))]
theorem yX4 (S:List Str) (x:Str):putK (trK S) (.inr x) (.bl true) = trK (putS S x):=by
 have h:=zP2 (.inr x) (trK S)
 rw [yB1] at h
 unfold putK putS
 rw [h]
 by_cases q:x ∈ S
 ·rw [if_pos q,if_pos q,if_pos (show (some (V.bl true)).isSome = true from rfl)]
  unfold trK
  rw [List.map_map]
  refine List.map_congr_left fun z _=>?_
  show (if (Sum.inr z:Key) = .inr x then ((Sum.inr z:Key),V.bl true) else (.inr z,.bl true)) = (.inr z,.bl true)
  split <;> rfl
 ·rw [if_neg q,if_neg q,if_neg (by simp)]
  unfold trK
  rw [List.map_append]; rfl
noncomputable def xL2 (K:PySem.W.Frag):Sp:=fun vs H Q _=>∃ (ah as:Addr) (xs:List V) (ps:List Plc) (ys:List V) (ss:List Stp),vs = [.ref ah,.ref as] /\ SqL K H ah xs /\ Paired (PlV H) xs ps /\ HouseOk ps /\ ckN ps ≠ [] /\ (ckN ps).length <= 5 /\ SqL K H as ys /\ Paired (StV H) ys ss /\ (∀ s ∈ ss,OkT (allN ps) s) /\ ss.length <= 15 /\
 (∀ p H' l zs,H p = none->Same H H'->H l = none->l ≠ p->H' p = some (.tup [.str "closed",.ref l])->H' l = some (.lst (zs.map V.str))->zs.Nodup->(∀ x,x ∈ zs ↔ x ∈ ckN ps /\ ¬ Leak (ckN ps) (back ss) x)->PyProof.Rows.sortedS zs = true->zs ≠ []->Q (.ref p) H') /\
 ((∀ x ∈ ckN ps,Leak (ckN ps) (back ss) x)->∀ p H' q d f r (k:Nat) kv X,H p = none->Same H H'->H' p = some (.tup [.str "lasting",.ref d,.ref q])->H d = none->H' d = some (.dK kv)->RowAt H' kv (all (ckN ps) X)->(∀ z ∈ ckN ps,X z = (sumL (ckN ps) fun y=>X y * back ss y z) + bT ss z) ->
  (∃ E W,0 < E /\ E <= W /\ W <= 2 ^ 3400 /\ ∀ z ∈ ckN ps,Cd E W (X z))->H' q = some (.tup [.int (k:Nat),f])->FrV H' f r->1 <= k->k <= (ckN ps).length->(∀ x ∈ ckN ps,stay (ckN ps) (back ss) k x <= r)->(∃ x ∈ ckN ps,stay (ckN ps) (back ss) k x = r)->r < 1->(∀ j,j < k->∃ x ∈ ckN ps,stay (ckN ps) (back ss) j x = 1)->Q (.ref p) H')
theorem yS2 {kv:List (Key × V)} (x:Str) (h:∀ q ∈ kv,∃ z,q.1 = .inr z):nms (yF0 kv (.inr x)) = yE9 (nms kv) x:=by
 unfold yF0 yE9 nms
 rw [List.filter_map]
 congr 1
 refine List.filter_congr fun q hq=>?_
 obtain ⟨z,e⟩:=h q hq
 show decide (q.1 ≠ .inr x) = decide (nmz q.1 ≠ x)
 rw [e,decide_eq_decide]
 show (Sum.inr z:Key) ≠ .inr x ↔ z ≠ x
 exact ⟨fun h e=>h (by rw [e]),fun h e=>h (Sum.inr.inj e)⟩
theorem xE2 {kv:List (Key × V)} {x:Str} (h:∀ q ∈ kv,∃ z,q.1 = .inr z):∀ q ∈ yF0 kv (.inr x),∃ z,q.1 = .inr z:=fun q hq=>h q (List.mem_filter.mp hq).1
theorem yP6 {kv:List (Key × V)} (h:∀ q ∈ kv,∃ z,q.1 = .inr z) (x:Str):(valV kv (.inr x)).isSome = decide (x ∈ nms kv):=by
 rw [<- zP2,Bool.eq_iff_iff,List.any_eq_true,decide_eq_true_eq]
 unfold nms
 rw [List.mem_map]
 constructor
 ·rintro ⟨q,hq,e⟩
  exact ⟨q,hq,by rw [of_decide_eq_true e]; rfl⟩
 ·rintro ⟨q,hq,e⟩
  obtain ⟨z,ez⟩:=h q hq
  refine ⟨q,hq,decide_eq_true ?_⟩
  rw [ez] at e ⊢
  rw [show z = x from e]
noncomputable def xT0:Sp:=fun vs H Q _=>∃ (ah pr:Addr) (H0:Hp) (rows:List (Key × V)) (ad:Str->Addr) (C L:List Str) (R:Str->Str->Rat) (D:Nat),vs = [.ref ah,.ref pr] /\ H pr = some (.dK rows) /\ TabAt H0 H pr rows C R ad /\ nms rows = C /\ C.Nodup /\ C.length <= 5 /\ L.Nodup /\ L.length <= 8 /\ (∀ x ∈ C,x ∈ L) /\ Good L D R /\ (∀ z ∈ L,Lay z) /\
 ∀ p H' ss,H p = none->Same H H'->H' p = some (.lst (ss.map V.str))->ss.Nodup->(∀ x,x ∈ ss ↔ x ∈ C /\ ¬ Leak C R x)->PyProof.Rows.sortedS ss = true->Q (.ref p) H'
theorem yP8 {f:Str->Rat} {n:Str}:∀ {l:List Str},l.Nodup->n ∈ l->(∀ z ∈ l,z ≠ n->f z = 0)->sumL l f = f n
 | z :: l,hn,hm,h=>by
  rw [List.nodup_cons] at hn
  rw [zB2]
  by_cases e:z = n
  ·subst e
   rw [zK6 l f fun y hy=>h y (List.mem_cons_of_mem _ hy) fun q=>hn.1 (q ▸ hy),Rat.add_zero]
  ·have hm':n ∈ l:=by
    rcases List.mem_cons.mp hm with q | q
    ·exact absurd q.symm e
    ·exact q
   rw [h z List.mem_cons_self e,Rat.zero_add,yP8 hn.2 hm' fun y hy=>h y (List.mem_cons_of_mem _ hy)]
theorem yL4 (R:Str->Str->Rat) (bs:List Stp):∀ as:List Stp,zL1 R (as ++ bs) = zL1 (zL1 R bs) as
 | []=>rfl
 | a :: as=>by
  show bwS a (zL1 R (as ++ bs)) = bwS a (zL1 (zL1 R bs) as)
  rw [yL4 R bs as]
theorem zY5 {L:List Str} (hn:L.Nodup) (R:Str->Str->Rat) (z:Str):∀ {ss:List Stp},(∀ s ∈ ss,OkS L s)->∀ n ∈ L,zL1 R ss n z = sumL L fun m=>R m z * back ss n m
 | [],_,n,hnL=>by
  show R n z = sumL L fun m=>R m z * dlt n m
  have e:=yP8 (f:=fun m=>R m z * dlt n m) hn hnL (fun y _ hy=>by
   show R y z * dlt n y = 0
   unfold dlt
   rw [if_neg hy,Rat.mul_zero])
  rw [e]
  show R n z = R n z * dlt n n
  unfold dlt
  rw [if_pos rfl,Rat.mul_one]
 | .br _ _ _ _ :: ss,h,n,hnL=>zY5 hn R z (ss:=ss) (fun s hs=>h s (List.mem_cons_of_mem _ hs)) n hnL
 | .ps x y t :: ss,h,n,hnL=>by
  have ih:=zY5 hn R z (ss:=ss) fun s hs=>h s (List.mem_cons_of_mem _ hs)
  obtain ⟨hx,hy,_,_,_,_⟩:=h _ List.mem_cons_self
  show bw x y t (zL1 R ss) n z = sumL L fun m=>R m z * bw x y t (zL1 dlt ss) n m
  unfold bw
  by_cases e:n = x
  ·rw [if_pos e,if_pos e]
   show zL1 R ss x z * (1 - t) + zL1 R ss y z * t = sumL L fun m=>R m z * (back ss x m * (1 - t) + back ss y m * t)
   rw [ih x hx,ih y hy,<- yB2]
   exact zC6 fun m _=>by
    show R m z * back ss x m * (1 - t) + R m z * back ss y m * t = R m z * (back ss x m * (1 - t) + back ss y m * t)
    grind
  ·rw [if_neg e,if_neg e]
   exact ih n hnL
theorem xK1 {L:List Str} (hn:L.Nodup) {as bs:List Stp} (h:∀ s ∈ as,OkS L s) {n:Str} (hnL:n ∈ L) (z:Str):back (as ++ bs) n z = sumL L fun m=>back bs m z * back as n m:=by
 show zL1 dlt (as ++ bs) n z = _
 rw [yL4]
 exact zY5 hn _ z h n hnL
theorem yP0 {x y n:Str} {t:Rat} {ss:List Stp} (h:n ≠ x):back (.ps x y t :: ss) n = back ss n:=by
 show bw x y t (back ss) n = _
 unfold bw
 rw [if_neg h]
theorem xF6 (x y:Str) (t:Rat) (ss:List Stp) (z:Str):back (.ps x y t :: ss) x z = back ss x z * (1 - t) + back ss y z * t:=by
 show bw x y t (back ss) x z = _
 unfold bw
 rw [if_pos rfl]
theorem zV3 {n:Str} {bs:List Stp}:∀ {as:List Stp},(∀ x y t,Stp.ps x y t ∈ as->x ≠ n)->back (as ++ bs) n = back bs n
 | [],_=>rfl
 | .br _ _ _ _ :: as,h=>zV3 (as:=as) fun x y t hs=>h x y t (List.mem_cons_of_mem _ hs)
 | .ps x y t :: as,h=>by
  show back (.ps x y t :: (as ++ bs)) n = _
  rw [yP0 (h x y t List.mem_cons_self).symm]
  exact zV3 (as:=as) fun x y t hs=>h x y t (List.mem_cons_of_mem _ hs)
theorem yL3 {n:Str} {as:List Stp} (h:∀ x y t,Stp.ps x y t ∈ as->x ≠ n):back as n = dlt n:=by
 have:=zV3 (bs:=[]) h
 rw [List.append_nil] at this
 exact this
theorem xW9 (n z:Str):0 <= dlt n z:=by unfold dlt; split <;> decide
theorem xF7 {C:List Str} (hn:C.Nodup) {i j:Nat} {x:Str} (hi:C[i]? = some x) (hj:C[j]? = some x):i = j:=xI3 hn (List.getElem?_eq_some_iff.mp hi).1 (hi.trans hj.symm)
theorem xR5 {C L:List Str} {ch:List Stp} (hC:C.Nodup) (hL:L.Nodup) (hCL:∀ x ∈ C,x ∈ L) (hO:∀ s ∈ ch,OkS L s) (h:ChP C ch):∀ (k:Nat) (x:Str),C[k]? = some x->Leak C (back ch) x:=by
 have G:=zE3 hL hO
 have stepat:∀ {j:Nat} {x y:Str} {t:Rat},ch[j]? = some (.ps x y t)->C[j]? = some x:=fun {j x y t} e=>by
  have hj:j < C.length:=by rw [<- h.1]; exact (List.getElem?_eq_some_iff.mp e).1
  obtain ⟨x',hx'⟩:∃ x',C[j]? = some x':=⟨_,List.getElem?_eq_getElem hj⟩
  obtain ⟨y',t',e',_⟩:=h.2 j x' hx'
  rw [e] at e'
  cases e'
  exact hx'
 have key:∀ (k:Nat) (x:Str),C[k]? = some x->∃ y,back ch x y ≠ 0 /\ ((k = 0 /\ y ∉ C) \/ ∃ k',k = k' + 1 /\ C[k']? = some y):=fun k x hx=>by
  obtain ⟨y,t,hk,t0,t1,alt⟩:=h.2 k x hx
  refine ⟨y,?_,alt⟩
  have hkl:=(List.getElem?_eq_some_iff.mp hk).1
  have e:ch = ch.take k ++ .ps x y t :: ch.drop (k + 1):=by
   have:=List.take_append_drop k ch
   rw [List.drop_eq_getElem_cons hkl,(List.getElem?_eq_some_iff.mp hk).2] at this
   exact this.symm
  have h1:∀ x' y' t',Stp.ps x' y' t' ∈ ch.take k->x' ≠ x:=fun x' y' t' hs ex=>by
   obtain ⟨j,hj,ej⟩:=List.getElem_of_mem hs
   rw [List.length_take] at hj
   rw [List.getElem_take] at ej
   have:=stepat (j:=j) (by rw [List.getElem?_eq_getElem (by omega),ej])
   rw [ex] at this
   have:=xF7 hC this hx
   omega
  have h2:∀ x' y' t',Stp.ps x' y' t' ∈ ch.drop (k + 1)->x' ≠ y:=fun x' y' t' hs ex=>by
   obtain ⟨j,hj,ej⟩:=List.getElem_of_mem hs
   rw [List.length_drop] at hj
   rw [List.getElem_drop] at ej
   have:=stepat (j:=k + 1 + j) (by rw [List.getElem?_eq_getElem (by omega),ej])
   rw [ex] at this
   rcases alt with ⟨_,hy⟩ | ⟨k',ek,hy⟩
   ·exact hy (List.mem_of_getElem? this)
   ·have:=xF7 hC this hy
    omega
  have h3:∀ x' y' t',Stp.ps x' y' t' ∈ ch.drop (k + 1)->x' ≠ x:=fun x' y' t' hs ex=>by
   obtain ⟨j,hj,ej⟩:=List.getElem_of_mem hs
   rw [List.length_drop] at hj
   rw [List.getElem_drop] at ej
   have:=stepat (j:=k + 1 + j) (by rw [List.getElem?_eq_getElem (by omega),ej])
   rw [ex] at this
   have:=xF7 hC this hx
   omega
  rw [e,zV3 h1,xF6,yL3 h3,yL3 h2]
  have e1:dlt y y = (1:Rat):=by unfold dlt; rw [if_pos rfl]
  rw [e1]
  have:=Rat.mul_nonneg (xW9 x y) (show 0 <= 1 - t by grind)
  grind
 intro k
 induction k with
 | zero =>
  intro x hx
  have hxC:=List.mem_of_getElem? hx
  obtain ⟨y,h1,alt⟩:=key 0 x hx
  rcases alt with ⟨_,hy⟩ | ⟨k',ek,_⟩
  ·exact .now hxC ((zX0 hC hL hCL (fun z=>(G.part x (hCL x hxC) z).1) (G.all x (hCL x hxC))).mpr ⟨y,G.sup x (hCL x hxC) y h1,hy,h1⟩)
  ·omega
 | succ k ih =>
  intro x hx
  have hxC:=List.mem_of_getElem? hx
  obtain ⟨y,h1,alt⟩:=key (k + 1) x hx
  rcases alt with ⟨e,_⟩ | ⟨k',ek,hy⟩
  ·omega
  ·have:k' = k:=by omega
   rw [this] at hy
   exact .via hxC (List.mem_of_getElem? hy) h1 (ih y hy)
theorem xW7 {C:List Str} (hC:C.Nodup):∀ {dr:List Stp},(∀ s ∈ dr,∃ x y t,s = .ps x y t /\ x ∈ C /\ y ∉ C /\ 0 <= t /\ t <= 1)->(∀ m,m ∉ C->sumL C (back dr m) = 0) /\ ∀ m ∈ C,0 <= sumL C (back dr m) /\ sumL C (back dr m) <= 1 /\ ((∃ y t,Stp.ps m y t ∈ dr /\ 0 < t)->sumL C (back dr m) < 1)
 | [],_=>by
  refine ⟨fun m hm=>zK6 C _ fun z hz=>?_,fun m hm=>?_⟩
  ·show dlt m z = 0
   unfold dlt
   rw [if_neg (fun (e:z = m)=>hm (by rw [<- e]; exact hz))]
  ·have e:sumL C (back [] m) = 1:=yP9 hC hm
   rw [e]
   refine ⟨by decide,Rat.le_refl,?_⟩
   rintro ⟨y,t,h,_⟩
   cases h
 | s :: dr,h=>by
  obtain ⟨ih1,ih2⟩:=xW7 hC (dr:=dr) fun s hs=>h s (List.mem_cons_of_mem _ hs)
  obtain ⟨x,y,t,rfl,hx,hy,t0,t1⟩:=h s List.mem_cons_self
  refine ⟨fun m hm=>?_,fun m hm=>?_⟩
  ·rw [yP0 (fun (e:m = x)=>hm (by rw [e]; exact hx))]; exact ih1 m hm
  ·by_cases e:m = x
   ·subst e
    have es:sumL C (back (.ps m y t :: dr) m) = sumL C (back dr m) * (1 - t):=by
     have:sumL C (back (.ps m y t :: dr) m) = sumL C fun z=>back dr m z * (1 - t) + back dr y z * t:=zC6 fun z _=>xF6 m y t dr z
     rw [this,yB2,ih1 y hy]; grind
    obtain ⟨a,b,c⟩:=ih2 m hm
    rw [es]
    have n1:=Rat.mul_nonneg a (show 0 <= 1 - t by grind)
    have n2:=Rat.mul_nonneg (show 0 <= 1 - sumL C (back dr m) by grind) (show 0 <= 1 - t by grind)
    refine ⟨n1,by grind,?_⟩
    rintro ⟨y',t',hs,tp⟩
    by_cases u:t = 0
    ·subst u
     have:=c ⟨y',t',(List.mem_cons.mp hs).elim (fun e=>by cases e; exact absurd tp (by decide)) id,tp⟩
     grind
    ·have:=yA2 t0 u
     grind
   ·rw [yP0 e]
    obtain ⟨a,b,c⟩:=ih2 m hm
    refine ⟨a,b,?_⟩
    rintro ⟨y',t',hs,tp⟩
    exact c ⟨y',t',(List.mem_cons.mp hs).elim (fun q=>by cases q; exact absurd rfl e) id,tp⟩
theorem xR1 {C L:List Str} {rest dr:List Stp} (hC:C.Nodup) (hL:L.Nodup) (hCL:∀ x ∈ C,x ∈ L) (hO:∀ s ∈ rest,OkS L s) (h:DrP C dr):∀ n ∈ C,Leak C (back (rest ++ dr)) n:=by
 intro n hn
 have G:=zE3 hL hO
 obtain ⟨w1,w2⟩:=xW7 hC h.1
 have wl:∀ m,sumL C (back dr m) < 1:=fun m=>by
  by_cases e:m ∈ C
  ·exact (w2 m e).2.2 (h.2 m e)
  ·rw [w1 m e]; decide
 refine .now hn fun e=>?_
 have e1:sumL C (back (rest ++ dr) n) = sumL L fun m=>sumL C (back dr m) * back rest n m:=by
  have a:sumL C (back (rest ++ dr) n) = sumL C fun z=>sumL L fun m=>back dr m z * back rest n m:=zC6 fun z _=>xK1 hL hO (hCL n hn) z
  rw [a,zV8]
  refine zC6 fun m _=>?_
  have:=zM6 C (back dr m) (back rest n m)
  have b:(sumL C fun z=>back dr m z * back rest n m) = sumL C fun z=>back rest n m * back dr m z:=zC6 fun z _=>by grind
  rw [b,this]; grind
 have e2:=G.all n (hCL n hn)
 have nn:∀ m ∈ L,0 <= back rest n m - sumL C (back dr m) * back rest n m:=fun m _=>by
  have:=Rat.mul_nonneg (show 0 <= 1 - sumL C (back dr m) by have:=wl m; grind) (G.part n (hCL n hn) m).1
  grind
 have e3:=zQ7 L (back rest n) fun m=>sumL C (back dr m) * back rest n m
 have z:=zO6 nn (by rw [e3,e2,<- e1,e]; grind)
 have:sumL L (back rest n) = 0:=zK6 L _ fun m hm=>by
  have a:=z m hm
  have a:back rest n m * (1 - sumL C (back dr m)) = 0:=by grind
  rcases Rat.mul_eq_zero.mp a with q | q
  ·exact q
  ·have:=wl m; grind
 rw [e2] at this
 exact absurd this (by decide)
theorem xF1 (xs:List V) {k:Nat} (h:k <= xs.length):cutV xs none (some (k:Int)) = xs.take k:=by
 have e1:HT.sIx xs.length xs.length (some (k:Int)) = min k xs.length:=HT.sIx_nat _ _ k
 have e2:HT.sIx xs.length 0 none = 0:=rfl
 unfold cutV
 rw [e1,e2,Nat.min_eq_left h,List.drop_zero,Nat.sub_zero]
noncomputable def yH2 (K:PySem.W.Frag):Sp:=fun vs H Q _=>∃ (a:Addr) (ns:List Int),vs = [.ref a] /\ SqL K H a (ns.map V.int) /\ ∀ p H' ah as xs ps ys ss,Same H H'->H' p = some (.lst [.ref ah,.ref as])->H' ah = some (.lst xs)->Paired (PlV H') xs ps->HouseOk ps->ckN ps ≠ []->(ckN ps).length <= 5->H' as = some (.lst ys)->Paired (StV H') ys ss->(∀ s ∈ ss,OkT (allN ps) s)->ss.length <= 15->(∀ x ∈ ckN ps,Leak (ckN ps) (back ss) x)->Q (.ref p) H'
theorem xF3 {D D' N N':Nat} {r:Rat} (h:Cd D N r) (e:D = D') (hn:N <= N'):Cd D' N' r:=by subst e; exact h.mono hn
theorem zY1 {D N:Nat} {f:Str->Rat}:∀ {l:List Str},(∀ z ∈ l,Cd D N (f z))->Cd D (l.length * N) (sumL l f)
 | [],_=>Cd.zero _ _
 | z :: l,h=>by
  rw [zB2,List.length_cons]
  have a:=h z List.mem_cons_self
  have b:=zY1 (l:=l) fun y hy=>h y (List.mem_cons_of_mem _ hy)
  refine (a.add b).mono ?_
  rw [Nat.succ_mul]; omega
theorem xC2 {L:List Str} {ss:List Stp} (hn:L.Nodup) (l8:L.length <= 8) (hO:∀ s ∈ ss,OkT L s) (h15:ss.length <= 15) {E W:Nat} (EW:E <= W) {f:Str->Rat} (hf:∀ n ∈ L,Cd E W (f n)) (b:Bool):∀ j,j <= ss.length->∀ z ∈ L,Cd (E * zC5 ss * 12) (2 ^ 18 * (W * zC5 ss)) (ledB b (ss.take j) f z):=by
 intro j hj z hz
 have hOs:∀ s ∈ ss,OkS L s:=fun s hs=>(hO s hs).1
 have hOj:∀ s ∈ ss.take j,OkT L s:=fun s hs=>hO s (List.mem_of_mem_take hs)
 have hOsj:∀ s ∈ ss.take j,OkS L s:=fun s hs=>(hOj s hs).1
 have G:=zE3 hn hOsj
 have eP:zC5 ss = zC5 (ss.take j) * zC5 (ss.drop j):=by
  have:=zW7 (ss.take j) (ss.drop j)
  rw [List.take_append_drop] at this
  rw [this,Nat.mul_comm]
 rw [zV0 hn hOs b f j hj z hz]
 have c1:Cd (E * zC5 ss) (L.length * (W * zC5 ss)) (sumL L fun n=>f n * back (ss.take j) n z):=zY1 fun n hn'=>by
  have a:=Cd.of ((G.part n hn' z).up (zC5 (ss.drop j)))
  rw [<- eP,Nat.one_mul] at a
  exact (hf n hn').mul a
 have c1':=xF3 (c1.up 12) (D':=E * zC5 ss * 12) (N':=96 * (W * zC5 ss)) rfl (by
  have:=Nat.mul_le_mul_right (W * zC5 ss) l8
  omega)
 have c2:Cd (E * zC5 ss * 12) (180000 * (W * zC5 ss)) (bTs (ss.take j) z):=by
  have a:Cd (12 * zC5 (ss.take j)) (15000 * (12 * zC5 (ss.take j))) (bTs (ss.take j) z):=xX8 hn hOj (by rw [List.length_take]; omega) z
  have a2:=(a.up (zC5 (ss.drop j))).up E
  refine xF3 a2 ?_ ?_
  ·rw [eP,Nat.mul_assoc 12,Nat.mul_comm (12 * _),Nat.mul_comm 12,<- Nat.mul_assoc]
  ·have h1:15000 * (12 * zC5 (ss.take j)) * zC5 (ss.drop j) * E = 180000 * (E * zC5 ss):=by
    rw [eP]
    grind
   rw [h1]
   exact Nat.mul_le_mul_left _ (Nat.mul_le_mul_right _ EW)
 have e18:(2:Nat) ^ 18 = 262144:=by decide
 cases b with
 | true =>
  show Cd _ _ (_ + bTs (ss.take j) z)
  refine (c1'.add c2).mono ?_
  rw [e18]; omega
 | false =>
  show Cd _ _ (_ + (0:Rat))
  rw [Rat.add_zero]
  refine c1'.mono ?_
  rw [e18]; omega
theorem xM5 {L:List Str} {ss:List Stp} (hn:L.Nodup) (l8:L.length <= 8) (hO:∀ s ∈ ss,OkT L s) (h15:ss.length <= 15) {E W w:Nat} (E0:0 < E) (EW:E <= W) (hw:W <= 2 ^ w) (w37:w <= 3700) {f:Str->Rat} (hf:∀ n ∈ L,Cd E W (f n)) (b:Bool):∀ j,j <= ss.length->∀ z ∈ L,Bd 3900 (ledB b (ss.take j) f z):=by
 intro j hj z hz
 have P0:=zG4 ss
 have P100:=zL8 hO h15
 have c:=xC2 hn l8 hO h15 EW hf b j hj z hz
 have e18:(2:Nat) ^ 18 = 262144:=by decide
 refine (c.bd (s:=18 + (w + 100)) (Nat.mul_pos (Nat.mul_pos E0 P0) (by decide)) ?_ ?_).mono (by omega)
 ·have:=Nat.mul_le_mul_right (zC5 ss) EW
  rw [e18]; omega
 ·rw [Nat.pow_add,Nat.pow_add]
  exact Nat.mul_le_mul_left _ (Nat.mul_le_mul hw P100)
theorem xM6 {C L:List Str} {ss:List Stp} (hL:L.Nodup) (hC:C.Nodup) (hCL:∀ x ∈ C,x ∈ L) (hO:∀ s ∈ ss,OkS L s) {f:Str->Rat} (hf0:∀ z,z ∉ C->f z = 0):∀ z ∈ C,ledB true ss f z = (sumL C fun n=>f n * back ss n z) + bT ss z:=by
 intro z hz
 have h:=zV0 hL hO true f ss.length (Nat.le_refl _) z (hCL z hz)
 rw [List.take_length] at h
 rw [h]
 have e:(sumL C fun n=>f n * back ss n z) = sumL L fun n=>f n * back ss n z:=zM2 _ hL hC hCL fun n _ hne=>by
  by_cases q:n ∈ C
  ·exact q
  ·rw [hf0 n q,Rat.zero_mul] at hne; exact absurd rfl hne
 rw [e]; rfl
theorem yF8 (C:List Str) (f:Str->Rat) (z:Str):(all C f z).getD 0 = if z ∈ C then f z else 0:=by
 unfold all; split <;> rfl
noncomputable def yY1 (K:PySem.W.Frag):Sp:=fun vs H Q _=>∃ (a:Addr) (xs:List V) (rs:List Rat),vs = [.ref a] /\ SqL K H a xs /\ Paired (FrV H) xs rs /\ (∀ r ∈ rs,Bd 3900 r) /\ (∀ k,k <= rs.length->Bd 3900 (sumQ (rs.take k))) /\ ∀ v H',Same H H'->FrV H' v (sumQ rs)->Q v H'
noncomputable def HsV (K:PySem.W.Frag) (H:Hp) (ah as:Addr) (xs:List V) (ps:List Plc) (ys:List V) (ss:List Stp):Prop:=H ah = some (.lst xs) /\ Paired (PlV H) xs ps /\ HouseOk ps /\ (ckN ps).length <= 5 /\ H as = some (.lst ys) /\ Paired (StV H) ys ss /\ (∀ s ∈ ss,OkT (allN ps) s) /\ ss.length <= 15
noncomputable def xL3 (K:PySem.W.Frag):Sp:=fun vs H Q _=>∃ (ah as:Addr) (xs:List V) (ps:List Plc) (ys:List V) (ss:List Stp) (x:Str) (m:Nat),vs = [.ref ah,.ref as,.str x,.int (m:Nat)] /\ HsV K H ah as xs ps ys ss /\ x ∈ ckN ps /\ m <= 5 /\ ∀ v H',Same H H'->FrV H' v (stay (ckN ps) (back ss) m x)->Q v H'
noncomputable def yE4 (C:List Str) (f:Str->Rat):Rat:=C.foldl (fun m x=>if m < f x then f x else m) 0
noncomputable def yY5 (K:PySem.W.Frag):Sp:=fun vs H Q _=>∃ (ah as an:Addr) (xs:List V) (ps:List Plc) (ys:List V) (ss:List Stp) (m:Nat),vs = [.ref ah,.ref as,.ref an,.int (m:Nat)] /\ HsV K H ah as xs ps ys ss /\ H an = some (.lst ((ckN ps).map V.str)) /\ m <= 5 /\ ∀ v H',Same H H'->FrV H' v (yE4 (ckN ps) (stay (ckN ps) (back ss) m))->Q v H'
noncomputable def yQ7 (K:PySem.W.Frag):Sp:=fun vs H Q _=>∃ (a b:Addr) (ka kb:List (Key × V)) (C:List Str) (f g:Str->Rat) (E W:Nat),vs = [.ref a,.ref b] /\ H a = some (.dK ka) /\ H b = some (.dK kb) /\ C.Nodup /\ C.length <= 5 /\ RowAt H ka (all C f) /\ RowAt H kb (all C g) /\ 0 < E /\ E <= W /\ W <= 2 ^ 1500 /\ (∀ z ∈ C,Cd E W (f z) /\ Cd E W (g z)) /\ ∀ v H',Same H H'->FrV H' v (farL C fun z=>f z - g z)->Q v H'
noncomputable def rndQ (C L:List Str) (ss:List Stp) (f:Str->Rat):Nat->Str->Rat
 | 0=>f
 | n + 1=>fun z=>ledB true ss (fun y=>if y ∈ C then rndQ C L ss f n y else 0) z
noncomputable def yH0 (K:PySem.W.Frag):Sp:=fun vs H Q _=>∃ (ah as at':Addr) (xs:List V) (ps:List Plc) (ys:List V) (ss:List Stp) (kt:List (Key × V)) (f:Str->Rat) (n:Nat),vs = [.ref ah,.ref as,.ref at',.int (n:Nat)] /\ HsV K H ah as xs ps ys ss /\ H at' = some (.dK kt) /\ RowAt H kt (all (ckN ps) f) /\ n <= 6 /\ (∀ z ∈ ckN ps,Cd 1 (2 ^ 30) (f z)) /\
 ∀ p H' kv,Same H H'->H' p = some (.dK kv)->RowAt H' kv (all (ckN ps) (rndQ (ckN ps) (allN ps) ss f n))->Q (.ref p) H'
theorem RowAt.valsA {H:Hp} {kvs:List (Key × V)} {C:List Str} {f:Str->Rat} (h:RowAt H kvs (all C f)):Paired (FrV H) (kvs.map (·.2)) ((nms kvs).map f):=by
 refine zW9 (by rw [List.length_map,List.length_map,zD2]) fun i x y hx hy=>?_
 rw [List.getElem?_map] at hx hy
 cases q:kvs[i]? with
 | none=>rw [q] at hx; cases hx
 | some p =>
  rw [q] at hx
  cases hx
  obtain ⟨z,r,hz,hg,fr,_,_⟩:=h.at q
  have:(nms kvs)[i]? = some z:=by
   unfold nms
   rw [List.getElem?_map,q]
   show some (nmz p.1) = _
   rw [hz]; rfl
  rw [this] at hy
  cases hy
  have e:f z = r:=by
   unfold all at hg
   split at hg
   ·exact Option.some.inj hg
   ·cases hg
  rw [e]; exact fr
theorem xI5 {C L:List Str} {ss:List Stp} (hL:L.Nodup) (hC:C.Nodup) (hCL:∀ x ∈ C,x ∈ L) (hO:∀ s ∈ ss,OkS L s) (m:Str->Rat) (i:Nat):∀ z ∈ C,ledB false ss (fun y=>if y ∈ C then mass C (back ss) m i y else 0) z = mass C (back ss) m (i + 1) z:=by
 intro z hz
 have h:=zV0 hL hO false (fun y=>if y ∈ C then mass C (back ss) m i y else 0) ss.length (Nat.le_refl _) z (hCL z hz)
 rw [List.take_length] at h
 rw [h]
 show _ + (0:Rat) = sumL C fun y=>mass C (back ss) m i y * back ss y z
 rw [Rat.add_zero]
 have e:(sumL C fun n=>(if n ∈ C then mass C (back ss) m i n else 0) * back ss n z) = sumL L fun n=>(if n ∈ C then mass C (back ss) m i n else 0) * back ss n z:=zM2 _ hL hC hCL fun n _ hne=>by
  by_cases q:n ∈ C
  ·exact q
  ·rw [if_neg q,Rat.zero_mul] at hne; exact absurd rfl hne
 rw [<- e]
 exact zC6 fun n hn=>by rw [if_pos hn]
theorem xN7 (r:Rat):(if r.num < 0 then -r.num else r.num) = (absR r).num /\ (r.den:Int) = ((absR r).den:Int):=by
 unfold absR
 by_cases h:0 <= r
 ·have:=Rat.num_nonneg.mpr h
  rw [if_pos h,if_neg (by omega)]
  exact ⟨rfl,rfl⟩
 ·have:¬ 0 <= r.num:=fun q=>h (Rat.num_nonneg.mp q)
  rw [if_neg h,if_pos (by omega),Rat.neg_num,Rat.neg_den]
  exact ⟨rfl,rfl⟩
theorem yP4 {D N:Nat} {r:Rat} (h:Cd D N r):Cd D N (absR r):=by
 unfold absR
 split
 ·exact h
 ·exact h.neg
noncomputable def rE (ss:List Stp):Nat->Nat
 | 0=>1
 | n + 1=>rE ss n * zC5 ss * 12
noncomputable def rW (ss:List Stp):Nat->Nat
 | 0=>2 ^ 30
 | n + 1=>2 ^ 18 * (rW ss n * zC5 ss)
theorem yR4 (ss:List Stp):∀ n,0 < rE ss n
 | 0=>Nat.one_pos
 | n + 1=>Nat.mul_pos (Nat.mul_pos (yR4 ss n) (zG4 ss)) (by decide)
theorem yZ9 (ss:List Stp):∀ n,rE ss n <= rW ss n
 | 0=>by show 1 <= 2 ^ 30; decide
 | n + 1=>by
  have:=Nat.mul_le_mul_right (zC5 ss) (yZ9 ss n)
  have e18:(2:Nat) ^ 18 = 262144:=by decide
  show _ * 12 <= 2 ^ 18 * _
  rw [e18]; omega
theorem xO8 {ss:List Stp} (h:zC5 ss <= 2 ^ 100):∀ n,rW ss n <= 2 ^ (30 + 118 * n)
 | 0=>Nat.le_refl _
 | n + 1=>by
  have e:30 + 118 * (n + 1) = 18 + (30 + 118 * n + 100):=by omega
  rw [e,Nat.pow_add,Nat.pow_add 2 (30 + 118 * n)]
  exact Nat.mul_le_mul_left _ (Nat.mul_le_mul (xO8 h n) h)
noncomputable def rC (C L:List Str) (ss:List Stp) (f:Str->Rat) (n:Nat):Str->Rat:=fun y=>if y ∈ C then rndQ C L ss f n y else 0
theorem xP0 {C L:List Str} {ss:List Stp} (hn:L.Nodup) (l8:L.length <= 8) (hO:∀ s ∈ ss,OkT L s) (h15:ss.length <= 15) (hCL:∀ x ∈ C,x ∈ L) {f:Str->Rat} (hf:∀ z ∈ C,Cd 1 (2 ^ 30) (f z)):∀ n,∀ z,Cd (rE ss n) (rW ss n) (rC C L ss f n z)
 | 0,z=>by
  unfold rC
  split
  ·exact hf z (by assumption)
  ·exact Cd.zero _ _
 | n + 1,z=>by
  unfold rC
  split
  ·have:=xC2 hn l8 hO h15 (yZ9 ss n) (f:=rC C L ss f n) (fun y _=>xP0 hn l8 hO h15 hCL hf n y) true ss.length (Nat.le_refl _) z (hCL z (by assumption))
   rw [List.take_length] at this
   exact this
  ·exact Cd.zero _ _
theorem xT2 {C L:List Str} {ss:List Stp} (hn:L.Nodup) (l8:L.length <= 8) (hO:∀ s ∈ ss,OkT L s) (h15:ss.length <= 15) (hCL:∀ x ∈ C,x ∈ L) {f:Str->Rat} (hf:∀ z ∈ C,Cd 1 (2 ^ 30) (f z)) (n:Nat):∀ z ∈ C,Cd (rE ss n) (rW ss n) (rndQ C L ss f n z):=by
 intro z hz
 have:=xP0 hn l8 hO h15 hCL hf n z
 unfold rC at this
 rw [if_pos hz] at this; exact this
theorem yR0 {C L:List Str} {ss:List Stp} (hL:L.Nodup) (hC:C.Nodup) (hCL:∀ x ∈ C,x ∈ L) (hO:∀ s ∈ ss,OkS L s) (f g:Str->Rat):∀ n,∀ z ∈ C,rndQ C L ss f n z - rndQ C L ss g n z = mass C (back ss) (fun y=>f y - g y) n z
 | 0,_,_=>rfl
 | n + 1,z,hz=>by
  have a:=xM6 hL hC hCL hO (f:=rC C L ss f n) (fun y hy=>by unfold rC; rw [if_neg hy]) z hz
  have b:=xM6 hL hC hCL hO (f:=rC C L ss g n) (fun y hy=>by unfold rC; rw [if_neg hy]) z hz
  show ledB true ss (rC C L ss f n) z - ledB true ss (rC C L ss g n) z = sumL C fun y=>mass C (back ss) (fun y=>f y - g y) n y * back ss y z
  rw [a,b]
  have e:(sumL C fun y=>mass C (back ss) (fun y=>f y - g y) n y * back ss y z) = sumL C fun y=>rC C L ss f n y * back ss y z + rC C L ss g n y * back ss y z * (-1):=zC6 fun y hy=>by
   rw [<- yR0 hL hC hCL hO f g n y hy]
   unfold rC
   rw [if_pos hy,if_pos hy]; grind
  rw [e,yQ0]
  have e2:(sumL C fun y=>rC C L ss g n y * back ss y z * (-1)) = -1 * sumL C fun y=>rC C L ss g n y * back ss y z:=by
   rw [<- zM6]
   exact zC6 fun y _=>by grind
  rw [e2]; grind
theorem xC0 {f:Str->Rat} {r:Rat}:∀ (l:List Str) (m:Rat),m <= r->(∀ x ∈ l,f x <= r)->(m = r \/ ∃ x ∈ l,f x = r)->l.foldl (fun m x=>if m < f x then f x else m) m = r
 | [],m,_,_,h=>by
  rcases h with h | ⟨x,hx,_⟩
  ·exact h
  ·cases hx
 | y :: l,m,hm,hl,h=>by
  rw [List.foldl_cons]
  have hy:=hl y List.mem_cons_self
  refine xC0 l _ (by split <;> assumption) (fun x hx=>hl x (List.mem_cons_of_mem _ hx)) ?_
  rcases h with h | ⟨x,hx,e⟩
  ·left
   rw [if_neg (by rw [h]; exact Rat.not_lt.mpr hy)]; exact h
  ·rcases List.mem_cons.mp hx with e1 | e1
   ·left
    subst e1
    split
    ·exact e
    ·rename_i q
     have:=Rat.not_lt.mp q
     rw [e] at this
     exact Rat.le_antisymm hm this
   ·exact .inr ⟨x,e1,e⟩
theorem yS3 {C:List Str} {f:Str->Rat} {r:Rat} (r0:0 <= r) (h:∀ x ∈ C,f x <= r) (he:∃ x ∈ C,f x = r):yE4 C f = r:=xC0 C 0 r0 h (.inr he)
theorem Bd.powN {s:Rat} {b:Nat} (h:Bd b s) (b1:1 <= b):∀ m,Bd (b * m + 1) (s ^ m)
 | 0=>by rw [Rat.pow_zero]; exact ⟨by show 1 < 2 ^ _; exact Nat.one_lt_two_pow (by omega),by show 1 < 2 ^ _; exact Nat.one_lt_two_pow (by omega)⟩
 | m + 1=>by
  rw [Rat.pow_succ]
  exact ((Bd.powN h b1 m).mul h).mono (by rw [Nat.mul_succ]; omega)
theorem xX3 (c:Int):Cd 1 (2 ^ 30) (((c.fmod 1000000000:Int)):Rat):=by
 have q:=zE5 (c:=c) (m:=1000000000) (by decide)
 refine ⟨c.fmod 1000000000,by rw [show ((1:Nat):Rat) = 1 from rfl,Rat.mul_one],?_⟩
 have:(2:Nat) ^ 30 = 1073741824:=by decide
 omega
theorem yU3 {C:List Str} {f:Str->Rat} {z:Str} {v:Rat} {j:Nat} (hz:C[j]? = some z):(fun y=>if y = z then some v else all (C.take j) f y) = all (C.take (j + 1)) fun y=>if y = z then v else f y:=by
 funext y
 unfold all
 rw [zC2 hz]
 by_cases e:y = z
 ·rw [if_pos e,if_pos (by rw [e]; exact List.mem_append_right _ List.mem_cons_self)]
  show some v = some (if y = z then v else f y)
  rw [if_pos e]
 ·rw [if_neg e]
  show _ = if y ∈ C.take j ++ [z] then some (if y = z then v else f y) else none
  rw [if_neg e]
  by_cases q:y ∈ C.take j
  ·rw [if_pos q,if_pos (List.mem_append_left _ q)]
  ·rw [if_neg q,if_neg fun u=>?_]
   rcases List.mem_append.mp u with u | u
   ·exact q u
   ·exact e (List.mem_singleton.mp u)
end T48
namespace T48
open PySem L2 Tc
section
variable {P:Program} {w:World} {K:PySem.W.Frag} {mg:Str->Option Value} {base:Heap}
noncomputable abbrev zE6:Stmt:=top 4
theorem sc_common_divisor:zB5 ["top","bottom","rest"] ["top","bottom"] (zA5 zE6):=⟨rfl,rfl,rfl,by decide +kernel,rfl,by decide +kernel,by decide +kernel⟩
theorem zT1 {ca:Ca} (D:DefAt K mg "common_divisor" zE6) (T:Txt K mg ca):FnAt P w K mg base CX0 1 "common_divisor" ["top","bottom"] (spCd):=by
 refine D.ok sc_common_divisor (fun vs H Q E h=>?_) (fun _ _ _ _ _ _ us hl=>match us,hl with | [_,_],_=>rfl) (fun f cdv A outer s H vs Q E hr h=>?_)
 ·obtain ⟨t,b,rfl,hb,k⟩:=h; rfl
 ·obtain ⟨t,b,rfl,hb,k⟩:=h
  have nd:=sc_common_divisor.nd
  refine ⟨_,(@zA4 _ _ _ _ _ (zU9 PassesOwn.never (zC1 yV7 (pv 1) zA2 (zD3 _)) (@zA4 _ _ _ _ _ (@zB1 _ _ 2 _ _ _ _ nd rfl (Or.inl rfl) (@zB6 _ _ _ _ _ _ _ _ zE0 (pv 0) (pv 1)) (by rfl) (Or.inl rfl))
   (@zA4 _ _ _ _ _ (@zB1 _ _ 0 _ _ _ _ nd rfl (Or.inl rfl) (pv 1) (by rfl) (Or.inl rfl))
   (@zA6 _ _ _ (@zB1 _ _ 1 _ _ _ _ nd rfl (Or.inl rfl) (pv 2) (by rfl) (Or.inl rfl))))))
   (@zA6 _ _ _ (zC0 (pv 0)))),?_⟩
  refine zU5 (fun σ H1=>∃ (x y:Int) (v:Option V),σ = [some (.int x),some (.int y),v] /\ H1 = H /\ Dv t b x y)
   (fun σ _=>match σ with | [_,some (.int y),_]=>y.natAbs | _=>0) ⟨t,b,none,rfl,rfl,Dv.start hb⟩ ?_ ?_
  ·rintro σ H1 ⟨x,y,v,rfl,rfl,d⟩
   refine ⟨_,rfl,rfl,_,rfl,?_⟩
   refine ite2 (fun h1=>?_) (fun h1=>?_)
   ·have hy:y ≠ 0:=by
     intro e; subst e; simp at h1
    refine ⟨_,rfl,_,rfl,_,_,rfl,rfl,hy,?_⟩
    refine ⟨_,rfl,_,rfl,?_⟩
    exact ⟨⟨_,_,_,rfl,rfl,d.turn hy⟩,Dv.less hy⟩
   ·have hy:y = 0:=by
     by_cases e:y = 0
     ·exact e
     ·exact absurd (by simp [e]) h1
    refine ⟨_,rfl,?_⟩
    rw [d.done hy hb]; exact k
  ·intro σ H1 Q1 Q2 hq h1
   obtain ⟨v,e,h2,c,e2,h3⟩:=h1
   exact ⟨v,e,h2,c,e2,hq _ _ h3⟩
noncomputable abbrev zZ7:Stmt:=top 5
theorem sc_plus:zB5 ["one","other","shared","rest","top","divisor"] ["one","other"] (zA5 zZ7):=⟨rfl,rfl,rfl,by decide +kernel,rfl,by decide +kernel,by decide +kernel⟩
theorem xP9 {ca:Ca} (D:DefAt K mg "plus" zZ7) (T:Txt K mg ca) (G_common_divisor:FnAt P w K mg base CX0 1 "common_divisor" ["top","bottom"] (spCd)):FnAt P w K mg base CX0 2 "plus" ["one","other"] (yH1):=by
 refine D.ok sc_plus (fun vs H Q E h=>?_) (fun _ _ _ _ _ _ us hl=>match us,hl with | [_,_],_=>rfl) (fun f cdv A outer s H vs Q E hr h=>?_)
 ·obtain ⟨_,_,r,q,rfl,⟨a,rfl,ha⟩,⟨b,rfl,hb⟩,br,bq,k⟩:=h; rfl
 ·obtain ⟨_,_,r,q,rfl,⟨a,rfl,ha⟩,⟨b,rfl,hb⟩,br,bq,k⟩:=h
  have nd:=sc_plus.nd
  refine ⟨_,(@zA4 _ _ _ _ _ (@zB1 _ _ 2 _ _ _ _ nd rfl (Or.inl rfl) (zB7 G_common_divisor hr (by rfl) zB8 (@zA0 _ _ _ _ _ (zB4 (zA7 (K:=K) rfl) (pv 0) zA2 (fun _ _=>rfl)) (@zA0 _ _ _ _ _ (zB4 (zA7 (K:=K) rfl) (pv 1) zA2 (fun _ _=>rfl)) zA3 (by rfl)) (by rfl))) (by rfl) (Or.inl rfl))
   (@zA4 _ _ _ _ _ (@zB1 _ _ 3 _ _ _ _ nd rfl (Or.inl rfl) (@zB6 _ _ _ _ _ _ _ _ zD1 (zB4 (zA7 (K:=K) rfl) (pv 0) zA2 (fun _ _=>rfl)) (pv 2)) (by rfl) (Or.inl rfl))
   (@zA4 _ _ _ _ _ (@zB1 _ _ 4 _ _ _ _ nd rfl (Or.inl rfl) (@zB6 _ _ _ _ _ _ _ _ zJ1 (@zB6 _ _ _ _ _ _ _ _ zG5 (zB4 (zA7 (K:=K) rfl) (pv 0) zA2 (fun _ _=>rfl)) (@zB6 _ _ _ _ _ _ _ _ zD1 (zB4 (zA7 (K:=K) rfl) (pv 1) zA2 (fun _ _=>rfl)) (pv 2))) (@zB6 _ _ _ _ _ _ _ _ zG5 (zB4 (zA7 (K:=K) rfl) (pv 1) zA2 (fun _ _=>rfl)) (pv 3))) (by rfl) (Or.inl rfl))
   (@zA4 _ _ _ _ _ (@zB1 _ _ 5 _ _ _ _ nd rfl (Or.inl rfl) (zB7 G_common_divisor hr (by rfl) zB8 (@zA0 _ _ _ _ _ (pv 4) (@zA0 _ _ _ _ _ (pv 2) zA3 (by rfl)) (by rfl))) (by rfl) (Or.inl rfl))
   (@zA6 _ _ _ (zC0 (@zC3 _ _ _ _ _ (@zA0 _ _ _ _ _ (@zB6 _ _ _ _ _ _ _ _ zD1 (pv 4) (pv 5)) (@zA0 _ _ _ _ _ (@zB6 _ _ _ _ _ _ _ _ zG5 (pv 3) (@zB6 _ _ _ _ _ _ _ _ zD1 (zB4 (zA7 (K:=K) rfl) (pv 1) zA2 (fun _ _=>rfl)) (pv 5))) zA3 (by rfl)) (by rfl))))))))),?_⟩
  have d1:=zD7 r
  have d2:=zD7 q
  have i0:∀ (i:Nat),i <= 8000->(2:Nat) ^ i <= 2 ^ 9000:=fun i hi=>zM4 (by omega)
  refine ⟨_,rfl,a,_,_,_,rfl,rfl,SqT.of ha,rfl,_,rfl,b,_,_,_,rfl,rfl,SqT.of hb,rfl,_,_,rfl,(by omega),?_⟩
  have s0:dv r.den q.den ≠ 0:=yJ9 (by omega)
  have sle:(dv (r.den:Int) q.den).natAbs <= ((q.den:Int)).natAbs:=xE0 (by omega)
  have sdiv:∀ i,zY8 i (dv (r.den:Int) q.den):=fun i=>bq.divR (by decide) s0 sle
  generalize hs:dv (r.den:Int) q.den = s1 at *
  refine ⟨_,rfl,a,_,_,_,rfl,rfl,SqT.of ha,rfl,_,rfl,_,_,rfl,rfl,sdiv _,?_⟩
  have le1:∀ {x:Int} {m:Nat},x.natAbs < 2 ^ m->(x.fdiv s1).natAbs < 2 ^ (m + 1):=fun {x m} hx=>by
   have:=natAbs_fdiv_le x s1
   rw [Nat.pow_succ]; omega
  have hrest:((r.den:Int).fdiv s1).natAbs < 2 ^ 8001:=le1 br.den
  have hq1:((q.den:Int).fdiv s1).natAbs < 2 ^ 8001:=le1 bq.den
  refine ⟨_,rfl,a,_,_,_,rfl,rfl,SqT.of ha,rfl,_,rfl,b,_,_,_,rfl,rfl,SqT.of hb,rfl,_,rfl,_,_,rfl,rfl,sdiv _,_,_,rfl,rfl,zE9 8001 (Nat.lt_of_lt_of_le br.num (zM4 (by decide))) hq1 (by decide),_,rfl,b,_,_,_,rfl,rfl,SqT.of hb,rfl,_,rfl,_,_,rfl,rfl,zE9 8001 (Nat.lt_of_lt_of_le bq.num (zM4 (by decide))) hrest (by decide),_,_,rfl,rfl,?_⟩
  refine ⟨_,rfl,_,rfl,_,_,rfl,s0,?_⟩
  have d0:dv (r.num * (q.den:Int).fdiv s1 + q.num * (r.den:Int).fdiv s1) s1 ≠ 0:=yJ9 s0
  have dle:(dv (r.num * (q.den:Int).fdiv s1 + q.num * (r.den:Int).fdiv s1) s1).natAbs <= ((q.den:Int)).natAbs:=Nat.le_trans (xE0 s0) sle
  have ddiv:∀ i,zY8 i (dv (r.num * (q.den:Int).fdiv s1 + q.num * (r.den:Int).fdiv s1) s1):=fun i=>bq.divR (by decide) d0 dle
  obtain ⟨e1,e2⟩:=xP3 r q hs.symm rfl rfl rfl
  have hq2:((q.den:Int).fdiv (dv (r.num * (q.den:Int).fdiv s1 + q.num * (r.den:Int).fdiv s1) s1)).natAbs < 2 ^ 8001:=by
   have:=natAbs_fdiv_le (q.den:Int) (dv (r.num * (q.den:Int).fdiv s1 + q.num * (r.den:Int).fdiv s1) s1)
   have z:((q.den:Int)).natAbs < 2 ^ 8000:=bq.den
   rw [Nat.pow_succ]; omega
  refine ⟨_,rfl,_,rfl,_,_,rfl,rfl,ddiv _,_,rfl,_,rfl,b,_,_,_,rfl,rfl,SqT.of hb,rfl,_,rfl,_,_,rfl,rfl,ddiv _,_,_,rfl,rfl,zE9 8001 hrest hq2 (by decide),sz (by simp),fun p hp=>?_⟩
  exact k _ _ (Same.upd hp) (FrV.newOf e1 e2)
noncomputable abbrev zS6:Stmt:=top 6
theorem sc_minus:zB5 ["one","other"] ["one","other"] (zA5 zS6):=⟨rfl,rfl,rfl,by decide +kernel,rfl,by decide +kernel,by decide +kernel⟩
theorem xI0 {ca:Ca} (D:DefAt K mg "minus" zS6) (T:Txt K mg ca) (G_plus:FnAt P w K mg base CX0 2 "plus" ["one","other"] (yH1)):FnAt P w K mg base CX0 3 "minus" ["one","other"] (yB7):=by
 refine D.ok sc_minus (fun vs H Q E h=>?_) (fun _ _ _ _ _ _ us hl=>match us,hl with | [_,_],_=>rfl) (fun f cdv A outer s H vs Q E hr h=>?_)
 ·obtain ⟨_,_,r,q,rfl,hx,⟨b,rfl,hb⟩,br,bq,k⟩:=h; rfl
 ·obtain ⟨_,_,r,q,rfl,hx,⟨b,rfl,hb⟩,br,bq,k⟩:=h
  have nd:=sc_minus.nd
  refine ⟨_,(@zA6 _ _ _ (zC0 (zB7 G_plus hr (by rfl) zB8 (@zA0 _ _ _ _ _ (pv 0) (@zA0 _ _ _ _ _ (@zC3 _ _ _ _ _ (@zA0 _ _ _ _ _ (@zB6 _ _ _ _ _ _ _ _ yI6 zA2 (zB4 (zA7 (K:=K) rfl) (pv 1) zA2 (fun _ _=>rfl))) (@zA0 _ _ _ _ _ (zB4 (zA7 (K:=K) rfl) (pv 1) zA2 (fun _ _=>rfl)) zA3 (by rfl)) (by rfl))) zA3 (by rfl)) (by rfl))))),?_⟩
  refine ⟨_,rfl,_,rfl,b,_,_,_,rfl,rfl,SqT.of hb,rfl,_,_,rfl,rfl,_,rfl,b,_,_,_,rfl,rfl,SqT.of hb,rfl,sz (by simp),fun p hp=>?_⟩
  refine ⟨_,_,r,-q,rfl,hx.upd hp,FrV.newOf (yA3 q).1 (yA3 q).2,br,bq.neg,fun v H' s' h=>?_⟩
  have h:FrV H' v (r + -q):=h
  rw [xK8] at h
  exact k v H' ((Same.upd hp).trans s') h
noncomputable abbrev zS4:Stmt:=top 7
theorem sc_times:zB5 ["one","other","left","right"] ["one","other"] (zA5 zS4):=⟨rfl,rfl,rfl,by decide +kernel,rfl,by decide +kernel,by decide +kernel⟩
theorem xH8 {ca:Ca} (D:DefAt K mg "times" zS4) (T:Txt K mg ca) (G_common_divisor:FnAt P w K mg base CX0 1 "common_divisor" ["top","bottom"] (spCd)):FnAt P w K mg base CX0 2 "times" ["one","other"] (spTimes):=by
 refine D.ok sc_times (fun vs H Q E h=>?_) (fun _ _ _ _ _ _ us hl=>match us,hl with | [_,_],_=>rfl) (fun f cdv A outer s H vs Q E hr h=>?_)
 ·obtain ⟨_,_,a,b,t1,b1,t2,b2,rfl,rfl,ha,rfl,hb,p1,n2,c1,c2,⟨z1,z2,z3,z4⟩,k⟩:=h; rfl
 ·obtain ⟨_,_,a,b,t1,b1,t2,b2,rfl,rfl,ha,rfl,hb,p1,n2,c1,c2,⟨z1,z2,z3,z4⟩,k⟩:=h
  have nd:=sc_times.nd
  refine ⟨_,(@zA4 _ _ _ _ _ (@zB1 _ _ 2 _ _ _ _ nd rfl (Or.inl rfl) (zB7 G_common_divisor hr (by rfl) zB8 (@zA0 _ _ _ _ _ (zB4 (zA7 (K:=K) rfl) (pv 0) zA2 (fun _ _=>rfl)) (@zA0 _ _ _ _ _ (zB4 (zA7 (K:=K) rfl) (pv 1) zA2 (fun _ _=>rfl)) zA3 (by rfl)) (by rfl))) (by rfl) (Or.inl rfl))
   (@zA4 _ _ _ _ _ (@zB1 _ _ 3 _ _ _ _ nd rfl (Or.inl rfl) (zB7 G_common_divisor hr (by rfl) zB8 (@zA0 _ _ _ _ _ (zB4 (zA7 (K:=K) rfl) (pv 1) zA2 (fun _ _=>rfl)) (@zA0 _ _ _ _ _ (zB4 (zA7 (K:=K) rfl) (pv 0) zA2 (fun _ _=>rfl)) zA3 (by rfl)) (by rfl))) (by rfl) (Or.inl rfl))
   (@zA6 _ _ _ (zC0 (@zC3 _ _ _ _ _ (@zA0 _ _ _ _ _ (@zB6 _ _ _ _ _ _ _ _ zG5 (@zB6 _ _ _ _ _ _ _ _ zD1 (zB4 (zA7 (K:=K) rfl) (pv 0) zA2 (fun _ _=>rfl)) (pv 2)) (@zB6 _ _ _ _ _ _ _ _ zD1 (zB4 (zA7 (K:=K) rfl) (pv 1) zA2 (fun _ _=>rfl)) (pv 3))) (@zA0 _ _ _ _ _ (@zB6 _ _ _ _ _ _ _ _ zG5 (@zB6 _ _ _ _ _ _ _ _ zD1 (zB4 (zA7 (K:=K) rfl) (pv 0) zA2 (fun _ _=>rfl)) (pv 3)) (@zB6 _ _ _ _ _ _ _ _ zD1 (zB4 (zA7 (K:=K) rfl) (pv 1) zA2 (fun _ _=>rfl)) (pv 2))) zA3 (by rfl)) (by rfl))))))),?_⟩
  refine ⟨_,rfl,a,_,_,_,rfl,rfl,SqT.of ha,rfl,_,rfl,b,_,_,_,rfl,rfl,SqT.of hb,rfl,_,_,rfl,n2,?_⟩
  have l0:dv t1 b2 ≠ 0:=yJ9 n2
  have lle:(dv t1 b2).natAbs <= b2.natAbs:=xE0 n2
  have r0:dv t2 b1 ≠ 0:=yJ9 (by omega)
  have rle:(dv t2 b1).natAbs <= b1.natAbs:=xE0 (by omega)
  have ldiv:∀ i,zY8 i (dv t1 b2):=fun i=>zT5 l0 (Nat.lt_of_le_of_lt lle (Nat.lt_of_lt_of_le z4 (zM4 (by decide))))
  have rdiv:∀ i,zY8 i (dv t2 b1):=fun i=>zT5 r0 (Nat.lt_of_le_of_lt rle (Nat.lt_of_lt_of_le z2 (zM4 (by decide))))
  refine ⟨_,rfl,b,_,_,_,rfl,rfl,SqT.of hb,rfl,_,rfl,a,_,_,_,rfl,rfl,SqT.of ha,rfl,_,_,rfl,(by omega),?_⟩
  generalize hl:dv t1 b2 = l at *
  generalize hr:dv t2 b1 = r at *
  obtain ⟨e1,e2⟩:=xG2 p1 n2 c1 c2 hl.symm hr.symm
  have le1:∀ {x d:Int},x.natAbs < 2 ^ 8000->(x.fdiv d).natAbs < 2 ^ 8001:=fun {x d} hx=>by
   have:=natAbs_fdiv_le x d
   rw [Nat.pow_succ]; omega
  refine ⟨_,rfl,a,_,_,_,rfl,rfl,SqT.of ha,rfl,_,rfl,_,_,rfl,rfl,ldiv _,_,rfl,b,_,_,_,rfl,rfl,SqT.of hb,rfl,_,rfl,_,_,rfl,rfl,rdiv _,_,_,rfl,rfl,zE9 8001 (le1 z1) (le1 z3) (by decide),_,rfl,a,_,_,_,rfl,rfl,SqT.of ha,rfl,_,rfl,_,_,rfl,rfl,rdiv _,_,rfl,b,_,_,_,rfl,rfl,SqT.of hb,rfl,_,rfl,_,_,rfl,rfl,ldiv _,_,_,rfl,rfl,zE9 8001 (le1 z2) (le1 z4) (by decide),sz (by simp),fun p hp=>?_⟩
  exact k _ _ (Same.upd hp) (FrV.newOf e1 e2)
noncomputable abbrev zZ8:Stmt:=top 8
theorem sc_over:zB5 ["one","other"] ["one","other"] (zA5 zZ8):=⟨rfl,rfl,rfl,by decide +kernel,rfl,by decide +kernel,by decide +kernel⟩
theorem xQ0 {ca:Ca} (D:DefAt K mg "over" zZ8) (T:Txt K mg ca) (G_times:FnAt P w K mg base CX0 2 "times" ["one","other"] (spTimes)):FnAt P w K mg base (CXE P w) 3 "over" ["one","other"] (xL0 ca.NoNumber):=by
 refine D.okE sc_over (fun vs H Q E h=>?_) (fun _ _ _ _ _ _ us hl=>match us,hl with | [_,_],_=>rfl) (fun f cdv A outer s H vs Q E hr h=>?_)
 ·obtain ⟨_,_,r,q,rfl,⟨a,rfl,ha⟩,⟨b,rfl,hb⟩,br,bq,k,kE⟩:=h; rfl
 ·obtain ⟨_,_,r,q,rfl,⟨a,rfl,ha⟩,⟨b,rfl,hb⟩,br,bq,k,kE⟩:=h
  have nd:=sc_over.nd
  refine ⟨_,(@zA4 _ _ _ _ _ (zK2 (zC1 zT0 (zB4 (zA7 (K:=K) rfl) (pv 1) zA2 (fun _ _=>rfl)) zA2 (zD3 _)) (@zA6 _ _ _ (xH2 yZ8 rfl (by rfl) T.c_NoNumber T.e_NoNumber PySem.F.excBase_ValueError (@zA0 _ _ _ _ _ zF3 zA3 (by rfl)))) zE1)
   (@zA6 _ _ _ (zC0 (zB7 G_times hr (by rfl) zB8 (@zA0 _ _ _ _ _ (pv 0) (@zA0 _ _ _ _ _ (@zC3 _ _ _ _ _ (@zA0 _ _ _ _ _ (zB4 (zA7 (K:=K) rfl) (pv 1) zA2 (fun _ _=>rfl)) (@zA0 _ _ _ _ _ (zB4 (zA7 (K:=K) rfl) (pv 1) zA2 (fun _ _=>rfl)) zA3 (by rfl)) (by rfl))) zA3 (by rfl)) (by rfl)))))),?_⟩
  refine ⟨_,rfl,b,_,_,_,rfl,rfl,SqT.of hb,rfl,rfl,_,rfl,?_⟩
  refine ite2 (fun h1=>?_) (fun h1=>?_)
  ·have e:V.int q.num = .int 0:=of_decide_eq_true h1
   have e:q = 0:=Rat.num_eq_zero.mp (V.int.inj e)
   exact ⟨sz (by simp),kE e⟩
  have hn:q.num ≠ 0:=fun z=>h1 (decide_eq_true (by rw [z]))
  have hq:q ≠ 0:=fun z=>hn (Rat.num_eq_zero.mpr z)
  refine ⟨_,rfl,_,rfl,b,_,_,_,rfl,rfl,SqT.of hb,rfl,_,rfl,b,_,_,_,rfl,rfl,SqT.of hb,rfl,sz (by simp),fun p hp=>?_⟩
  have ne:a ≠ p:=zA8 ha hp
  refine ⟨_,_,a,p,r.num,r.den,q.den,q.num,rfl,rfl,(by rw [upd_ne ne]; exact ha),rfl,zA1,zD7 r,hn,yC0 r,xI9 q,⟨br.num,br.den,bq.den,bq.num⟩,fun v H' s' h=>?_⟩
  rw [xX0 r q hn] at h
  exact k hq v H' ((Same.upd hp).trans s') h
noncomputable abbrev zS3:Stmt:=top 9
theorem sc_under:zB5 ["one","other"] ["one","other"] (zA5 zS3):=⟨rfl,rfl,rfl,by decide +kernel,rfl,by decide +kernel,by decide +kernel⟩
theorem xH7 {ca:Ca} (D:DefAt K mg "under" zS3) (T:Txt K mg ca):FnAt P w K mg base CX0 1 "under" ["one","other"] (yY0):=by
 refine D.ok sc_under (fun vs H Q E h=>?_) (fun _ _ _ _ _ _ us hl=>match us,hl with | [_,_],_=>rfl) (fun f cdv A outer s H vs Q E hr h=>?_)
 ·obtain ⟨_,_,r,q,rfl,⟨a,rfl,ha⟩,⟨b,rfl,hb⟩,br,bq,k⟩:=h; rfl
 ·obtain ⟨_,_,r,q,rfl,⟨a,rfl,ha⟩,⟨b,rfl,hb⟩,br,bq,k⟩:=h
  have nd:=sc_under.nd
  refine ⟨_,(@zA6 _ _ _ (zC0 (yM8 xH5 (@zB6 _ _ _ _ _ _ _ _ zG5 (zB4 (zA7 (K:=K) rfl) (pv 0) zA2 (fun _ _=>rfl)) (zB4 (zA7 (K:=K) rfl) (pv 1) zA2 (fun _ _=>rfl))) (@zB6 _ _ _ _ _ _ _ _ zG5 (zB4 (zA7 (K:=K) rfl) (pv 1) zA2 (fun _ _=>rfl)) (zB4 (zA7 (K:=K) rfl) (pv 0) zA2 (fun _ _=>rfl))) (zD3 _)))),?_⟩
  refine ⟨_,rfl,a,_,_,_,rfl,rfl,SqT.of ha,rfl,_,rfl,b,_,_,_,rfl,rfl,SqT.of hb,rfl,_,_,rfl,rfl,zE9 8000 br.num bq.den (by decide),_,rfl,b,_,_,_,rfl,rfl,SqT.of hb,rfl,_,rfl,a,_,_,_,rfl,rfl,SqT.of ha,rfl,_,_,rfl,rfl,zE9 8000 bq.num br.den (by decide),_,_,rfl,rfl,?_⟩
  rw [<- _root_.Tc.lt_ok] at k
  exact k
noncomputable abbrev zP3:Stmt:=top 10
theorem sc_sum_of:zB5 ["some","whole","share"] ["some"] (zA5 zP3):=⟨rfl,rfl,rfl,by decide +kernel,rfl,by decide +kernel,by decide +kernel⟩
theorem xA9 {ca:Ca} (D:DefAt K mg "sum_of" zP3) (T:Txt K mg ca) (G_plus:FnAt P w K mg base CX0 2 "plus" ["one","other"] (yH1)):FnAt P w K mg base CX0 3 "sum_of" ["some"] (yM2 K):=by
 refine D.ok sc_sum_of (fun vs H Q E h=>?_) (fun _ _ _ _ _ _ us hl=>match us,hl with | [_],_=>rfl) (fun f cdv A outer s H vs Q E hr h=>?_)
 ·obtain ⟨a,xs,rs,rfl,hS,hP,hB,hT,k⟩:=h; rfl
 ·obtain ⟨a,xs,rs,rfl,hS,hP,hB,hT,k⟩:=h
  have nd:=sc_sum_of.nd
  refine ⟨_,(@zA4 _ _ _ _ _ (@zB1 _ _ 1 _ _ _ _ nd rfl (Or.inl rfl) (@zC3 _ _ _ _ _ (@zA0 _ _ _ _ _ zA2 (@zA0 _ _ _ _ _ zA2 zA3 (by rfl)) (by rfl))) (by rfl) (Or.inl rfl))
   (@zA4 _ _ _ _ _ (zD6 PassesOwn.never rfl (zD5 (K:=K) rfl (pv 0)) (zA9 (i:=2) nd rfl (Or.inl rfl)) (@zA6 _ _ _ (@zB1 _ _ 1 _ _ _ _ nd rfl (Or.inl rfl) (zB7 G_plus hr (by rfl) zB8 (@zA0 _ _ _ _ _ (pv 1) (@zA0 _ _ _ _ _ (pv 2) zA3 (by rfl)) (by rfl))) (by rfl) (Or.inl rfl))))
   (@zA6 _ _ _ (zC0 (pv 1))))),?_⟩
  refine ⟨sz (by simp),fun p0 hp0=>?_⟩
  have hl:xs.length = rs.length:=hP.length
  refine ⟨_,rfl,a,rfl,⟨_,(Same.upd hp0).seq hS⟩,?_⟩
  refine zF7 (xs:=xs) (fun i σ H1=>∃ v2:Option V,∃ w1:V,σ = [some (.ref a),some w1,v2] /\ Same H H1 /\ FrV H1 w1 (sumQ (rs.take i))) ⟨none,.ref p0,rfl,Same.upd hp0,FrV.newOf rfl rfl⟩ ?_ ?_ ?_
  ·rintro i σ H1 hi ⟨v2,w1,rfl,s1,h1⟩
   exact s1.seq hS
  ·rintro i x σ H1 hx ⟨v2,w1,rfl,s1,h1⟩
   obtain ⟨r,hr,fr⟩:=zC4 hP hx
   have hi:i < rs.length:=(List.getElem?_eq_some_iff.mp hr).1
   refine ⟨_,rfl,_,rfl,_,_,_,_,rfl,h1,fr.same s1,hT i (by omega),hB r (List.mem_of_getElem? hr),fun v H2 s2 h2=>?_⟩
   refine ⟨_,_,rfl,s1.trans s2,?_⟩
   rw [yG5 hr]; exact h2
  ·rintro σ H1 ⟨v2,w1,rfl,s1,h1⟩
   rw [hl,List.take_length] at h1
   exact ⟨_,rfl,k _ _ s1 h1⟩
noncomputable abbrev zH7:Stmt:=top 12
theorem sc_less_times:zB5 ["row","other","factor"] ["row","other","factor"] (zA5 zH7):=⟨rfl,rfl,rfl,by decide +kernel,rfl,by decide +kernel,by decide +kernel⟩
theorem yC7 {ca:Ca} (D:DefAt K mg "less_times" zH7) (T:Txt K mg ca) (G_minus:FnAt P w K mg base CX0 3 "minus" ["one","other"] (yB7)) (G_times:FnAt P w K mg base CX0 2 "times" ["one","other"] (spTimes)):FnAt P w K mg base CX0 4 "less_times" ["row","other","factor"] (xL4):=by
 refine D.ok sc_less_times (fun vs H Q E h=>?_) (fun _ _ _ _ _ _ us hl=>match us,hl with | [_,_,_],_=>rfl) (fun f cdv A outer s H vs Q E hr h=>?_)
 ·obtain ⟨a,b,fv,m,f,g,t,rfl,hA,hB,hx,h30,bt,hbd,k⟩:=h; rfl
 ·obtain ⟨a,b,fv,m,f,g,t,rfl,hA,hB,hx,h30,bt,hbd,k⟩:=h
  have nd:=sc_less_times.nd
  refine ⟨_,(@zA4 _ _ _ _ _ (zK2 (zC1 (zX1 (K:=K) rfl hr) (pv 2) (@zC3 _ _ _ _ _ (@zA0 _ _ _ _ _ zA2 (@zA0 _ _ _ _ _ zA2 zA3 (by rfl)) (by rfl))) (zD3 _)) (@zA6 _ _ _ (zC0 (zJ3 (zR9 (K:=K) rfl) (by rfl) T.z_list zT9 (@zA0 _ _ _ _ _ (pv 0) zA3 (by rfl))))) zE1)
   (@zA6 _ _ _ (zC0 (zL9 ["one","two"] ["factor"] [2] rfl (by rfl) (xT8 (K:=K) rfl (by rfl) T.z_zip (@zA0 _ _ _ _ _ (pv 0) (@zA0 _ _ _ _ _ (pv 1) zA3 (by rfl)) (by rfl))) (fun _ _ _ _=>(yM6 (K:=K) (n:=2) (by rfl) (by rfl) (zC7 (zA9 (i:=0) (show List.Nodup (["one","two","factor"]:List Str) from by decide) rfl (Or.inl rfl) (hf:=Or.inr (by rfl))) (zC7 (zA9 (i:=1) (show List.Nodup (["one","two","factor"]:List Str) from by decide) rfl (Or.inl rfl) (hf:=Or.inr (by rfl))) zK4)))) (fun _ _ _ _=>zK5) (fun _ _ _ _=>(zB7 G_minus hr (by rfl) zB8 (@zA0 _ _ _ _ _ (pv 0) (@zA0 _ _ _ _ _ (zB7 G_times hr (by rfl) zB8 (@zA0 _ _ _ _ _ (pv 1) (@zA0 _ _ _ _ _ (pv 2) zA3 (by rfl)) (by rfl))) zA3 (by rfl)) (by rfl)))))))),?_⟩
  obtain ⟨us,ha,hA⟩:=hA
  obtain ⟨ws,hb,hB⟩:=hB
  have lA:us.length = m:=hA.length.trans (zP0 m f)
  have lB:ws.length = m:=hB.length.trans (zP0 m g)
  refine ⟨_,rfl,sz (by simp),fun p0 hp0=>?_⟩
  have t0:=Same.upd (o:=.tup [.int 0,.int 1]) hp0
  refine ⟨_,_,(hx.same t0).rep,yA0 (SqT.of zA1),zN8 _ _,_,rfl,?_⟩
  rw [eq01]
  refine ite2 (fun h=>?_) (fun h=>?_)
  ·have ht:t = 0:=of_decide_eq_true h
   refine ⟨_,rfl,a,us,rfl,.inl (SqL.of (t0 _ _ ha)),fun p hp=>?_⟩
   refine k p _ (t0.free hp) (t0.trans (Same.upd hp)) ⟨us,zA1,?_⟩
   have e:nR m (fun j=>f j - g j * t) = nR m f:=yE3 fun j _=>by rw [ht,Rat.mul_zero]; grind
   rw [e]
   exact Paired.mapP hA fun _ _ q=>(q.same t0).upd hp
  ·refine ⟨_,rfl,_,rfl,a,b,us,ws,rfl,SqL.of (t0 _ _ ha),SqL.of (t0 _ _ hb),fun Dd hD=>?_⟩
   have hD0:=t0.free hD
   refine xF5 (xs:=us) (ys:=ws) (fun j σ' H'=>∃ (v0 v1:Option V) (qs:List V),σ' = [v0,v1,some fv] /\ Same H H' /\ H' Dd = some (.lst qs) /\ Paired (FrV H') qs (nR j fun j=>f j - g j * t)) (by omega) ⟨none,none,[],rfl,t0.trans (Same.upd hD),zA1,.nil⟩ ?_ ?_ ?_
   ·rintro j σ' H' hj ⟨v0,v1,qs,rfl,s1,hd,hF⟩
    exact ⟨SqL.of (s1 _ _ ha),SqL.of (s1 _ _ hb)⟩
   ·rintro j x y T' σ' H' hx1 hy1 ⟨v0,v1,qs,rfl,s1,hd,hF⟩ hT
    obtain ⟨r1,hr1,fx⟩:=zC4 hA hx1
    obtain ⟨r2,hr2,fy⟩:=zC4 hB hy1
    obtain ⟨hj,rfl⟩:=xB7 hr1
    obtain ⟨_,rfl⟩:=xB7 hr2
    obtain ⟨bf,bg,bgt⟩:=hbd j hj
    have tT:=Same.upd (o:=.tup [x,y]) hT
    have lW:qs.length = j:=hF.length.trans (zP0 j _)
    have s2:=s1.trans tT
    refine ⟨T',_,rfl,SqT.of zA1,rfl,_,_,rfl,_,_,rfl,rfl,?_⟩
    refine ⟨_,rfl,_,rfl,_,rfl,spTimes.of (E:=E0) rfl (fy.same s2) (hx.same s2) bg bt fun u3 H3 s3 f3=>?_⟩
    refine ⟨_,_,f j,g j * t,rfl,(fx.same s2).same s3,f3,bf,bgt,fun u4 H4 s4 f4=>?_⟩
    have s24:=tT.trans (s3.trans s4)
    have hd4:=s24 _ _ hd
    refine ⟨_,hd4,sz (by omega),_,_,qs ++ [u4],rfl,(s1.trans s24).updD hD0,zA1,?_⟩
    rw [zX6]
    have tu:=zC8 (o:=.lst (qs ++ [u4])) hd4 (fun _ z=>nomatch z)
    exact Paired.snoc (Paired.mapP hF fun _ _ f=>(f.same s24).tup tu) (f4.tup tu)
   ·rintro σ' H1 ⟨v0,v1,qs,rfl,s1,hd,hF⟩
    rw [lA] at hF
    exact k Dd H1 hD0 s1 ⟨qs,hd,hF⟩
noncomputable abbrev zN1:Stmt:=top 13
theorem sc_pivoted:zB5 ["rows","at","column","lead","cleared","number","row"] ["rows","at","column"] (zA5 zN1):=⟨rfl,rfl,rfl,by decide +kernel,rfl,by decide +kernel,by decide +kernel⟩
theorem yW0 {ca:Ca} (D:DefAt K mg "pivoted" zN1) (T:Txt K mg ca) (G_over:FnAt P w K mg base (CXE P w) 3 "over" ["one","other"] (xL0 ca.NoNumber)) (G_less_times:FnAt P w K mg base CX0 4 "less_times" ["row","other","factor"] (xL4)):FnAt P w K mg base CX0 5 "pivoted" ["rows","at","column"] (xS9):=by
 refine D.ok sc_pivoted (fun vs H Q E h=>?_) (fun _ _ _ _ _ _ us hl=>match us,hl with | [_,_,_],_=>rfl) (fun f cdv A outer s H vs Q E hr h=>?_)
 ·obtain ⟨a,r,m,c,k,M,rfl,hM,hc,hk,hr30,hm,hp,hbd,fin⟩:=h; rfl
 ·obtain ⟨a,r,m,c,k,M,rfl,hM,hc,hk,hr30,hm,hp,hbd,fin⟩:=h
  have nd:=sc_pivoted.nd
  refine ⟨_,(@zA4 _ _ _ _ _ (zN3 ["number"] ["column","rows","at"] [2,0,1] (i:=3) nd rfl rfl rfl (by rfl) (zD5 (K:=K) rfl (zB4 (zD4 (K:=K) rfl) (pv 0) (pv 1) (fun _ _=>rfl))) (fun _ _ _ _=>(zA9 (i:=0) (show List.Nodup (["number","column","rows","at"]:List Str) from by decide) rfl (Or.inl rfl))) (fun _ _ _ _=>zK5) (fun _ _ _ _=>(zB7 G_over hr (by rfl) xU5 (@zA0 _ _ _ _ _ (pv 0) (@zA0 _ _ _ _ _ (zB4 (zD4 (K:=K) rfl) (zB4 (zD4 (K:=K) rfl) (pv 2) (pv 3) (fun _ _=>rfl)) (pv 1) (fun _ _=>rfl)) zA3 (by rfl)) (by rfl)))))
   (@zA4 _ _ _ _ _ (@zB1 _ _ 4 _ _ _ _ nd rfl (Or.inl rfl) (@zK8 _ _ _ _ zA3) (by rfl) (Or.inl rfl))
   (@zA4 _ _ _ _ _ (zD6 PassesOwn.never rfl (xP6 (K:=K) rfl (by rfl) T.z_enumerate (@zA0 _ _ _ _ _ (pv 0) zA3 (by rfl))) (zP9 rfl (zC7 (zA9 (i:=5) nd rfl (Or.inl rfl)) (zC7 (zA9 (i:=6) nd rfl (Or.inl rfl)) zK4))) (@zA6 _ _ _ (zK2 (zC1 zT0 (pv 5) (pv 1) (zD3 _)) (@zA6 _ _ _ (zK3 (yC5 PySem.F.plainAttrs_list PySem.F.slot_list_append PySem.F.type_list_append zJ4 (pv 4) (@zA0 _ _ _ _ _ (pv 3) zA3 (by rfl))))) (@zA6 _ _ _ (zK3 (yC5 PySem.F.plainAttrs_list PySem.F.slot_list_append PySem.F.type_list_append zJ4 (pv 4) (@zA0 _ _ _ _ _ (zB7 G_less_times hr (by rfl) zB8 (@zA0 _ _ _ _ _ (pv 6) (@zA0 _ _ _ _ _ (pv 3) (@zA0 _ _ _ _ _ (zB4 (zD4 (K:=K) rfl) (pv 6) (pv 2) (fun _ _=>rfl)) zA3 (by rfl)) (by rfl)) (by rfl))) zA3 (by rfl))))))))
   (@zA6 _ _ _ (zC0 (pv 4)))))),?_⟩
  obtain ⟨bs,ha,lb,hB⟩:=hM
  obtain ⟨bc,hbc⟩:∃ b,bs[c]? = some b:=⟨_,List.getElem?_eq_getElem (by omega)⟩
  have hLc:=hB c bc hbc
  obtain ⟨vs,hvs,hV⟩:=id hLc
  have lV:vs.length = m:=hV.length.trans (zP0 m _)
  obtain ⟨vs',vk,hvs',_,hak,fk⟩:=hLc.at hk
  rw [hvs] at hvs'
  cases hvs'
  refine ⟨_,rfl,_,rfl,a,_,_,_,rfl,rfl,SqL.of ha,zW4 hbc,bc,rfl,⟨_,SqL.of hvs⟩,fun Dd hD=>?_⟩
  refine zJ2 (xs:=vs) (fun j σ' H'=>∃ (v:Option V) (qs:List V),σ' = [v,some (.int (k:Nat)),some (.ref a),some (.int (c:Nat))] /\ Same H H' /\ H' Dd = some (.lst qs) /\ Paired (FrV H') qs (nR j fun j=>M c j / M c k)) ⟨none,[],rfl,Same.upd hD,zA1,.nil⟩ ?_ ?_ ?_
  ·rintro j σ' H' hj ⟨v,qs,rfl,s1,hd,hF⟩
   exact SqL.of (s1 _ _ hvs)
  ·rintro j x σ' H' hx1 ⟨v,qs,rfl,s1,hd,hF⟩
   obtain ⟨r1,hr1,fx⟩:=zC4 hV hx1
   obtain ⟨hj,rfl⟩:=xB7 hr1
   have lW:qs.length = j:=hF.length.trans (zP0 j _)
   refine ⟨_,rfl,_,rfl,_,rfl,a,_,_,_,rfl,rfl,SqL.of (s1 _ _ ha),zW4 hbc,_,rfl,bc,_,_,_,rfl,rfl,SqL.of (s1 _ _ hvs),hak,?_⟩
   refine ⟨_,_,M c j,M c k,rfl,fx.same s1,fk.same s1,(hbd c hc j hj).1,(hbd c hc k hk).1,(fun _ u2 H2 s2 f2=>?_),fun z=>absurd z hp⟩
   have hd2:=s2 _ _ hd
   refine ⟨_,hd2,sz (by omega),_,qs ++ [u2],rfl,(s1.trans s2).updD hD,zA1,?_⟩
   rw [zX6]
   have tu:=zC8 (o:=.lst (qs ++ [u2])) hd2 (fun _ z=>nomatch z)
   exact Paired.snoc (Paired.mapP hF fun _ _ f=>(f.same s2).tup tu) (f2.tup tu)
  rintro σ' H1 ⟨v,qs,rfl,s1,hd,hF⟩
  rw [lV] at hF
  have hld:LsF H1 Dd (nR m fun j=>M c j / M c k):=⟨qs,hd,hF⟩
  refine ⟨sz (by simp),fun p hp'=>?_⟩
  have tp:=Same.upd (o:=.lst []) hp'
  have hp0:=s1.free hp'
  have s1p:=s1.trans tp
  refine ⟨_,rfl,a,_,rfl,SqL.of (s1p _ _ ha),?_⟩
  refine xJ2 (xs:=bs.map V.ref) (fun i σ H2=>∃ (v5 v6:Option V) (cs:List Addr),σ = [some (.ref a),some (.int (c:Nat)),some (.int (k:Nat)),some (.ref Dd),some (.ref p),v5,v6] /\ Same H1 H2 /\ H2 p = some (.lst (cs.map V.ref)) /\ cs.length = i /\ ∀ j q,cs[j]? = some q->q ≠ p /\ LsF H2 q (nR m (pivM M c k j))) ⟨none,none,[],rfl,tp,zA1,rfl,fun j q e=>by simp at e⟩ ?_ ?_ ?_
  ·rintro i σ H2 hi ⟨v5,v6,cs,rfl,s2,h2,lc,hC⟩
   exact SqL.of ((s1.trans s2) _ _ ha)
  ·rintro i x T' σ H2 hx1 ⟨v5,v6,cs,rfl,s2,h2,lc,hC⟩ hT
   obtain ⟨bi,rfl,hbi⟩:=yZ6 hx1
   have hil:i < r:=by have:=(List.getElem?_eq_some_iff.mp hbi).1; omega
   have tT:=Same.upd (o:=.tup [.int (i:Nat),.ref bi]) hT
   refine ⟨T',_,rfl,SqT.of zA1,rfl,_,_,rfl,_,_,rfl,rfl,?_⟩
   have s2T:=s2.trans tT
   have h2T:=tT _ _ h2
   have hC3:∀ j q,cs[j]? = some q->q ≠ p /\ LsF (upd H2 T' (.tup [.int (i:Nat),.ref bi])) q (nR m (pivM M c k j)):=fun j q e=>⟨(hC j q e).1,(hC j q e).2.same tT⟩
   generalize upd H2 T' (.tup [.int (i:Nat),.ref bi]) = H3 at *
   have fin2:∀ H4 q,Same H3 H4->q ≠ p->LsF H4 q (nR m (pivM M c k i))->∃ (v5 v6:Option V) (ds:List Addr),[some (V.ref a),some (.int (c:Nat)),some (.int (k:Nat)),some (.ref Dd),some (.ref p),some (.int (i:Nat)),some (.ref bi)] = [some (V.ref a),some (.int (c:Nat)),some (.int (k:Nat)),some (.ref Dd),some (.ref p),v5,v6] /\ Same H1 (upd H4 p (.lst (cs.map V.ref ++ [.ref q]))) /\ upd H4 p (.lst (cs.map V.ref ++ [.ref q])) p = some (.lst (ds.map V.ref)) /\ ds.length = i + 1 /\ ∀ j q',ds[j]? = some q'->q' ≠ p /\ LsF (upd H4 p (.lst (cs.map V.ref ++ [.ref q]))) q' (nR m (pivM M c k j)):=by
    intro H4 q s4 nq hq
    have h4:=s4 _ _ h2T
    have tu:=zC8 (o:=.lst (cs.map V.ref ++ [.ref q])) h4 (fun _ z=>nomatch z)
    refine ⟨_,_,cs ++ [q],rfl,(s2T.trans s4).updD hp',by rw [zA1,List.map_append]; rfl,by rw [List.length_append,lc]; rfl,fun j q' e=>?_⟩
    rcases yT0 e with e | ⟨e1,rfl⟩
    ·obtain ⟨n1,l1⟩:=hC3 j q' e
     exact ⟨n1,(l1.same s4).keep tu fun vs h=>by rw [upd_ne n1]; exact h⟩
    ·rw [e1,lc]
     exact ⟨nq,hq.keep tu fun vs h=>by rw [upd_ne nq]; exact h⟩
   have npD:Dd ≠ p:=fun e=>by rw [<- e,hd] at hp'; cases hp'
   show tIfS _ _ _ _ _ _
   refine ⟨_,rfl,_,rfl,rfl,_,rfl,?_⟩
   refine ite2 (fun h=>?_) (fun h=>?_)
   ·have h:i = c:=by have:=of_decide_eq_true h; have:=V.int.inj this; omega
    subst h
    refine ⟨_,rfl,.inl ⟨rfl,_,SqL.of h2T⟩,_,rfl,p,_,_,rfl,rfl,h2T,sz (by rw [List.length_map]; omega),?_⟩
    refine fin2 H3 Dd (Same.refl _) npD ?_
    have e:nR m (pivM M i k i) = nR m (fun j=>M i j / M i k):=yE3 fun j _=>by unfold pivM; rw [if_pos rfl]
    rw [e]; exact hld.same s2T
   ·have h:i ≠ c:=fun e=>h (decide_eq_true (by rw [e]))
    obtain ⟨us,u,hus,_,hau,fu⟩:=((hB i bi hbi).same (s1.trans s2T)).at hk
    refine ⟨_,rfl,.inl ⟨rfl,_,SqL.of h2T⟩,_,rfl,_,rfl,_,rfl,_,rfl,bi,_,_,_,rfl,rfl,SqL.of hus,hau,?_⟩
    refine ⟨bi,Dd,u,m,M i,(fun j=>M c j / M c k),M i k,rfl,(hB i bi hbi).same (s1.trans s2T),hld.same s2T,fu,hm,(hbd i hil k hk).1,fun j hj=>⟨(hbd i hil j hj).1,(hbd i hil j hj).2⟩,fun pn H4 hpn s4 h4=>?_⟩
    refine ⟨p,_,_,rfl,rfl,s4 _ _ h2T,sz (by rw [List.length_map]; omega),?_⟩
    refine fin2 H4 pn s4 (fun e=>by rw [e,h2T] at hpn; cases hpn) ?_
    have e:nR m (pivM M c k i) = nR m (fun j=>M i j - M c j / M c k * M i k):=yE3 fun j _=>by unfold pivM; rw [if_neg h]
    rw [e]; exact h4
  ·rintro σ H2 ⟨v5,v6,cs,rfl,s2,h2,lc,hC⟩
   rw [List.length_map,lb] at lc
   exact ⟨_,rfl,fin p H2 hp0 (s1.trans s2) ⟨cs,h2,lc,fun j q e=>(hC j q e).2⟩⟩
noncomputable abbrev zP4:Stmt:=top 14
theorem sc_solved:zB5 ["rows","many","column","at","ordered"] ["rows"] (zA5 zP4):=⟨rfl,rfl,rfl,by decide +kernel,rfl,by decide +kernel,by decide +kernel⟩
theorem xB0 {ca:Ca} (D:DefAt K mg "solved" zP4) (T:Txt K mg ca) (G_pivoted:FnAt P w K mg base CX0 5 "pivoted" ["rows","at","column"] (xS9)):FnAt P w K mg base CX0 6 "solved" ["rows"] (yQ4):=by
 refine D.ok sc_solved (fun vs H Q E h=>?_) (fun _ _ _ _ _ _ us hl=>match us,hl with | [_],_=>rfl) (fun f cdv A outer s H vs Q E hr h=>?_)
 ·obtain ⟨a,n,d,e,A,rfl,hM,hn,hbd,hd1,he1,hA,k⟩:=h; rfl
 ·obtain ⟨a,n,d,e,A,rfl,hM,hn,hbd,hd1,he1,hA,k⟩:=h
  have nd:=sc_solved.nd
  refine ⟨_,(@zA4 _ _ _ _ _ (@zB1 _ _ 1 _ _ _ _ nd rfl (Or.inr rfl) (zC9 (zF0 (K:=K) rfl) (by rfl) T.z_len PySem.boot_len (@zA0 _ _ _ _ _ (pv 0) zA3 (by rfl))) (by rfl) (Or.inl rfl))
   (@zA4 _ _ _ _ _ (zD6 PassesOwn.never rfl (zH3 (by rfl) T.z_range (@zA0 _ _ _ _ _ (pv 1) zA3 (by rfl))) (zA9 (i:=2) nd rfl (Or.inl rfl)) (@zA4 _ _ _ _ _ (@zB1 _ _ 3 _ _ _ _ nd rfl (Or.inl rfl) (pv 2) (by rfl) (Or.inl rfl))
   (@zA4 _ _ _ _ _ (zU9 PassesOwn.never (zC1 (zX1 (K:=K) rfl hr) (zB4 (zD4 (K:=K) rfl) (zB4 (zD4 (K:=K) rfl) (pv 0) (pv 3) (fun _ _=>rfl)) (pv 2) (fun _ _=>rfl)) (@zC3 _ _ _ _ _ (@zA0 _ _ _ _ _ zA2 (@zA0 _ _ _ _ _ zA2 zA3 (by rfl)) (by rfl))) (zD3 _)) (@zA6 _ _ _ (xL8 (i:=3) nd rfl (Or.inl rfl) zA2 xM8)))
   (@zA4 _ _ _ _ _ (@zB1 _ _ 4 _ _ _ _ nd rfl (Or.inl rfl) (zJ3 (zR9 (K:=K) rfl) (by rfl) T.z_list zT9 (@zA0 _ _ _ _ _ (pv 0) zA3 (by rfl))) (by rfl) (Or.inl rfl))
   (@zA4 _ _ _ _ _ (yR6 (zB4 (zD4 (K:=K) rfl) (pv 0) (pv 2) (fun _ _=>rfl)) (xM0 (pv 4) (pv 3) yQ9))
   (@zA4 _ _ _ _ _ (yR6 (zB4 (zD4 (K:=K) rfl) (pv 0) (pv 3) (fun _ _=>rfl)) (xM0 (pv 4) (pv 2) yQ9))
   (@zA6 _ _ _ (@zB1 _ _ 0 _ _ _ _ nd rfl (Or.inl rfl) (zB7 G_pivoted hr (by rfl) zB8 (@zA0 _ _ _ _ _ (pv 4) (@zA0 _ _ _ _ _ (pv 2) (@zA0 _ _ _ _ _ (pv 2) zA3 (by rfl)) (by rfl)) (by rfl))) (by rfl) (Or.inl rfl)))))))))
   (@zA6 _ _ _ (zC0 (zL9 ["row"] ["many"] [1] rfl (by rfl) (zD5 (K:=K) rfl (pv 0)) (fun _ _ _ _=>(zA9 (i:=0) (show List.Nodup (["row","many"]:List Str) from by decide) rfl (Or.inl rfl))) (fun _ _ _ _=>zK5) (fun _ _ _ _=>(zB4 (zD4 (K:=K) rfl) (pv 0) (pv 1) (fun _ _=>rfl)))))))),?_⟩
  obtain ⟨bs0,ha0,lb0,hB0⟩:=id hM
  have l0:(bs0.map V.ref).length = n:=by rw [List.length_map]; exact lb0
  refine ⟨_,rfl,_,_,rfl,.inl ⟨_,SqL.of ha0,rfl⟩,?_⟩
  rw [l0]
  refine ⟨_,rfl,_,rfl,by omega,by omega,?_⟩
  refine zH4 (fun c σ H1=>∃ (v2 v3 v4:Option V) (pc:Addr) (M:Nat->Nat->Rat) (x y:Nat),σ = [some (.ref pc),some (.int (n:Nat)),v2,v3,v4] /\ Same H H1 /\ MatAt H1 pc n (n + 1) M /\ ClrM n M c /\ (∀ y,KerM n M y->KerM n A y) /\ BdB n M x y /\ x + 1 = 2 ^ c * (d + 1) /\ y + (d + 1) = e + 2 ^ c * (d + 1)) ⟨none,none,none,a,A,d,e,rfl,Same.refl H,hM,(fun i _ j hj=>absurd hj (Nat.not_lt_zero _)),fun _ h=>h,hbd,by omega,by omega⟩ ?_ ?_
  ·rintro c σ H1 hc ⟨v2,v3,v4,pc,M,x,y,rfl,s1,hM1,cl,kr,bd,hx,hy⟩
   have hc:c < n:=by simpa using hc
   have p5:2 ^ (c + 1) <= 2 ^ 5:=Nat.pow_le_pow_right (by decide) (by omega)
   have p5':2 * (2 ^ c * (d + 1)) <= 32 * (d + 1):=by
    rw [<- Nat.mul_assoc,Nat.mul_comm 2,<- Nat.pow_succ]
    exact Nat.mul_le_mul_right _ p5
   obtain ⟨a0,h1,h2,h3⟩:=xA5 hc cl kr hA
   obtain ⟨bs,ha,lb,hB⟩:=id hM1
   refine ⟨_,rfl,?_⟩
   refine zU5 (fun σ H2=>∃ q:Nat,σ = [some (.ref pc),some (.int (n:Nat)),some (.int (0 + (c:Int))),some (.int (q:Nat)),v4] /\ Same H1 H2 /\ c <= q /\ q <= a0) (fun σ _=>match σ with | [_,_,_,some (.int q),_]=>n - q.toNat | _=>0) ⟨c,by simp,Same.refl _,Nat.le_refl _,h1⟩ ?_ ?_
   ·rintro σ H2 ⟨q,rfl,s2,hcq,hqa⟩
    obtain ⟨bq,hbq⟩:∃ b,bs[q]? = some b:=⟨_,List.getElem?_eq_getElem (by omega)⟩
    obtain ⟨vs,v,hvs,_,hat,fv⟩:=(hB q bq hbq).at (j:=c) (by omega)
    have hat':atI vs (0 + (c:Int)) = some v:=by rw [Int.zero_add]; exact hat
    refine ⟨_,rfl,_,rfl,pc,_,_,_,rfl,rfl,SqL.of (s2 _ _ ha),zW4 hbq,_,rfl,bq,_,_,_,rfl,rfl,SqL.of (s2 _ _ hvs),hat',?_⟩
    refine ⟨sz (by simp),fun p0 hp0=>?_⟩
    have t0:=Same.upd (o:=.tup [.int 0,.int 1]) hp0
    refine ⟨_,_,(fv.same (s2.trans t0)).rep,yA0 (SqT.of zA1),zN8 _ _,_,rfl,?_⟩
    rw [eq01]
    refine ite2 (fun h=>?_) (fun h=>?_)
    ·have h:M q c = 0:=of_decide_eq_true h
     have hne:q ≠ a0:=fun e=>h3 (by rw [<- e]; exact h)
     refine ⟨_,rfl,_,_,rfl,rfl,?_⟩
     refine ⟨⟨q + 1,rfl,s2.trans t0,by omega,by omega⟩,?_⟩
     show n - (((q:Nat):Int) + 1).toNat < n - ((q:Nat):Int).toNat
     omega
    ·have h:M q c ≠ 0:=fun e=>h (decide_eq_true e)
     have hqn:q < n:=by omega
     have s2t:=s2.trans t0
     obtain ⟨bc,hbc⟩:∃ b,bs[c]? = some b:=⟨_,List.getElem?_eq_getElem (by omega)⟩
     have hac:atI (bs.map V.ref) (0 + (c:Int)) = some (.ref bc):=by rw [Int.zero_add]; exact zW4 hbc
     have ha2:=s2t _ _ ha
     refine ⟨_,rfl,pc,_,rfl,.inl (SqL.of ha2),fun po hpo=>?_⟩
     have t1:=Same.upd (o:=.lst (bs.map V.ref)) hpo
     refine ⟨_,rfl,_,rfl,pc,_,_,_,rfl,rfl,SqL.of (t1 _ _ ha2),hac,_,rfl,_,rfl,?_⟩
     have hpo1:=zA1 (H:=upd H2 p0 (.tup [.int 0,.int 1])) (a:=po) (o:=.lst (bs.map V.ref))
     have hB2:∀ i b,bs[i]? = some b->LsF (upd (upd H2 p0 (.tup [.int 0,.int 1])) po (.lst (bs.map V.ref))) b (nR (n + 1) (M i)):=fun i b e=>(hB i b e).same (s2t.trans t1)
     have s2o:=s2t.trans t1
     have hbo:∀ i b,bs[i]? = some b->b ≠ po:=fun i b e z=>by
      obtain ⟨vs,h1,_⟩:=hB i b e
      rw [z] at h1
      have:=s2t _ _ h1
      rw [hpo] at this; cases this
     have hpc:pc ≠ po:=fun z=>by rw [z,hpo] at ha2; cases ha2
     have hpo0:H1 po = none:=s2t.free hpo
     generalize upd (upd H2 p0 (.tup [.int 0,.int 1])) po (.lst (bs.map V.ref)) = H3 at *
     have ll:(bs.map V.ref).length = n:=by rw [List.length_map]; exact lb
     refine ⟨po,_,_,q,rfl,rfl,hpo1,by rw [ll]; exact xC8 hqn,?_⟩
     rw [yS7]
     have u4:=zC8 (o:=.lst ((bs.set q bc).map V.ref)) hpo1 (fun _ z=>nomatch z)
     have ha4:upd H3 po (.lst ((bs.set q bc).map V.ref)) pc = some (.lst (bs.map V.ref)):=by rw [upd_ne hpc]; exact s2o _ _ ha
     have s4:=s2o.updD (o:=.lst ((bs.set q bc).map V.ref)) hpo0
     have hpo4:=zA1 (H:=H3) (a:=po) (o:=.lst ((bs.set q bc).map V.ref))
     have hB4:∀ i b,bs[i]? = some b->LsF (upd H3 po (.lst ((bs.set q bc).map V.ref))) b (nR (n + 1) (M i)):=fun i b e=>(hB2 i b e).keep u4 fun vs h=>by rw [upd_ne (hbo i b e)]; exact h
     generalize upd H3 po (.lst ((bs.set q bc).map V.ref)) = H4 at *
     refine ⟨_,rfl,_,rfl,pc,_,_,_,rfl,rfl,SqL.of ha4,zW4 hbq,_,rfl,_,rfl,?_⟩
     have l4:((bs.set q bc).map V.ref).length = n:=by rw [List.length_map,List.length_set]; exact lb
     refine ⟨po,_,_,c,rfl,rfl,hpo4,by rw [l4,Int.zero_add]; exact xC8 hc,?_⟩
     rw [yS7]
     have u5:=zC8 (o:=.lst (((bs.set q bc).set c bq).map V.ref)) hpo4 (fun _ z=>nomatch z)
     have s5:=s4.updD (o:=.lst (((bs.set q bc).set c bq).map V.ref)) hpo0
     have hpo5:=zA1 (H:=H4) (a:=po) (o:=.lst (((bs.set q bc).set c bq).map V.ref))
     have hB5:∀ i b,bs[i]? = some b->LsF (upd H4 po (.lst (((bs.set q bc).set c bq).map V.ref))) b (nR (n + 1) (M i)):=fun i b e=>(hB4 i b e).keep u5 fun vs h=>by rw [upd_ne (hbo i b e)]; exact h
     generalize upd H4 po (.lst (((bs.set q bc).set c bq).map V.ref)) = H5 at *
     have hM5:MatAt H5 po n (n + 1) (zP8 M q c):=MatAt.swap hpo5 lb hB5 hbq hbc
     have hp5:zP8 M q c c c ≠ 0:=by unfold zP8; rw [if_pos rfl]; exact h
     have bd5:=bd.swap hqn hc
     refine ⟨_,rfl,_,rfl,_,rfl,po,n,n + 1,c,c,zP8 M q c,?_,hM5,hc,by omega,by omega,by omega,hp5,bd5.all hc hc hp5 (by omega) (by omega),fun pn H6 hpn s6 hM6=>?_⟩
     ·show [V.ref po,.int (0 + (c:Int)),.int (0 + (c:Int))] = _
      rw [Int.zero_add]
     refine ⟨_,_,_,pn,_,2 * x + 1,x + y + 1,rfl,s1.trans (s5.trans s6),hM6,(cl.swap hc hcq hqn).piv hc hp5,fun y hy=>kr y ((hy.unpiv hc hp5).unswap hqn hc),bd5.piv hc hc hp5,?_,?_⟩
     ·rw [Nat.pow_succ,Nat.mul_comm _ 2,Nat.mul_assoc]; omega
     ·rw [Nat.pow_succ,Nat.mul_comm _ 2,Nat.mul_assoc]; omega
   ·intro σ H2 Q1 Q2 hq hh
    obtain ⟨v1,e1,v2,e2,a1,a2,a3,a4,e3,e4,q1,q2,v5,e5,b1,b2,b3,b4,e6,e7,q3,q4,z1,g⟩:=hh
    exact ⟨v1,e1,v2,e2,a1,a2,a3,a4,e3,e4,q1,q2,v5,e5,b1,b2,b3,b4,e6,e7,q3,q4,z1,fun p hp=>let ⟨d1,d2,r1,r2,dp,kk,ek,hQ⟩:=g p hp; ⟨d1,d2,r1,r2,dp,kk,ek,hq _ _ hQ⟩⟩
  ·rintro σ H1 ⟨v2,v3,v4,pc,M,x,y,rfl,s1,hM1,cl,kr,bd,hx,hy⟩
   have en:((n:Int)).toNat = n:=by simp
   rw [en] at cl hx hy
   obtain ⟨bs,ha,lb,hB⟩:=id hM1
   refine ⟨_,rfl,pc,rfl,⟨_,SqL.of ha⟩,fun Dd hD=>?_⟩
   have hD0:=s1.free hD
   refine zJ2 (xs:=bs.map V.ref) (fun i σ' H'=>∃ (v:Option V) (ws:List V),σ' = [v,some (.int (n:Nat))] /\ Same H1 H' /\ H' Dd = some (.lst ws) /\ Paired (FrV H') ws (nR i fun i=>M i n)) ⟨none,[],rfl,Same.upd hD,zA1,.nil⟩ ?_ ?_ ?_
   ·rintro i σ' H' hi ⟨v,ws,rfl,s2,hd,hW⟩
    exact SqL.of (s2 _ _ ha)
   ·rintro i z σ' H' hz ⟨v,ws,rfl,s2,hd,hW⟩
    obtain ⟨bi,rfl,hbi⟩:=yZ6 hz
    have hil:i < n:=by have:=(List.getElem?_eq_some_iff.mp hbi).1; omega
    obtain ⟨us,u,hus,_,hau,fu⟩:=((hB i bi hbi).same s2).at (j:=n) (by omega)
    have lW:ws.length = i:=hW.length.trans (zP0 i _)
    refine ⟨_,rfl,_,rfl,bi,_,_,_,rfl,rfl,SqL.of hus,hau,_,hd,sz (by omega),_,ws ++ [u],rfl,s2.updD hD,zA1,?_⟩
    rw [zX6]
    have tu:=zC8 (o:=.lst (ws ++ [u])) hd (fun _ z=>nomatch z)
    exact Paired.snoc (Paired.mapP hW fun _ _ f=>f.tup tu) (fu.tup tu)
   ·rintro σ' H2 ⟨v,ws,rfl,s2,hd,hW⟩
    rw [List.length_map,lb] at hW
    have p5:2 ^ n <= 2 ^ 5:=Nat.pow_le_pow_right (by decide) hn
    have p6:2 ^ n * (d + 1) <= 32 * (d + 1):=Nat.mul_le_mul_right _ p5
    obtain ⟨D1,E1,g⟩:=bd
    refine k Dd H2 (fun i=>M i n) hD0 (s1.trans s2) ⟨ws,hd,hW⟩ (yY9 cl kr) ⟨E1,2 ^ y,g.e0,g.ew,Nat.pow_le_pow_right (by decide) (by omega),g.la⟩
noncomputable abbrev zN0:Stmt:=top 16
theorem sc_unmoved:zB5 ["names","rows","name"] ["names"] (zA5 zN0):=⟨rfl,rfl,rfl,by decide +kernel,rfl,by decide +kernel,by decide +kernel⟩
theorem yV9 {ca:Ca} (D:DefAt K mg "unmoved" zN0) (T:Txt K mg ca):FnAt P w K mg base CX0 1 "unmoved" ["names"] (zV9 K):=by
 refine D.ok sc_unmoved (fun vs H Q E h=>?_) (fun _ _ _ _ _ _ us hl=>match us,hl with | [_],_=>rfl) (fun f cdv A outer s H vs Q E hr h=>?_)
 ·obtain ⟨an,L,rfl,hS,hn,h8,k⟩:=h; rfl
 ·obtain ⟨an,L,rfl,hS,hn,h8,k⟩:=h
  have nd:=sc_unmoved.nd
  refine ⟨_,(@zA4 _ _ _ _ _ (@zB1 _ _ 1 _ _ _ _ nd rfl (Or.inl rfl) zF4 (by rfl) (Or.inl rfl))
   (@zA4 _ _ _ _ _ (zD6 PassesOwn.never rfl (zD5 (K:=K) rfl (pv 0)) (zA9 (i:=2) nd rfl (Or.inl rfl)) (@zA6 _ _ _ (zF1 (zE2 hr) (pv 1) (pv 2) (yM7 (yC2 (pv 2) (@zC3 _ _ _ _ _ (@zA0 _ _ _ _ _ zA2 (@zA0 _ _ _ _ _ zA2 zA3 (by rfl)) (by rfl))) yM4) rfl rfl (List.cons_ne_nil _ _) (Nat.le_of_ble_eq_true rfl)) rfl)))
   (@zA6 _ _ _ (zC0 (pv 1))))),?_⟩
  intro p hp
  have tp:=Same.upd (o:=.dK []) hp
  refine ⟨_,rfl,an,rfl,⟨_,tp.seq hS⟩,?_⟩
  refine zF7 (xs:=L.map V.str) (fun i σ H1=>∃ (v2:Option V) (rows:List (Key × V)) (ad:Str->Addr),σ = [some (.ref an),some (.ref p),v2] /\ Same H H1 /\ H1 p = some (.dK rows) /\ TabAt H H1 p rows (L.take i) dlt ad) ⟨none,[],fun _=>0,rfl,tp,zA1,TabAt.nil _ _ _ _ _⟩ ?_ ?_ ?_
  ·rintro i σ H1 hi ⟨v2,rows,ad,rfl,s1,h1,T⟩
   exact s1.seq hS
  ·rintro i x σ H1 hx ⟨v2,rows,ad,rfl,s1,h1,T⟩
   obtain ⟨n,rfl,hi⟩:=zO7 hx
   intro q hq
   refine ⟨_,rfl,sz (by simp),fun f hf=>?_⟩
   have nqf:q ≠ f:=fun e=>by rw [<- e,zA1] at hf; cases hf
   refine ⟨by rw [upd_ne nqf,zA1],[(.inr n,.ref f)],rfl,by simp,?_⟩
   have t3:=((Same.upd (o:=.dK []) hq).trans (Same.upd (o:=.tup [.int 1,.int 1]) hf)).updD (o:=.dK (zJ6 [] [(.inr n,.ref f)])) hq
   have npq:p ≠ q:=zA8 h1 hq
   have len:rows.length <= 8:=by
    rw [T.len (hn.sublist (List.take_sublist _ _)),List.length_take]; omega
   refine ⟨_,rfl,_,rfl,p,upd (upd (upd (upd H1 q (.dK [])) f (.tup [.int 1,.int 1])) q (.dK (zJ6 [] [(.inr n,.ref f)]))) p (.dK (putK rows (.inr n) (.ref q))),rfl,?_,?_⟩
   ·exact DPut.k (k:=.inr n) (t3 _ _ h1) (sz (by omega))
   have hq0:H q = none:=s1.free hq
   have ff:FrV (upd (upd (upd (upd H1 q (.dK [])) f (.tup [.int 1,.int 1])) q (.dK (zJ6 [] [(.inr n,.ref f)]))) p (.dK (putK rows (.inr n) (.ref q)))) (.ref f) 1:=by
    refine ⟨f,rfl,?_⟩
    have npf:f ≠ p:=fun e=>by rw [e,upd_ne npq,h1] at hf; cases hf
    rw [upd_ne npf,upd_ne nqf.symm,zA1]; rfl
   have tt:∀ v r,FrV H1 v r->FrV (upd (upd (upd (upd H1 q (.dK [])) f (.tup [.int 1,.int 1])) q (.dK (zJ6 [] [(.inr n,.ref f)]))) p (.dK (putK rows (.inr n) (.ref q)))) v r:=fun v r g=>(g.same t3).tup (zC8 (t3 _ _ h1) (fun _ z=>nomatch z))
   refine ⟨_,putK rows (.inr n) (.ref q),fun z=>if z = n then q else ad z,rfl,(s1.trans t3).updD hp,zA1,?_⟩
   exact T.put hq0 hq npq.symm (fun c o e n=>by rw [upd_ne n]; exact t3 _ _ e) tt (by rw [upd_ne npq.symm,zA1]) (RowAt.unit n ff) (fun _ _ _=>rfl) (zR5 hi)
  ·rintro σ H1 ⟨v2,rows,ad,rfl,s1,h1,T⟩
   rw [List.length_map,List.take_length] at T
   exact ⟨_,rfl,k p H1 rows ad hp s1 h1 T⟩
noncomputable abbrev zH9:Stmt:=top 17
theorem sc_add_shares:zB5 ["ends","shares","factor","place","share"] ["ends","shares","factor"] (zA5 zH9):=⟨rfl,rfl,rfl,by decide +kernel,rfl,by decide +kernel,by decide +kernel⟩
theorem yC9 {ca:Ca} (D:DefAt K mg "add_shares" zH9) (T:Txt K mg ca) (G_plus:FnAt P w K mg base CX0 2 "plus" ["one","other"] (yH1)) (G_times:FnAt P w K mg base CX0 2 "times" ["one","other"] (spTimes)):FnAt P w K mg base CX0 3 "add_shares" ["ends","shares","factor"] (zW2):=by
 refine D.ok sc_add_shares (fun vs H Q E h=>?_) (fun _ _ _ _ _ _ us hl=>match us,hl with | [_,_,_],_=>rfl) (fun f cdv A outer s H vs Q E hr h=>?_)
 ·obtain ⟨a,b,x,t,kv,ks,e,s,rfl,hab,ha,hb,he,hs,hx,bt,hB,hn,k⟩:=h; rfl
 ·obtain ⟨a,b,x,t,kv,ks,e,s,rfl,hab,ha,hb,he,hs,hx,bt,hB,hn,k⟩:=h
  have nd:=sc_add_shares.nd
  refine ⟨_,(@zA6 _ _ _ (zK2 (zC1 (zQ5 (K:=K) rfl hr) (pv 2) (@zC3 _ _ _ _ _ (@zA0 _ _ _ _ _ zA2 (@zA0 _ _ _ _ _ zA2 zA3 (by rfl)) (by rfl))) (zD3 _)) (@zA6 _ _ _ (zO8 (zD6 PassesOwn.never rfl (zN9 (zM0 (K:=K) rfl PySem.F.plainAttrs_dict PySem.F.slot_dict_items PySem.F.type_dict_items zO0 (pv 1))) (zP9 rfl (zC7 (zA9 (i:=3) nd rfl (Or.inl rfl)) (zC7 (zA9 (i:=4) nd rfl (Or.inl rfl)) zK4))) (@zA6 _ _ _ (zF1 (zE2 hr) (pv 0) (pv 3) (zB7 G_plus hr (by rfl) zB8 (@zA0 _ _ _ _ _ (yC4 (zE2 hr) (pv 0) (pv 3) (@zC3 _ _ _ _ _ (@zA0 _ _ _ _ _ zA2 (@zA0 _ _ _ _ _ zA2 zA3 (by rfl)) (by rfl))) ⟨by rfl,by rfl,by rfl,by rfl⟩) (@zA0 _ _ _ _ _ (zB7 G_times hr (by rfl) zB8 (@zA0 _ _ _ _ _ (pv 4) (@zA0 _ _ _ _ _ (pv 2) zA3 (by rfl)) (by rfl))) zA3 (by rfl)) (by rfl))) rfl))))) zE1)),?_⟩
  refine ⟨_,rfl,sz (by simp),fun p0 hp0=>?_⟩
  have t0:=Same.upd (o:=.tup [.int 0,.int 1]) hp0
  refine ⟨_,_,(hx.same t0).rep,yA0 (SqT.of zA1),zN8 _ _,_,rfl,?_⟩
  have e0:PyData.eqv (pq t.num t.den) (pq 0 1) = decide (t = 0):=by
   rw [yT6]
   exact yT2 t 0
  refine ite2 (fun h=>?_) (fun h=>?_)
  ·have h:(!PyData.eqv (pq t.num t.den) (pq 0 1)) = true:=h
   have ht:t ≠ 0:=by
    rw [e0] at h
    intro z; rw [decide_eq_true z] at h; cases h
   rw [if_neg ht] at k
   have hb1:=t0 _ _ hb
   refine ⟨b,_,hb1,rfl,?_⟩
   refine ⟨_,rfl,.inr (.inr (.inl ⟨rfl,.inl ⟨_,hb1⟩⟩)),b,_,rfl,rfl,hb1,rfl,fun pv hpv=>?_⟩
   have t1:=t0.trans (Same.upd (o:=zQ6 pv b) hpv)
   refine ⟨pv,b,_,rfl,zA1,t1 _ _ hb,rfl,fun o ps hps=>?_⟩
   have hps:ps = ks.map fun kv=>(kV kv.1,kv.2):=hps
   subst hps
   have keepF:∀ {H2:Hp} {v:V} {r:Rat},(∀ c ob,H c = some ob->c ≠ a->c ≠ b->H2 c = some ob)->FrV H v r->FrV H2 v r:=by
    rintro H2 v r hk ⟨c,rfl,hc⟩
    exact ⟨c,rfl,hk c _ hc (zG3 hc ha (by intro z; cases z)) (zG3 hc hb (by intro z; cases z))⟩
   refine zN5 (fun i σ H2=>∃ (v3 v4:Option V) (kv':List (Key × V)),σ = [some (.ref a),some (.ref b),some x,v3,v4] /\ H2 b = some (.frz o (.dK ks)) /\ (∀ c ob,H c = some ob->c ≠ a->c ≠ b->H2 c = some ob) /\ H2 a = some (.dK kv') /\ kv'.length <= kv.length + i /\ RowAt H2 kv' (addF e s t (nms (ks.take i)))) ?_ ?_ ?_ ?_
   ·have h2:∀ c ob,H c = some ob->c ≠ a->c ≠ b->upd (upd (upd H p0 (.tup [.int 0,.int 1])) pv (zQ6 pv b)) b (.frz o (.dK ks)) c = some ob:=fun c ob q _ n=>by rw [upd_ne n]; exact t1 _ _ q
    refine ⟨none,none,kv,rfl,zA1,h2,by rw [upd_ne hab]; exact t1 _ _ ha,Nat.le_refl _,?_⟩
    have ef:addF e s t (nms (ks.take 0)) = e:=by funext z; simp [addF,nms]
    rw [ef]
    exact he.same fun v r f=>keepF h2 f
   ·rintro i σ H2 ⟨_,_,_,_,h,_⟩
    exact h
   ·rintro i k' v T σ H2 hk ⟨v3,v4,kv',rfl,hfb,hkeep,ha2,hl2,hrow⟩ hT
    obtain ⟨kvi,hki,ek⟩:∃ kvi,ks[i]? = some kvi /\ (kV kvi.1,kvi.2) = (k',v):=by
     rw [List.getElem?_map] at hk
     cases q:ks[i]? with
     | none=>rw [q] at hk; cases hk
     | some kvi=>rw [q] at hk; exact ⟨kvi,rfl,Option.some.inj hk⟩
    have hi:i < ks.length:=(List.getElem?_eq_some_iff.mp hki).1
    obtain ⟨z,hz⟩:=hs.keys kvi (List.mem_of_getElem? hki)
    obtain ⟨rfl,rfl⟩:=Prod.mk.inj ek
    have hval:=zK9 hs.nodup hki
    rw [hz] at hval
    obtain ⟨r,hr,fr⟩:∃ r,s z = some r /\ FrV H kvi.2 r:=by
     cases q:s z with
     | none=>rw [hs.not z q] at hval; cases hval
     | some r =>
      obtain ⟨v',h1,h2⟩:=hs.has z r q
      rw [hval] at h1; cases h1
      exact ⟨r,rfl,h2⟩
    have hzn:z ∉ nms (ks.take i):=xB4 hs.nodup hki hz hs.keys
    have t3:=Same.upd (o:=.tup [kV kvi.1,kvi.2]) hT
    refine ⟨T,_,rfl,SqT.of zA1,rfl,_,_,rfl,_,_,rfl,rfl,?_⟩
    have ekv:kV kvi.1 = .str z:=by rw [hz]; rfl
    refine ⟨_,rfl,a,rfl,.inl ⟨kv',.inl (t3 _ _ ha2)⟩,_,rfl,sz (by simp),fun q0 hq0=>?_⟩
    have t4:=t3.trans (Same.upd (o:=.tup [.int 0,.int 1]) hq0)
    refine ⟨valV kv' (.inr z),?_,?_⟩
    ·have g:=DGet.k (k:=kvi.1) (t4 _ _ ha2)
     have e9:valV kv' kvi.1 = valV kv' (.inr z):=by rw [hz]
     rw [e9] at g; exact g
    have fg:∀ {H5:Hp},Same (upd (upd H2 T (.tup [kV kvi.1,kvi.2])) q0 (.tup [.int 0,.int 1])) H5->FrV H5 ((valV kv' (.inr z)).getD (.ref q0)) ((e z).getD 0):=by
     intro H5 s5
     have ez:addF e s t (nms (ks.take i)) z = e z:=by unfold addF; rw [if_neg hzn]
     cases q:e z with
     | none =>
      rw [hrow.not z (ez.trans q)]
      exact (FrV.newOf (r:=0) rfl rfl).same s5
     | some r' =>
      obtain ⟨v',h1,h2⟩:=hrow.has z r' (ez.trans q)
      rw [h1]
      exact (h2.same t4).same s5
    obtain ⟨b1,b2⟩:=hB z
    have er:(s z).getD 0 = r:=by rw [hr]; rfl
    rw [er] at b2
    refine ⟨_,rfl,_,rfl,spTimes.of (E:=E0) rfl ((keepF hkeep fr).same t4) ((keepF hkeep hx).same t4) (b2.mono (by decide)) (bt.mono (by decide)) fun v5 H5 s5 f5=>?_⟩
    refine ⟨_,_,(e z).getD 0,r * t,rfl,fg s5,f5,b1.mono (by decide),(b2.mul bt).mono (by decide),fun v6 H6 s6 f6=>?_⟩
    have t6:=t4.trans (s5.trans s6)
    refine ⟨_,rfl,_,rfl,a,upd H6 a (.dK (putK kv' (.inr z) v6)),rfl,?_,?_⟩
    ·have g:=DPut.k (k:=kvi.1) (v:=v6) (t6 _ _ ha2) (sz (by omega))
     have e9:putK kv' kvi.1 v6 = putK kv' (.inr z) v6:=by rw [hz]
     rw [e9] at g; exact g
    refine ⟨_,_,putK kv' (.inr z) v6,rfl,by rw [upd_ne hab.symm]; exact t6 _ _ hfb,fun c ob q n1 n2=>by rw [upd_ne n1]; exact t6 _ _ (hkeep c ob q n1 n2),zA1,?_,?_⟩
    ·have:=zF6 kv' (.inr z) v6
     omega
    ·have row:=((hrow.same fun v r f=>f.same t6).put (z:=z) f6).same (H':=upd H6 a (.dK (putK kv' (.inr z) v6))) fun v r f=>by
      obtain ⟨c,rfl,hc⟩:=f
      exact ⟨c,rfl,by rw [upd_ne (zG3 hc (t6 _ _ ha2) (by intro z; cases z))]; exact hc⟩
     have ef:addF e s t (nms (ks.take (i + 1))) = fun y=>if y = z then some ((e z).getD 0 + r * t) else addF e s t (nms (ks.take i)) y:=by
      funext y
      have en:nms (ks.take (i + 1)) = nms (ks.take i) ++ [z]:=by
       unfold nms
       rw [List.take_add_one,hki,List.map_append]
       show _ ++ [nmz kvi.1] = _
       rw [hz]; rfl
      unfold addF
      rw [en]
      by_cases ey:y = z
      ·subst ey; simp [er]
      ·simp [ey]
     rw [ef]
     exact row
   ·rintro σ H2 ⟨v3,v4,kv',rfl,hfb,hkeep,ha2,hl2,hrow⟩
    rw [List.length_map] at hl2 hrow
    rw [List.take_length] at hrow
    have hk2:∀ c ob,H c = some ob->c ≠ a->upd H2 b (.dK ks) c = some ob:=fun c ob q n=>by
     by_cases z:c = b
     ·subst z; rw [zA1]; rw [hb] at q; exact q
     ·rw [upd_ne z]; exact hkeep c ob q n z
    refine ⟨o,_,hfb,k _ kv' hk2 (by rw [upd_ne hab]; exact ha2) hl2 ?_⟩
    have ef:addF e s t (nms ks) = fun z=>if (s z).isSome = true then some ((e z).getD 0 + (s z).getD 0 * t) else e z:=by
     funext z
     unfold addF
     by_cases q:z ∈ nms ks
     ·obtain ⟨kvi,hm,ez⟩:=List.mem_map.mp q
      obtain ⟨y,hy⟩:=hs.keys kvi hm
      obtain ⟨j,hj,ej⟩:=List.getElem_of_mem hm
      have hval:=zK9 hs.nodup (i:=j) (p:=kvi) (by rw [List.getElem?_eq_getElem hj,ej])
      have eyz:y = z:=by rw [hy] at ez; exact ez
      rw [hy,eyz] at hval
      cases q2:s z with
      | none=>rw [hs.not z q2] at hval; cases hval
      | some r=>simp [q]
     ·cases q2:s z with
      | none=>simp [q]
      | some r =>
       obtain ⟨v',h1,_⟩:=hs.has z r q2
       exact absurd (zT3 h1) q
    rw [<- ef]
    refine hrow.same fun v r f=>?_
    obtain ⟨c,rfl,hc⟩:=f
    exact ⟨c,rfl,by rw [upd_ne (zG3 hc hfb (by intro z; cases z))]; exact hc⟩
  ·have h:¬ (!PyData.eqv (pq t.num t.den) (pq 0 1)) = true:=h
   have ht:t = 0:=by
    rw [e0] at h
    by_cases z:t = 0
    ·exact z
    ·rw [decide_eq_false z] at h; exact absurd rfl h
   rw [if_pos ht] at k
   exact k _ kv (fun c ob q _=>t0 _ _ q) (t0 _ _ ha) (by omega) (he.same fun v r f=>f.same t0)
noncomputable abbrev zP5:Stmt:=top 18
theorem sc_passed:zB5 ["rows","step","ends"] ["rows","step"] (zA5 zP5):=⟨rfl,rfl,rfl,by decide +kernel,rfl,by decide +kernel,by decide +kernel⟩
theorem xB1 {ca:Ca} (D:DefAt K mg "passed" zP5) (T:Txt K mg ca) (G_add_shares:FnAt P w K mg base CX0 3 "add_shares" ["ends","shares","factor"] (zW2)) (G_minus:FnAt P w K mg base CX0 3 "minus" ["one","other"] (yB7)):FnAt P w K mg base CX0 4 "passed" ["rows","step"] (yB5):=by
 refine D.ok sc_passed (fun vs H Q E h=>?_) (fun _ _ _ _ _ _ us hl=>match us,hl with | [_,_],_=>rfl) (fun f cdv A outer s H vs Q E hr h=>?_)
 ·obtain ⟨rw0,st,ax,ay,x,y,fr,t,rows,kx,ky,fx,fy,rfl,hrw,hst,hfr,vx,hax,rx,vy,hay,ry,bt,bt1,hB,hn,k⟩:=h; rfl
 ·obtain ⟨rw0,st,ax,ay,x,y,fr,t,rows,kx,ky,fx,fy,rfl,hrw,hst,hfr,vx,hax,rx,vy,hay,ry,bt,bt1,hB,hn,k⟩:=h
  have nd:=sc_passed.nd
  refine ⟨_,(@zA4 _ _ _ _ _ (@zB1 _ _ 2 _ _ _ _ nd rfl (Or.inl rfl) zF4 (by rfl) (Or.inl rfl))
   (@zA4 _ _ _ _ _ (zK3 (zB7 G_add_shares hr (by rfl) zB8 (@zA0 _ _ _ _ _ (pv 2) (@zA0 _ _ _ _ _ (zF5 (zE2 hr) (pv 0) (zB4 (zA7 (K:=K) rfl) (pv 1) zA2 (fun _ _=>rfl)) (fun _ _=>rfl)) (@zA0 _ _ _ _ _ (zB7 G_minus hr (by rfl) zB8 (@zA0 _ _ _ _ _ (@zC3 _ _ _ _ _ (@zA0 _ _ _ _ _ zA2 (@zA0 _ _ _ _ _ zA2 zA3 (by rfl)) (by rfl))) (@zA0 _ _ _ _ _ (zB4 (zA7 (K:=K) rfl) (pv 1) zA2 (fun _ _=>rfl)) zA3 (by rfl)) (by rfl))) zA3 (by rfl)) (by rfl)) (by rfl))))
   (@zA4 _ _ _ _ _ (zK3 (zB7 G_add_shares hr (by rfl) zB8 (@zA0 _ _ _ _ _ (pv 2) (@zA0 _ _ _ _ _ (zF5 (zE2 hr) (pv 0) (zB4 (zA7 (K:=K) rfl) (pv 1) zA2 (fun _ _=>rfl)) (fun _ _=>rfl)) (@zA0 _ _ _ _ _ (zB4 (zA7 (K:=K) rfl) (pv 1) zA2 (fun _ _=>rfl)) zA3 (by rfl)) (by rfl)) (by rfl))))
   (@zA6 _ _ _ (zC0 (pv 2)))))),?_⟩
  intro p hp
  have tp:=Same.upd (o:=.dK []) hp
  have npx:p ≠ ax:=(zA8 hax hp).symm
  have npy:p ≠ ay:=(zA8 hay hp).symm
  refine ⟨_,rfl,_,rfl,_,rfl,st,_,_,_,rfl,rfl,SqT.of (tp _ _ hst),rfl,rw0,.ref ax,rfl,?_,?_⟩
  ·have g:=DGet.k (k:=.inr x) (tp _ _ hrw)
   rw [vx] at g; exact g
  refine ⟨sz (by simp),fun q hq=>?_⟩
  have t1:=tp.trans (Same.upd (o:=.tup [.int 1,.int 1]) hq)
  refine ⟨_,rfl,st,_,_,_,rfl,rfl,SqT.of (t1 _ _ hst),rfl,?_⟩
  refine ⟨_,_,1,t,rfl,FrV.newOf rfl rfl,hfr.same t1,⟨by decide,by decide⟩,bt.mono (by decide),fun v1 H1 s1 f1=>?_⟩
  have u1:=t1.trans s1
  have hp1:H1 p = some (.dK []):=s1 _ _ ((Same.upd (o:=.tup [.int 1,.int 1]) hq) _ _ zA1)
  refine ⟨p,ax,v1,1 - t,[],kx,fun _=>none,fx,rfl,npx,hp1,u1 _ _ hax,RowAt.nil _,rx.same fun v r f=>f.same u1,f1,bt1,fun z=>⟨(show Bd 3500 (0:Rat) from ⟨by decide,by decide⟩),(hB z).1⟩,by simp only [List.length_nil]; omega,fun H2 kv2 k2 hp2 l2 r2=>?_⟩
  have u2:Same H H2:=fun c ob e=>k2 c ob (u1 c ob e) (zA8 e hp)
  refine ⟨_,rfl,_,rfl,_,rfl,st,_,_,_,rfl,rfl,SqT.of (u2 _ _ hst),rfl,rw0,.ref ay,rfl,?_,?_⟩
  ·have g:=DGet.k (k:=.inr y) (u2 _ _ hrw)
   rw [vy] at g; exact g
  refine ⟨_,rfl,st,_,_,_,rfl,rfl,SqT.of (u2 _ _ hst),rfl,?_⟩
  have l2:kv2.length <= kx.length:=by simpa using l2
  refine ⟨p,ay,fr,t,kv2,ky,_,fy,rfl,npy,hp2,u2 _ _ hay,r2,ry.same fun v r f=>f.same u2,hfr.same u2,bt,fun z=>⟨(hB z).2.2,(hB z).2.1⟩,by omega,fun H3 kv3 k3 hp3 l3 r3=>?_⟩
  have u3:Same H H3:=fun c ob e=>k3 c ob (u2 c ob e) (zA8 e hp)
  exact ⟨_,rfl,k p H3 kv3 hp u3 hp3 (by omega) r3⟩
noncomputable abbrev zS5:Stmt:=top 19
theorem sc_table:zB5 ["names","steps","rows","step"] ["names","steps"] (zA5 zS5):=⟨rfl,rfl,rfl,by decide +kernel,rfl,by decide +kernel,by decide +kernel⟩
theorem xH9 {ca:Ca} (D:DefAt K mg "table" zS5) (T:Txt K mg ca) (G_unmoved:FnAt P w K mg base CX0 1 "unmoved" ["names"] (zV9 K)) (G_passed:FnAt P w K mg base CX0 4 "passed" ["rows","step"] (yB5)):FnAt P w K mg base CX0 5 "table" ["names","steps"] (xS8 K):=by
 refine D.ok sc_table (fun vs H Q E h=>?_) (fun _ _ _ _ _ _ us hl=>match us,hl with | [_,_],_=>rfl) (fun f cdv A outer s H vs Q E hr h=>?_)
 ·obtain ⟨an,as,L,xs,ss,rfl,hS,hn,h8,hX,hP,hO,h40,k⟩:=h; rfl
 ·obtain ⟨an,as,L,xs,ss,rfl,hS,hn,h8,hX,hP,hO,h40,k⟩:=h
  have nd:=sc_table.nd
  refine ⟨_,(@zA4 _ _ _ _ _ (@zB1 _ _ 2 _ _ _ _ nd rfl (Or.inl rfl) (zB7 G_unmoved hr (by rfl) zB8 (@zA0 _ _ _ _ _ (pv 0) zA3 (by rfl))) (by rfl) (Or.inl rfl))
   (@zA4 _ _ _ _ _ (zD6 PassesOwn.never rfl (xL9 (K:=K) rfl (by rfl) T.z_reversed (@zA0 _ _ _ _ _ (pv 1) zA3 (by rfl))) (zA9 (i:=3) nd rfl (Or.inl rfl)) (@zA6 _ _ _ (zK2 (zC1 zT0 (zB4 (zA7 (K:=K) rfl) (pv 3) zA2 (fun _ _=>rfl)) zF3 (zD3 _)) (@zA6 _ _ _ (zF1 (zE2 hr) (pv 2) (zB4 (zA7 (K:=K) rfl) (pv 3) zA2 (fun _ _=>rfl)) (zB7 G_passed hr (by rfl) zB8 (@zA0 _ _ _ _ _ (pv 2) (@zA0 _ _ _ _ _ (pv 3) zA3 (by rfl)) (by rfl))) rfl)) zE1)))
   (@zA6 _ _ _ (zC0 (pv 2))))),?_⟩
  have hlen:xs.length = ss.length:=hP.length
  refine ⟨_,rfl,an,L,rfl,hS,hn,h8,fun p H1 rows0 ad0 hp s1 h1 T1=>?_⟩
  refine ⟨_,rfl,as,xs,rfl,s1.seq hX,?_⟩
  refine xD6 (xs:=xs) (fun j σ H2=>∃ (v3:Option V) (rows:List (Key × V)) (ad:Str->Addr),σ = [some (.ref an),some (.ref as),some (.ref p),v3] /\ Same H H2 /\ H2 p = some (.dK rows) /\ TabAt H H2 p rows L (back (ss.drop j)) ad) ⟨none,rows0,ad0,rfl,s1,h1,by rw [hlen,List.drop_length]; exact T1⟩ ?_ ?_ ?_
  ·rintro j σ H2 hj ⟨v3,rows,ad,rfl,s2,h2,T⟩
   exact s2.seq hX
  ·rintro j x σ H2 hx ⟨v3,rows,ad,rfl,s2,h2,T⟩
   obtain ⟨st,hst,sv⟩:=zC4 hP hx
   have hj:j < ss.length:=(List.getElem?_eq_some_iff.mp hst).1
   have ed:ss.drop j = st :: ss.drop (j + 1):=by
    rw [List.drop_eq_getElem_cons hj,(List.getElem?_eq_some_iff.mp hst).2]
   have hOd:∀ s ∈ ss.drop j,OkS L s:=fun s hs=>hO s (List.mem_of_mem_drop hs)
   have hOd1:∀ s ∈ ss.drop (j + 1),OkS L s:=fun s hs=>hO s (List.mem_of_mem_drop hs)
   cases st with
   | br z yr x0 q0 =>
    obtain ⟨a,l,f,rfl,ha,hl,hf⟩:=sv
    refine ⟨_,rfl,a,_,_,_,rfl,rfl,SqT.of (s2 _ _ ha),rfl,rfl,_,rfl,?_⟩
    refine zM1 (by decide +kernel) ?_
    refine ⟨_,rows,ad,rfl,s2,h2,?_⟩
    rw [ed]; exact T
   | ps x0 y0 t =>
    obtain ⟨a,f,rfl,ha,hf⟩:=sv
    obtain ⟨hx0,hy0,hxy,t0,t1,td⟩:=hO _ (List.mem_of_getElem? hst)
    refine ⟨_,rfl,a,_,_,_,rfl,rfl,SqT.of (s2 _ _ ha),rfl,rfl,_,rfl,?_⟩
    refine zO2 rfl ?_
    have G:=zE3 hn hOd1
    have B:=zW6 hOd (by rw [List.length_drop]; omega) (k:=1) (by decide)
    rw [ed] at B
    have B:1 * (zC5 (ss.drop (j + 1)) * t.den) < 2 ^ 2600:=B
    have B0:=zW6 hOd1 (by rw [List.length_drop]; omega) (k:=1) (by decide)
    have P0:=zG4 (ss.drop (j + 1))
    have Pd:0 < zC5 (ss.drop (j + 1)) * t.den:=Nat.mul_pos P0 t.den_pos
    obtain ⟨vx,_,kx,hax,rx⟩:=T.row x0 hx0
    obtain ⟨vy,_,ky,hay,ry⟩:=T.row y0 hy0
    have lx:=rx.len (G.sup x0 hx0)
    have ly:=ry.len (G.sup y0 hy0)
    have bs:=Bd.share t0 t1 td
    let R:=back (ss.drop (j + 1))
    have ea:addR (fun _=>none) (op (R x0)) (1 - t) = op fun z=>0 + R x0 z * (1 - t):=by
     rw [<- xA7]
     exact yG0 (fun _=>Rat.le_refl) (fun z=>(G.part x0 hx0 z).1) (zM8 t1)
    have eb:addR (addR (fun _=>none) (op (R x0)) (1 - t)) (op (R y0)) t = op (bw x0 y0 t R x0):=by
     rw [ea,yG0 (fun z=>by rw [Rat.zero_add]; exact Rat.mul_nonneg (G.part x0 hx0 z).1 (zM8 t1)) (fun z=>(G.part y0 hy0 z).1) t0]
     unfold bw
     rw [if_pos rfl]
     congr 1
     funext z
     rw [Rat.zero_add]
    refine ⟨_,rfl,_,rfl,p,a,ad x0,ad y0,x0,y0,f,t,rows,kx,ky,op (R x0),op (R y0),rfl,h2,s2 _ _ ha,hf.same s2,vx,hax,rx,vy,hay,ry,bs.1.mono (by decide),bs.2.mono (by decide),fun z=>⟨?_,?_,?_⟩,by omega,fun q H3 kv3 hq s3 h3 l3 r3=>?_⟩
    ·rw [zO9]; exact ((G.part x0 hx0 z).bd P0 (Nat.le_refl _) B0).mono (by decide)
    ·rw [zO9]; exact ((G.part y0 hy0 z).bd P0 (Nat.le_refl _) B0).mono (by decide)
    ·rw [ea,zO9,Rat.zero_add]; exact (((G.part x0 hx0 z).mulR t0 t1).bd Pd (Nat.le_refl _) B).mono (by decide)
    rw [eb] at r3
    have len:=T.len hn
    have npq:p ≠ q:=zA8 h2 hq
    refine ⟨_,rfl,_,rfl,a,_,_,_,rfl,rfl,SqT.of (s3 _ _ (s2 _ _ ha)),rfl,p,upd H3 p (.dK (putK rows (.inr x0) (.ref q))),rfl,?_,?_⟩
    ·exact DPut.k (k:=.inr x0) (s3 _ _ h2) (sz (by omega))
    have tt:∀ v r,FrV H3 v r->FrV (upd H3 p (.dK (putK rows (.inr x0) (.ref q)))) v r:=fun v r g=>g.tup (zC8 (s3 _ _ h2) (fun _ z=>nomatch z))
    refine ⟨_,putK rows (.inr x0) (.ref q),fun z=>if z = x0 then q else ad z,rfl,(s2.trans s3).updD hp,zA1,?_⟩
    rw [ed]
    refine T.put (R':=bw x0 y0 t R) (s2.free hq) hq npq.symm (fun c o e n=>by rw [upd_ne n]; exact s3 _ _ e) (fun v r g=>tt v r (g.same s3)) (by rw [upd_ne npq.symm]; exact h3) (r3.same tt) (fun m _ e=>?_) (fun z=>⟨.inl,fun e=>?_⟩)
    ·unfold bw; rw [if_neg e]
    ·rcases e with e | e
     ·exact e
     ·rw [e]; exact hx0
  ·rintro σ H2 ⟨v3,rows,ad,rfl,s2,h2,T⟩
   rw [List.drop_zero] at T
   exact ⟨_,rfl,k p H2 rows ad hp s2 h2 T⟩
noncomputable abbrev zN2:Stmt:=top 20
theorem sc_brought:zB5 ["names","steps","rows","told","step"] ["names","steps"] (zA5 zN2):=⟨rfl,rfl,rfl,by decide +kernel,rfl,by decide +kernel,by decide +kernel⟩
theorem yW1 {ca:Ca} (D:DefAt K mg "brought" zN2) (T:Txt K mg ca) (G_unmoved:FnAt P w K mg base CX0 1 "unmoved" ["names"] (zV9 K)) (G_passed:FnAt P w K mg base CX0 4 "passed" ["rows","step"] (yB5)):FnAt P w K mg base CX0 5 "brought" ["names","steps"] (yH4 K):=by
 refine D.ok sc_brought (fun vs H Q E h=>?_) (fun _ _ _ _ _ _ us hl=>match us,hl with | [_,_],_=>rfl) (fun f cdv A outer s H vs Q E hr h=>?_)
 ·obtain ⟨an,as,L,xs,ss,rfl,hS,hn,h8,hX,hP,hO,h64,k⟩:=h; rfl
 ·obtain ⟨an,as,L,xs,ss,rfl,hS,hn,h8,hX,hP,hO,h64,k⟩:=h
  have nd:=sc_brought.nd
  refine ⟨_,(@zA4 _ _ _ _ _ (@zB1 _ _ 2 _ _ _ _ nd rfl (Or.inl rfl) (zB7 G_unmoved hr (by rfl) zB8 (@zA0 _ _ _ _ _ (pv 0) zA3 (by rfl))) (by rfl) (Or.inl rfl))
   (@zA4 _ _ _ _ _ (@zB1 _ _ 3 _ _ _ _ nd rfl (Or.inl rfl) (@zK8 _ _ _ _ zA3) (by rfl) (Or.inl rfl))
   (@zA4 _ _ _ _ _ (zD6 PassesOwn.never rfl (xL9 (K:=K) rfl (by rfl) T.z_reversed (@zA0 _ _ _ _ _ (pv 1) zA3 (by rfl))) (zA9 (i:=4) nd rfl (Or.inl rfl)) (@zA6 _ _ _ (zK2 (zC1 zT0 (zB4 (zA7 (K:=K) rfl) (pv 4) zA2 (fun _ _=>rfl)) zF3 (zD3 _)) (@zA6 _ _ _ (zF1 (zE2 hr) (pv 2) (zB4 (zA7 (K:=K) rfl) (pv 4) zA2 (fun _ _=>rfl)) (zB7 G_passed hr (by rfl) zB8 (@zA0 _ _ _ _ _ (pv 2) (@zA0 _ _ _ _ _ (pv 4) zA3 (by rfl)) (by rfl))) rfl)) (@zA6 _ _ _ (zK3 (yC5 PySem.F.plainAttrs_list PySem.F.slot_list_append PySem.F.type_list_append zJ4 (pv 3) (@zA0 _ _ _ _ _ (@zC3 _ _ _ _ _ (@zA0 _ _ _ _ _ (zB4 (zA7 (K:=K) rfl) (pv 4) zA2 (fun _ _=>rfl)) (@zA0 _ _ _ _ _ (zB4 (zA7 (K:=K) rfl) (pv 4) zA2 (fun _ _=>rfl)) (@zA0 _ _ _ _ _ (zJ3 zT8 (by rfl) T.z_dict yF5 (@zA0 _ _ _ _ _ (zF5 (zE2 hr) (pv 2) (zB4 (zA7 (K:=K) rfl) (pv 4) zA2 (fun _ _=>rfl)) (fun _ _=>rfl)) zA3 (by rfl))) zA3 (by rfl)) (by rfl)) (by rfl))) zA3 (by rfl))))))))
   (@zA4 _ _ _ _ _ (zK3 (zM0 (K:=K) rfl PySem.F.plainAttrs_list PySem.F.slot_list_reverse PySem.F.type_list_reverse yW3 (pv 3)))
   (@zA6 _ _ _ (zC0 (pv 3))))))),?_⟩
  have hlen:xs.length = ss.length:=hP.length
  refine ⟨_,rfl,an,L,rfl,hS,hn,h8,fun p H1 rows0 ad0 hp s1 h1 T1=>?_⟩
  refine ⟨sz (by simp),fun pt hpt=>?_⟩
  have tt0:=Same.upd (o:=.lst []) hpt
  have hpt0:H pt = none:=s1.free hpt
  have s1t:=s1.trans tt0
  refine ⟨_,rfl,as,xs,rfl,s1t.seq hX,?_⟩
  refine xD6 (xs:=xs) (fun j σ H2=>∃ (v4:Option V) (rows:List (Key × V)) (ad:Str->Addr) (ys:List V) (tds:List (Br × Addr)),σ = [some (.ref an),some (.ref as),some (.ref p),some (.ref pt),v4] /\ Same H H2 /\ H2 p = some (.dK rows) /\ TabAt H H2 p rows L (back (ss.drop j)) ad /\ H2 pt = some (.lst ys) /\ Paired (BrV H2) ys tds /\ tds.map (·.1) = (brL (ss.drop j)).reverse /\ (tds.map (·.2)).Nodup /\ (∀ d ∈ tds.map (·.2),H d = none /\ d ≠ p)) ⟨none,rows0,ad0,[],[],rfl,s1t,tt0 _ _ h1,by rw [hlen,List.drop_length]; exact T1.same tt0,zA1,.nil,by rw [hlen,List.drop_length]; rfl,List.nodup_nil,(fun _ z=>nomatch z)⟩ ?_ ?_ ?_
  ·rintro j σ H2 hj ⟨v4,rows,ad,ys,tds,rfl,s2,h2,T,ht,hB,hm,hnd,hfr⟩
   exact s2.seq hX
  ·rintro j x σ H2 hx ⟨v4,rows,ad,ys,tds,rfl,s2,h2,T,ht,hB,hm,hnd,hfr⟩
   obtain ⟨st,hst,sv⟩:=zC4 hP hx
   have hj:j < ss.length:=(List.getElem?_eq_some_iff.mp hst).1
   have ed:ss.drop j = st :: ss.drop (j + 1):=by
    rw [List.drop_eq_getElem_cons hj,(List.getElem?_eq_some_iff.mp hst).2]
   have hOd:∀ s ∈ ss.drop j,OkS L s:=fun s hs=>hO s (List.mem_of_mem_drop hs)
   have hOd1:∀ s ∈ ss.drop (j + 1),OkS L s:=fun s hs=>hO s (List.mem_of_mem_drop hs)
   have hyl:ys.length <= 64:=by
    have e1:=hB.length
    have e2:=congrArg List.length hm
    rw [List.length_map,List.length_reverse] at e2
    have e3:=zY2 (ss.drop (j + 1))
    rw [List.length_drop] at e3
    omega
   cases st with
   | br z yr x0 q0 =>
    obtain ⟨a,l,f,rfl,ha,hl,hf⟩:=sv
    have hx0:x0 ∈ L:=(hO _ (List.mem_of_getElem? hst)).1
    have ha2:=s2 _ _ ha
    obtain ⟨vx,fx0,kx,hax,rx⟩:=T.row x0 hx0
    refine ⟨_,rfl,a,_,_,_,rfl,rfl,SqT.of ha2,rfl,rfl,_,rfl,?_⟩
    refine zM1 (by decide +kernel) ?_
    refine ⟨_,rfl,.inl ⟨rfl,_,SqL.of ht⟩,_,rfl,a,_,_,_,rfl,rfl,SqT.of ha2,rfl,_,rfl,a,_,_,_,rfl,rfl,SqT.of ha2,rfl,_,rfl,_,rfl,a,_,_,_,rfl,rfl,SqT.of ha2,rfl,p,.ref (ad x0),rfl,?_,ad x0,kx,rfl,hax,fun d hd=>⟨sz (by simp),fun t ht'=>?_⟩⟩
    ·have g:=DGet.k (k:=.inr x0) h2
     rw [vx] at g; exact g
    have u1:=Same.upd (o:=.dK kx) hd
    have u2:=Same.upd (o:=.tup [.ref l,f,.ref d]) ht'
    have u12:=u1.trans u2
    have ht3:=u12 _ _ ht
    refine ⟨pt,_,_,rfl,rfl,ht3,sz (by omega),?_⟩
    have tu:=zC8 (o:=.lst (ys ++ [.ref t])) ht3 (fun _ z=>nomatch z)
    have npt:p ≠ pt:=zG3 h2 ht (by intro z; cases z)
    have dk:∀ c kvs,H2 c = some (.dK kvs)->upd (upd (upd H2 d (.dK kx)) t (.tup [.ref l,f,.ref d])) pt (.lst (ys ++ [.ref t])) c = some (.dK kvs):=fun c kvs e=>by
     rw [upd_ne (zG3 (u12 _ _ e) ht3 (by intro z; cases z))]; exact u12 _ _ e
    have tk:∀ c m,H2 c = some (.tup m)->upd (upd (upd H2 d (.dK kx)) t (.tup [.ref l,f,.ref d])) pt (.lst (ys ++ [.ref t])) c = some (.tup m):=fun c m e=>tu _ _ (u12 _ _ e)
    have ndp:d ≠ pt:=fun e=>by rw [e,ht] at hd; cases hd
    refine ⟨_,rows,ad,ys ++ [.ref t],tds ++ [(⟨z,yr,q0,back (ss.drop (j + 1)) x0⟩,d)],rfl,(s2.trans u12).updD hpt0,dk _ _ h2,?_,zA1,?_,?_,?_,?_⟩
    ·rw [ed]
     refine ⟨T.nodup,T.keys,fun n hn=>?_,T.inj,T.apart⟩
     obtain ⟨a1,a2,kv,a3,a4⟩:=T.row n hn
     exact ⟨a1,a2,kv,dk _ _ a3,a4.same fun v r g=>g.tup tk⟩
    ·refine Paired.snoc (Paired.mapP hB fun _ bd b=>b.keep tk (dk bd.2)) ?_
     exact ⟨t,l,f,kx,rfl,tu _ _ zA1,tk _ _ (s2 _ _ hl),(hf.same s2).tup tk,by rw [upd_ne ndp]; exact u2 _ _ zA1,rx.same fun v r g=>g.tup tk⟩
    ·rw [List.map_append,hm,ed]
     show _ = ((⟨z,yr,q0,back (ss.drop (j + 1)) x0⟩:Br) :: brL (ss.drop (j + 1))).reverse
     rw [List.reverse_cons]; rfl
    ·rw [List.map_append]
     refine List.nodup_append.mpr ⟨hnd,by simp,fun d1 h1 d2 h2' e=>?_⟩
     have h2':d2 = d:=List.mem_singleton.mp h2'
     obtain ⟨bd,hbd,e1⟩:=List.mem_map.mp h1
     obtain ⟨x',_,a',l',f',kvs',_,_,_,_,e4,_⟩:=yM9 hB hbd
     rw [e1,e,h2',hd] at e4; cases e4
    ·intro d1 h1
     rw [List.map_append] at h1
     rcases List.mem_append.mp h1 with e | e
     ·exact hfr d1 e
     ·have e:d1 = d:=List.mem_singleton.mp e
      rw [e]; exact ⟨s2.free hd,(zA8 h2 hd).symm⟩
   | ps x0 y0 t =>
    obtain ⟨a,f,rfl,ha,hf⟩:=sv
    obtain ⟨hx0,hy0,hxy,t0,t1,td⟩:=hO _ (List.mem_of_getElem? hst)
    refine ⟨_,rfl,a,_,_,_,rfl,rfl,SqT.of (s2 _ _ ha),rfl,rfl,_,rfl,?_⟩
    refine zO2 rfl ?_
    have G:=zE3 hn hOd1
    have B:=zW6 hOd (by rw [List.length_drop]; omega) (k:=1) (by decide)
    rw [ed] at B
    have B:1 * (zC5 (ss.drop (j + 1)) * t.den) < 2 ^ 2600:=B
    have B0:=zW6 hOd1 (by rw [List.length_drop]; omega) (k:=1) (by decide)
    have P0:=zG4 (ss.drop (j + 1))
    have Pd:0 < zC5 (ss.drop (j + 1)) * t.den:=Nat.mul_pos P0 t.den_pos
    obtain ⟨vx,_,kx,hax,rx⟩:=T.row x0 hx0
    obtain ⟨vy,_,ky,hay,ry⟩:=T.row y0 hy0
    have lx:=rx.len (G.sup x0 hx0)
    have ly:=ry.len (G.sup y0 hy0)
    have bs:=Bd.share t0 t1 td
    let R:=back (ss.drop (j + 1))
    have ea:addR (fun _=>none) (op (R x0)) (1 - t) = op fun z=>0 + R x0 z * (1 - t):=by
     rw [<- xA7]
     exact yG0 (fun _=>Rat.le_refl) (fun z=>(G.part x0 hx0 z).1) (zM8 t1)
    have eb:addR (addR (fun _=>none) (op (R x0)) (1 - t)) (op (R y0)) t = op (bw x0 y0 t R x0):=by
     rw [ea,yG0 (fun z=>by rw [Rat.zero_add]; exact Rat.mul_nonneg (G.part x0 hx0 z).1 (zM8 t1)) (fun z=>(G.part y0 hy0 z).1) t0]
     unfold bw
     rw [if_pos rfl]
     congr 1
     funext z
     rw [Rat.zero_add]
    refine ⟨_,rfl,_,rfl,p,a,ad x0,ad y0,x0,y0,f,t,rows,kx,ky,op (R x0),op (R y0),rfl,h2,s2 _ _ ha,hf.same s2,vx,hax,rx,vy,hay,ry,bs.1.mono (by decide),bs.2.mono (by decide),fun z=>⟨?_,?_,?_⟩,by omega,fun q H3 kv3 hq s3 h3 l3 r3=>?_⟩
    ·rw [zO9]; exact ((G.part x0 hx0 z).bd P0 (Nat.le_refl _) B0).mono (by decide)
    ·rw [zO9]; exact ((G.part y0 hy0 z).bd P0 (Nat.le_refl _) B0).mono (by decide)
    ·rw [ea,zO9,Rat.zero_add]; exact (((G.part x0 hx0 z).mulR t0 t1).bd Pd (Nat.le_refl _) B).mono (by decide)
    rw [eb] at r3
    have len:=T.len hn
    have npq:p ≠ q:=zA8 h2 hq
    refine ⟨_,rfl,_,rfl,a,_,_,_,rfl,rfl,SqT.of (s3 _ _ (s2 _ _ ha)),rfl,p,upd H3 p (.dK (putK rows (.inr x0) (.ref q))),rfl,?_,?_⟩
    ·exact DPut.k (k:=.inr x0) (s3 _ _ h2) (sz (by omega))
    have tu:=zC8 (o:=.dK (putK rows (.inr x0) (.ref q))) (s3 _ _ h2) (fun _ z=>nomatch z)
    have tt:∀ v r,FrV H3 v r->FrV (upd H3 p (.dK (putK rows (.inr x0) (.ref q)))) v r:=fun v r g=>g.tup tu
    refine ⟨_,putK rows (.inr x0) (.ref q),fun z=>if z = x0 then q else ad z,ys,tds,rfl,(s2.trans s3).updD hp,zA1,?_,?_,?_,?_,hnd,hfr⟩
    ·rw [ed]
     refine T.put (R':=bw x0 y0 t R) (s2.free hq) hq npq.symm (fun c o e n=>by rw [upd_ne n]; exact s3 _ _ e) (fun v r g=>tt v r (g.same s3)) (by rw [upd_ne npq.symm]; exact h3) (r3.same tt) (fun m _ e=>?_) (fun z=>⟨.inl,fun e=>?_⟩)
     ·unfold bw; rw [if_neg e]
     ·rcases e with e | e
      ·exact e
      ·rw [e]; exact hx0
    ·rw [upd_ne (zG3 ht h2 (by intro z; cases z))]; exact s3 _ _ ht
    ·refine yV5 hB fun _ bd hbd b=>b.keep (fun c m e=>tu _ _ (s3 _ _ e)) fun kvs e=>?_
     rw [upd_ne (hfr bd.2 (List.mem_map.mpr ⟨bd,hbd,rfl⟩)).2]; exact s3 _ _ e
    ·rw [ed]; exact hm
  ·rintro σ H2 ⟨v4,rows,ad,ys,tds,rfl,s2,h2,T,ht,hB,hm,hnd,hfr⟩
   rw [List.drop_zero] at hm
   refine ⟨_,rfl,.inl ⟨rfl,_,SqL.of ht⟩,pt,ys,rfl,rfl,ht,?_⟩
   refine ⟨_,rfl,k pt _ ys.reverse tds.reverse hpt0 (s2.updD hpt0) zA1 ?_ ?_ ?_ fun d hd=>?_⟩
   ·refine Paired.mapP (yV4 hB) fun _ _ b=>b.keep (zC8 ht (fun _ z=>nomatch z)) fun kvs e=>?_
    rw [upd_ne (zG3 e ht (by intro z; cases z))]; exact e
   ·rw [List.map_reverse,hm,List.reverse_reverse]
   ·rw [List.map_reverse]; exact (List.reverse_perm _).nodup_iff.mpr hnd
   ·rw [List.map_reverse] at hd; exact (hfr d (List.mem_reverse.mp hd)).1
noncomputable abbrev zL3:Stmt:=top 22
theorem sc_names_of:zB5 ["house"] ["house"] (zA5 zL3):=⟨rfl,rfl,rfl,by decide +kernel,rfl,by decide +kernel,by decide +kernel⟩
theorem yN1 {ca:Ca} (D:DefAt K mg "names_of" zL3) (T:Txt K mg ca):FnAt P w K mg base CX0 1 "names_of" ["house"] (zW0 K):=by
 refine D.ok sc_names_of (fun vs H Q E h=>?_) (fun _ _ _ _ _ _ us hl=>match us,hl with | [_],_=>rfl) (fun f cdv A outer s H vs Q E hr h=>?_)
 ·obtain ⟨a,xs,ps,rfl,hS,hP,h8,k⟩:=h; rfl
 ·obtain ⟨a,xs,ps,rfl,hS,hP,h8,k⟩:=h
  have nd:=sc_names_of.nd
  refine ⟨_,(@zA6 _ _ _ (zC0 (zL9 ["place"] [] [] rfl (by rfl) (zD5 (K:=K) rfl (pv 0)) (fun _ _ _ _=>(zA9 (i:=0) (show List.Nodup (["place"]:List Str) from by decide) rfl (Or.inl rfl))) (fun _ _ _ _=>zK5) (fun _ _ _ _=>(zB4 (zA7 (K:=K) rfl) (pv 0) zA2 (fun _ _=>rfl)))))),?_⟩
  have hlen:xs.length = ps.length:=hP.length
  refine ⟨_,rfl,a,rfl,⟨_,hS⟩,fun D hD=>?_⟩
  refine zJ2 (xs:=xs) (fun j σ' H'=>∃ (v:Option V),σ' = [v] /\ Same H H' /\ H' D = some (.lst ((allN (ps.take j)).map V.str))) ⟨none,rfl,Same.upd hD,zA1⟩ ?_ ?_ ?_
  ·rintro j σ' H' hj ⟨v,rfl,s2,hd⟩
   exact s2.seq hS
  ·rintro j y σ' H' hy ⟨v,rfl,s2,hd⟩
   obtain ⟨p,hp,pv⟩:=zC4 hP hy
   obtain ⟨b,ys,rfl,hb,_,e1⟩:=pv.at
   refine ⟨_,rfl,b,_,_,_,rfl,rfl,SqT.of (s2 _ _ hb),e1,_,hd,?_,_,rfl,s2.updD hD,?_⟩
   ·have:=hlen
    rw [List.length_map]
    unfold allN
    rw [List.length_map,List.length_take]
    exact sz (by omega)
   ·unfold allN
    rw [zA1,zC2 hp,List.map_append,List.map_append]; rfl
  ·rintro σ' H2 ⟨v,rfl,s2,hd⟩
   rw [hlen,List.take_length] at hd
   exact k D H2 hD s2 hd
noncomputable abbrev zL5:Stmt:=top 23
theorem sc_casks_of:zB5 ["house"] ["house"] (zA5 zL5):=⟨rfl,rfl,rfl,by decide +kernel,rfl,by decide +kernel,by decide +kernel⟩
theorem yN3 {ca:Ca} (D:DefAt K mg "casks_of" zL5) (T:Txt K mg ca):FnAt P w K mg base CX0 1 "casks_of" ["house"] (zW1 K):=by
 refine D.ok sc_casks_of (fun vs H Q E h=>?_) (fun _ _ _ _ _ _ us hl=>match us,hl with | [_],_=>rfl) (fun f cdv A outer s H vs Q E hr h=>?_)
 ·obtain ⟨a,xs,ps,rfl,hS,hP,h8,k⟩:=h; rfl
 ·obtain ⟨a,xs,ps,rfl,hS,hP,h8,k⟩:=h
  have nd:=sc_casks_of.nd
  refine ⟨_,(@zA6 _ _ _ (zC0 (zL9 ["place"] [] [] rfl (by rfl) (zD5 (K:=K) rfl (pv 0)) (fun _ _ _ _=>(zA9 (i:=0) (show List.Nodup (["place"]:List Str) from by decide) rfl (Or.inl rfl))) (fun _ _ _ _=>(zS8 (zC1 zT0 (zB4 (zA7 (K:=K) rfl) (pv 0) zA2 (fun _ _=>rfl)) zF3 (zD3 _)))) (fun _ _ _ _=>(zB4 (zA7 (K:=K) rfl) (pv 0) zA2 (fun _ _=>rfl)))))),?_⟩
  have hlen:xs.length = ps.length:=hP.length
  refine ⟨_,rfl,a,rfl,⟨_,hS⟩,fun D hD=>?_⟩
  refine zJ2 (xs:=xs) (fun j σ' H'=>∃ (v:Option V),σ' = [v] /\ Same H H' /\ H' D = some (.lst ((ckN (ps.take j)).map V.str))) ⟨none,rfl,Same.upd hD,zA1⟩ ?_ ?_ ?_
  ·rintro j σ' H' hj ⟨v,rfl,s2,hd⟩
   exact s2.seq hS
  ·rintro j y σ' H' hy ⟨v,rfl,s2,hd⟩
   obtain ⟨p,hp,pv⟩:=zC4 hP hy
   obtain ⟨b,ys,rfl,hb,e0,e1⟩:=pv.at
   refine ⟨_,rfl,b,_,_,_,rfl,rfl,SqT.of (s2 _ _ hb),e0,rfl,_,rfl,?_⟩
   cases hc:isC p with
   | true =>
    refine zO2 rfl ?_
    refine ⟨_,rfl,b,_,_,_,rfl,rfl,SqT.of (s2 _ _ hb),e1,_,hd,?_,_,rfl,s2.updD hD,?_⟩
    ·have h1:=yA6 (ps:=ps.take j)
     rw [List.length_take] at h1
     rw [List.length_map]
     exact sz (by omega)
    ·unfold ckN
     rw [zA1,zC2 hp,List.filter_append,List.map_append,List.map_append]
     simp [hc]
   | false =>
    refine zM1 (by decide +kernel) ?_
    refine ⟨_,rfl,s2,?_⟩
    rw [hd]
    unfold ckN
    rw [zC2 hp,List.filter_append]
    simp [hc]
  ·rintro σ' H2 ⟨v,rfl,s2,hd⟩
   rw [hlen,List.take_length] at hd
   exact k D H2 hD s2 hd
noncomputable abbrev zZ9:Stmt:=top 24
theorem sc_only:zB5 ["shares","casks","kept_shares","name"] ["shares","casks"] (zA5 zZ9):=⟨rfl,rfl,rfl,by decide +kernel,rfl,by decide +kernel,by decide +kernel⟩
theorem xQ1 {ca:Ca} (D:DefAt K mg "only" zZ9) (T:Txt K mg ca):FnAt P w K mg base CX0 1 "only" ["shares","casks"] (yY3 K):=by
 refine D.ok sc_only (fun vs H Q E h=>?_) (fun _ _ _ _ _ _ us hl=>match us,hl with | [_,_],_=>rfl) (fun f cdv A outer s H vs Q E hr h=>?_)
 ·obtain ⟨a,b,kv,C,f,rfl,ha,ra,hS,h8,k⟩:=h; rfl
 ·obtain ⟨a,b,kv,C,f,rfl,ha,ra,hS,h8,k⟩:=h
  have nd:=sc_only.nd
  refine ⟨_,(@zA4 _ _ _ _ _ (@zB1 _ _ 2 _ _ _ _ nd rfl (Or.inl rfl) zF4 (by rfl) (Or.inl rfl))
   (@zA4 _ _ _ _ _ (zD6 PassesOwn.never rfl (zD5 (K:=K) rfl (pv 1)) (zA9 (i:=3) nd rfl (Or.inl rfl)) (@zA6 _ _ _ (zK2 (xA2 (xM2 (zE2 hr) (pv 3) (pv 0))) (@zA6 _ _ _ (zF1 (zE2 hr) (pv 2) (pv 3) (zF5 (zE2 hr) (pv 0) (pv 3) (fun _ _=>rfl)) rfl)) zE1)))
   (@zA6 _ _ _ (zC0 (pv 2))))),?_⟩
  intro p hp
  have tp:=Same.upd (o:=.dK []) hp
  refine ⟨_,rfl,b,rfl,⟨_,tp.seq hS⟩,?_⟩
  have e0:(op fun z=>if z ∈ C.take 0 then f z else 0) = fun _=>none:=by funext z; simp [op]
  refine zF7 (xs:=C.map V.str) (fun i σ H1=>∃ (v3:Option V) (kv':List (Key × V)),σ = [some (.ref a),some (.ref b),some (.ref p),v3] /\ Same H H1 /\ H1 p = some (.dK kv') /\ kv'.length <= i /\ RowAt H1 kv' (op fun z=>if z ∈ C.take i then f z else 0)) ⟨none,[],rfl,tp,zA1,Nat.le_refl _,by rw [e0]; exact RowAt.nil _⟩ ?_ ?_ ?_
  ·rintro i σ H1 hi ⟨v3,kv',rfl,s1,h1,hl,row⟩
   exact s1.seq hS
  ·rintro i x σ H1 hx ⟨v3,kv',rfl,s1,h1,hl,row⟩
   obtain ⟨n,rfl,hi⟩:=zO7 hx
   have hil:i < C.length:=(List.getElem?_eq_some_iff.mp hi).1
   have ha1:=s1 _ _ ha
   refine ⟨_,rfl,_,rfl,a,_,rfl,DGet.k (k:=.inr n) ha1,_,rfl,?_⟩
   by_cases hf:f n = 0
   ·have e:valV kv (.inr n) = none:=ra.not n (by unfold op; rw [if_pos hf])
    rw [e]
    refine iteF ?_
    refine ⟨_,kv',rfl,s1,h1,by omega,?_⟩
    rw [zC2 hi,<- xP8 hf]; exact row
   ·obtain ⟨w,e,fr⟩:=ra.has n (f n) (by unfold op; rw [if_neg hf])
    rw [e]
    refine iteT ?_
    refine ⟨_,rfl,_,rfl,a,w,rfl,?_,_,rfl,_,rfl,p,upd H1 p (.dK (putK kv' (.inr n) w)),rfl,DPut.k (k:=.inr n) h1 (sz (by omega)),?_⟩
    ·have g:=DGet.k (k:=.inr n) ha1
     rw [e] at g; exact g
    have tu:=zC8 (o:=.dK (putK kv' (.inr n) w)) h1 (fun _ z=>nomatch z)
    refine ⟨_,putK kv' (.inr n) w,rfl,s1.updD hp,zA1,?_,?_⟩
    ·have:=zF6 kv' (.inr n) w
     omega
    ·rw [zC2 hi,<- xU6 hf]
     exact (row.put (z:=n) (fr.same s1)).same fun v r g=>g.tup tu
  ·rintro σ H1 ⟨v3,kv',rfl,s1,h1,hl,row⟩
   rw [List.length_map,List.take_length] at row
   exact ⟨_,rfl,k p H1 kv' hp s1 h1 row⟩
noncomputable abbrev zG7:Stmt:=top 25
theorem sc_casks_table:zB5 ["house","steps","casks","whole","rows","name"] ["house","steps"] (zA5 zG7):=⟨rfl,rfl,rfl,by decide +kernel,rfl,by decide +kernel,by decide +kernel⟩
theorem zZ0 {ca:Ca} (D:DefAt K mg "casks_table" zG7) (T:Txt K mg ca) (G_casks_of:FnAt P w K mg base CX0 1 "casks_of" ["house"] (zW1 K)) (G_table:FnAt P w K mg base CX0 5 "table" ["names","steps"] (xS8 K)) (G_names_of:FnAt P w K mg base CX0 1 "names_of" ["house"] (zW0 K)) (G_only:FnAt P w K mg base CX0 1 "only" ["shares","casks"] (yY3 K)):FnAt P w K mg base CX0 6 "casks_table" ["house","steps"] (zZ6 K):=by
 refine D.ok sc_casks_table (fun vs H Q E h=>?_) (fun _ _ _ _ _ _ us hl=>match us,hl with | [_,_],_=>rfl) (fun f cdv A outer s H vs Q E hr h=>?_)
 ·obtain ⟨ah,as,xs,ps,ys,ss,rfl,hS,hP,ok,hX,hT,hO,h40,k⟩:=h; rfl
 ·obtain ⟨ah,as,xs,ps,ys,ss,rfl,hS,hP,ok,hX,hT,hO,h40,k⟩:=h
  have nd:=sc_casks_table.nd
  refine ⟨_,(@zA4 _ _ _ _ _ (@zB1 _ _ 2 _ _ _ _ nd rfl (Or.inl rfl) (zB7 G_casks_of hr (by rfl) zB8 (@zA0 _ _ _ _ _ (pv 0) zA3 (by rfl))) (by rfl) (Or.inl rfl))
   (@zA4 _ _ _ _ _ (@zB1 _ _ 3 _ _ _ _ nd rfl (Or.inl rfl) (zB7 G_table hr (by rfl) zB8 (@zA0 _ _ _ _ _ (zB7 G_names_of hr (by rfl) zB8 (@zA0 _ _ _ _ _ (pv 0) zA3 (by rfl))) (@zA0 _ _ _ _ _ (pv 1) zA3 (by rfl)) (by rfl))) (by rfl) (Or.inl rfl))
   (@zA4 _ _ _ _ _ (@zB1 _ _ 4 _ _ _ _ nd rfl (Or.inl rfl) zF4 (by rfl) (Or.inl rfl))
   (@zA4 _ _ _ _ _ (zD6 PassesOwn.never rfl (zD5 (K:=K) rfl (pv 2)) (zA9 (i:=5) nd rfl (Or.inl rfl)) (@zA6 _ _ _ (zF1 (zE2 hr) (pv 4) (pv 5) (zB7 G_only hr (by rfl) zB8 (@zA0 _ _ _ _ _ (zF5 (zE2 hr) (pv 3) (pv 5) (fun _ _=>rfl)) (@zA0 _ _ _ _ _ (pv 2) zA3 (by rfl)) (by rfl))) rfl)))
   (@zA6 _ _ _ (zC0 (pv 4))))))),?_⟩
  refine ⟨_,rfl,ah,xs,ps,rfl,hS,hP,ok.len,fun pc H1 hpc s1 h1=>?_⟩
  refine ⟨_,rfl,ah,xs,ps,rfl,s1.seq hS,zB9 hP s1,ok.len,fun pn H2 hpn s2 h2=>?_⟩
  have s02:=s1.trans s2
  have l8:(allN ps).length <= 8:=by unfold allN; rw [List.length_map]; exact ok.len
  refine ⟨_,rfl,pn,as,allN ps,ys,ss,rfl,SqL.of h2,ok.nd,l8,s02.seq hX,zD0 hT s02,hO,(by omega),fun pw H3 rowsW adW hpw s3 h3 TW=>?_⟩
  have s03:=s02.trans s3
  have hc3:=s3 _ _ (s2 _ _ h1)
  intro p hp
  have tp:=Same.upd (o:=.dK []) hp
  have hp0:H p = none:=s03.free hp
  have c8:(ckN ps).length <= 8:=Nat.le_trans yA6 ok.len
  refine ⟨_,rfl,pc,rfl,⟨_,SqL.of (tp _ _ hc3)⟩,?_⟩
  refine zF7 (xs:=(ckN ps).map V.str) (fun i σ H4=>∃ (v5:Option V) (rows:List (Key × V)) (ad:Str->Addr),σ = [some (.ref ah),some (.ref as),some (.ref pc),some (.ref pw),some (.ref p),v5] /\ Same H3 H4 /\ H4 p = some (.dK rows) /\ TabAt H H4 p rows ((ckN ps).take i) (resC (ckN ps) (back ss)) ad) ⟨none,[],fun _=>0,rfl,tp,zA1,TabAt.nil _ _ _ _ _⟩ ?_ ?_ ?_
  ·rintro i σ H4 hi ⟨v5,rows,ad,rfl,s4,h4,T⟩
   exact SqL.of (s4 _ _ hc3)
  ·rintro i x σ H4 hx ⟨v5,rows,ad,rfl,s4,h4,T⟩
   obtain ⟨n,rfl,hi⟩:=zO7 hx
   have hnC:n ∈ ckN ps:=List.mem_of_getElem? hi
   obtain ⟨vn,_,kn,han,rn⟩:=(TW.same s4).row n (zJ7 hnC)
   refine ⟨_,rfl,_,rfl,pw,.ref (adW n),rfl,?_,_,rfl,adW n,pc,kn,ckN ps,back ss n,rfl,han,rn,SqL.of (s4 _ _ hc3),c8,fun q H5 kv5 hq s5 h5 r5=>?_⟩
   ·have g:=DGet.k (k:=.inr n) (s4 _ _ h3)
    rw [vn] at g; exact g
   have npq:p ≠ q:=zA8 h4 hq
   have len:rows.length <= 8:=by
    rw [T.len (ok.ck.sublist (List.take_sublist _ _)),List.length_take]; omega
   refine ⟨_,rfl,_,rfl,p,upd H5 p (.dK (putK rows (.inr n) (.ref q))),rfl,DPut.k (k:=.inr n) (s5 _ _ h4) (sz (by omega)),?_⟩
   have tt:∀ v r,FrV H5 v r->FrV (upd H5 p (.dK (putK rows (.inr n) (.ref q)))) v r:=fun v r g=>g.tup (zC8 (s5 _ _ h4) (fun _ z=>nomatch z))
   refine ⟨_,putK rows (.inr n) (.ref q),fun z=>if z = n then q else ad z,rfl,(s4.trans s5).updD hp,zA1,?_⟩
   exact T.put (s03.free (s4.free hq)) hq npq.symm (fun c o e n=>by rw [upd_ne n]; exact s5 _ _ e) (fun v r g=>tt v r (g.same s5)) (by rw [upd_ne npq.symm]; exact h5) (r5.same tt) (fun _ _ _=>rfl) (zR5 hi)
  ·rintro σ H4 ⟨v5,rows,ad,rfl,s4,h4,T⟩
   rw [List.length_map,List.take_length] at T
   exact ⟨_,rfl,k p H4 rows ad hp0 (s03.trans s4) h4 T⟩
noncomputable abbrev zE7:Stmt:=top 26
theorem sc_brought_totals:zB5 ["house","steps","totals","name","lot","amount","ends","share"] ["house","steps"] (zA5 zE7):=⟨rfl,rfl,rfl,by decide +kernel,rfl,by decide +kernel,by decide +kernel⟩
theorem zT2 {ca:Ca} (D:DefAt K mg "brought_totals" zE7) (T:Txt K mg ca) (G_casks_of:FnAt P w K mg base CX0 1 "casks_of" ["house"] (zW1 K)) (G_brought:FnAt P w K mg base CX0 5 "brought" ["names","steps"] (yH4 K)) (G_names_of:FnAt P w K mg base CX0 1 "names_of" ["house"] (zW0 K)) (G_only:FnAt P w K mg base CX0 1 "only" ["shares","casks"] (yY3 K)) (G_plus:FnAt P w K mg base CX0 2 "plus" ["one","other"] (yH1)) (G_times:FnAt P w K mg base CX0 2 "times" ["one","other"] (spTimes)):FnAt P w K mg base CX0 6 "brought_totals" ["house","steps"] (xL6 K):=by
 refine D.ok sc_brought_totals (fun vs H Q E h=>?_) (fun _ _ _ _ _ _ us hl=>match us,hl with | [_,_],_=>rfl) (fun f cdv A outer s H vs Q E hr h=>?_)
 ·obtain ⟨ah,as,xs,ps,ys,ss,rfl,hS,hP,ok,hX,hT,hO,h15,k⟩:=h; rfl
 ·obtain ⟨ah,as,xs,ps,ys,ss,rfl,hS,hP,ok,hX,hT,hO,h15,k⟩:=h
  have nd:=sc_brought_totals.nd
  refine ⟨_,(@zA4 _ _ _ _ _ (@zB1 _ _ 2 _ _ _ _ nd rfl (Or.inl rfl) zF4 (by rfl) (Or.inl rfl))
   (@zA4 _ _ _ _ _ (zD6 PassesOwn.never rfl (zD5 (K:=K) rfl (zB7 G_casks_of hr (by rfl) zB8 (@zA0 _ _ _ _ _ (pv 0) zA3 (by rfl)))) (zA9 (i:=3) nd rfl (Or.inl rfl)) (@zA6 _ _ _ (zF1 (zE2 hr) (pv 2) (pv 3) (@zC3 _ _ _ _ _ (@zA0 _ _ _ _ _ zA2 (@zA0 _ _ _ _ _ zA2 zA3 (by rfl)) (by rfl))) rfl)))
   (@zA4 _ _ _ _ _ (zD6 PassesOwn.never rfl (zD5 (K:=K) rfl (zB7 G_brought hr (by rfl) zB8 (@zA0 _ _ _ _ _ (zB7 G_names_of hr (by rfl) zB8 (@zA0 _ _ _ _ _ (pv 0) zA3 (by rfl))) (@zA0 _ _ _ _ _ (pv 1) zA3 (by rfl)) (by rfl)))) (zP9 rfl (zC7 (zA9 (i:=4) nd rfl (Or.inl rfl)) (zC7 (zA9 (i:=5) nd rfl (Or.inl rfl)) (zC7 (zA9 (i:=6) nd rfl (Or.inl rfl)) zK4)))) (@zA6 _ _ _ (zD6 PassesOwn.never rfl (zN9 (zM0 (K:=K) rfl PySem.F.plainAttrs_dict PySem.F.slot_dict_items PySem.F.type_dict_items zO0 (zB7 G_only hr (by rfl) zB8 (@zA0 _ _ _ _ _ (pv 6) (@zA0 _ _ _ _ _ (zB7 G_casks_of hr (by rfl) zB8 (@zA0 _ _ _ _ _ (pv 0) zA3 (by rfl))) zA3 (by rfl)) (by rfl))))) (zP9 rfl (zC7 (zA9 (i:=3) nd rfl (Or.inl rfl)) (zC7 (zA9 (i:=7) nd rfl (Or.inl rfl)) zK4))) (@zA6 _ _ _ (zF1 (zE2 hr) (pv 2) (pv 3) (zB7 G_plus hr (by rfl) zB8 (@zA0 _ _ _ _ _ (zF5 (zE2 hr) (pv 2) (pv 3) (fun _ _=>rfl)) (@zA0 _ _ _ _ _ (zB7 G_times hr (by rfl) zB8 (@zA0 _ _ _ _ _ (pv 5) (@zA0 _ _ _ _ _ (pv 7) zA3 (by rfl)) (by rfl))) zA3 (by rfl)) (by rfl))) rfl)))))
   (@zA6 _ _ _ (zC0 (pv 2)))))),?_⟩
  have c8:(ckN ps).length <= 8:=Nat.le_trans yA6 ok.len
  have l8:(allN ps).length <= 8:=by unfold allN; rw [List.length_map]; exact ok.len
  have hOs:∀ s ∈ ss,OkS (allN ps) s:=fun s hs=>(hO s hs).1
  intro p hp
  have tp:=Same.upd (o:=.dK []) hp
  refine ⟨_,rfl,ah,xs,ps,rfl,tp.seq hS,zB9 hP tp,ok.len,fun pc H1 hpc s1 h1=>⟨pc,rfl,⟨_,SqL.of h1⟩,?_⟩⟩
  have s01:=tp.trans s1
  have hp1:=s1 _ _ (zA1 (H:=H) (a:=p) (o:=.dK []))
  have hpc0:=tp.free hpc
  have npc:pc ≠ p:=fun e=>by rw [e,zA1] at hpc; cases hpc
  refine zF7 (xs:=(ckN ps).map V.str) (fun i σ H2=>∃ (v3:Option V) (kv:List (Key × V)),σ = [some (.ref ah),some (.ref as),some (.ref p),v3,none,none,none,none] /\ Same H H2 /\ H2 pc = some (.lst ((ckN ps).map V.str)) /\ H2 p = some (.dK kv) /\ RowAt H2 kv (all ((ckN ps).take i) fun _=>0) /\ nms kv = (ckN ps).take i) ⟨none,[],rfl,s01,h1,hp1,by rw [List.take_zero,zY6]; exact RowAt.nil _,rfl⟩ ?_ ?_ ?_
  ·rintro i σ H2 hi ⟨v3,kv,rfl,s2,hc2,h2,row,hn⟩
   exact SqL.of hc2
  ·rintro i x σ H2 hx ⟨v3,kv,rfl,s2,hc2,h2,row,hn⟩
   obtain ⟨n,rfl,hi⟩:=zO7 hx
   have hil:i < (ckN ps).length:=(List.getElem?_eq_some_iff.mp hi).1
   have lk:kv.length <= 8:=by rw [<- zD2,hn,List.length_take]; omega
   refine ⟨sz (by simp),fun p1 hp1=>?_⟩
   have t3:=Same.upd (o:=.tup [.int 0,.int 1]) hp1
   have f0:=FrV.newOf (H:=H2) (p:=p1) (t:=0) (b:=1) (r:=0) rfl rfl
   have row3:=row.same fun v r f=>f.same t3
   have s3:=s2.trans t3
   have h3:=t3 _ _ h2
   have hc3:=t3 _ _ hc2
   generalize upd H2 p1 (.tup [.int 0,.int 1]) = H3 at *
   refine ⟨_,rfl,_,rfl,p,_,rfl,DPut.k (k:=.inr n) h3 (sz (by omega)),?_⟩
   have tu:=zC8 (o:=.dK (putK kv (.inr n) (.ref p1))) h3 (fun _ z=>nomatch z)
   have et:=zC2 hi
   refine ⟨_,putK kv (.inr n) (.ref p1),rfl,s3.updD hp,by rw [upd_ne npc]; exact hc3,zA1,?_,?_⟩
   ·rw [et,zS1]
    exact (row3.put (z:=n) f0).same fun v r g=>g.tup tu
   ·rw [yE1 n _ row.keys,hn,et,yC1 (yE2 ok.ck hi)]
  rintro σ H2 ⟨v3,kv,rfl,s2,hc2,h2,row,hn⟩
  rw [List.length_map,List.take_length] at row hn
  refine ⟨_,rfl,ah,xs,ps,rfl,s2.seq hS,zB9 hP s2,ok.len,fun pn H3 hpn s3 h3=>?_⟩
  have s23:=s2.trans s3
  refine ⟨_,rfl,pn,as,allN ps,ys,ss,rfl,SqL.of h3,ok.nd,l8,s23.seq hX,zD0 hT s23,hOs,by omega,fun pb H4 zs tds hpb s4 h4 hB hm hnd hfr=>⟨pb,rfl,⟨_,SqL.of h4⟩,?_⟩⟩
  have s24:=s3.trans s4
  have hp4:=s24 _ _ h2
  have P0:=zG4 ss
  have P100:=zL8 hO h15
  let C:=ckN ps
  let Sm:Nat->Str->Rat:=fun i z=>sumQ (((brL ss).take i).map fun b=>b.q * b.g z)
  have bl:=zY2 ss
  have zl:zs.length = (brL ss).length:=by rw [hB.length,<- hm,List.length_map]
  have bdC:∀ {x:Rat},Cd (12 * zC5 ss) (15000 * (12 * zC5 ss)) x->Bd 8000 x:=fun h=>(h.bd (by omega) (Nat.le_mul_of_pos_left _ (by decide)) (twelve P100 (Nat.le_refl _))).mono (by decide)
  have cdS:∀ i,i <= (brL ss).length->∀ z,Cd (12 * zC5 ss) (1000 * i * (12 * zC5 ss)) (Sm i z):=fun i hi z=>Cd.of (yP1 ok.nd hO z i hi)
  refine zF7 (xs:=zs) (fun i σ H5=>∃ (v3 v4 v5 v6 v7:Option V) (kv:List (Key × V)),σ = [some (.ref ah),some (.ref as),some (.ref p),v3,v4,v5,v6,v7] /\ Same H H5 /\ (∀ c ob,H4 c = some ob->c ≠ p->H5 c = some ob) /\ H5 p = some (.dK kv) /\ RowAt H5 kv (all C (Sm i)) /\ nms kv = C) ⟨_,_,_,_,_,kv,rfl,s2.trans s24,(fun c ob e _=>e),hp4,row.same fun v r f=>f.same s24,hn⟩ ?_ ?_ ?_
  ·rintro i σ H5 hi ⟨v3,v4,v5,v6,v7,kv,rfl,s5,kp,h5,row,hn⟩
   exact SqL.of (kp _ _ h4 fun e=>by rw [e] at hpb; have:=s3 _ _ h2; rw [hpb] at this; cases this)
  ·rintro i x σ H5 hx ⟨v3,v4,v5,v6,v7,kv,rfl,s5,kp,h5,row,hn⟩
   obtain ⟨bd,hbd,a,l,f,kvs,rfl,q1,q2,q3,q4,q5⟩:=zC4 hB hx
   have hb:(brL ss)[i]? = some bd.1:=by rw [<- hm,List.getElem?_map,hbd]; rfl
   have hib:i < (brL ss).length:=(List.getElem?_eq_some_iff.mp hb).1
   have hbm:bd.1 ∈ brL ss:=List.mem_of_getElem? hb
   have kT:∀ c m,H4 c = some (.tup m)->H5 c = some (.tup m):=fun c m e=>kp _ _ e (zG3 e hp4 (by intro z; cases z))
   have hdp:bd.2 ≠ p:=fun e=>by
    have h0:=hfr bd.2 (List.mem_map.mpr ⟨bd,List.mem_of_getElem? hbd,rfl⟩)
    rw [e] at h0
    have:=s3 _ _ h2
    rw [h0] at this; cases this
   have q45:=kp _ _ q4 hdp
   have q55:=q5.same fun v r g=>g.tup kT
   have q35:=q3.tup kT
   refine ⟨a,_,rfl,SqT.of (kT _ _ q1),rfl,_,_,rfl,_,_,rfl,_,_,rfl,rfl,?_⟩
   refine ⟨_,rfl,_,rfl,ah,xs,ps,rfl,s5.seq hS,zB9 hP s5,ok.len,fun pc2 H6 hpc2 s6 h6=>?_⟩
   refine ⟨bd.2,pc2,kvs,C,bd.1.g,rfl,s6 _ _ q45,q55.same (fun v r g=>g.same s6),SqL.of h6,c8,fun pq H7 kq hpq s7 h7 rq=>?_⟩
   have s67:=s6.trans s7
   refine ⟨.inr (.inr (.inl ⟨rfl,.inl ⟨_,h7⟩⟩)),pq,_,rfl,rfl,h7,rfl,fun pv hpv=>?_⟩
   have tv:=Same.upd (o:=zQ6 pv pq) hpv
   refine ⟨pv,pq,_,rfl,zA1,tv _ _ h7,rfl,fun o qs hqs=>?_⟩
   have hqs:qs = kq.map fun kv=>(kV kv.1,kv.2):=hqs
   subst hqs
   have npq:p ≠ pq:=zA8 (s6 _ _ h5) hpq
   have hpq0:H pq = none:=s5.free (s6.free hpq)
   have s07:=s5.trans s67
   have h57:=s67 _ _ h5
   have row7:=row.same fun v r g=>g.same s67
   have f7:=q35.same s67
   have lq:kq.length <= 8:=by
    rw [<- zD2]
    refine Nat.le_trans (zD8 (L:=C) (zE8 rq.nodup rq.keys) fun z hz=>?_) c8
    have:=(rq.iff z).mp hz
    have:=op_some.mp this
    by_cases e:z ∈ C
    ·exact e
    ·rw [if_neg e] at this; exact absurd rfl this
   let Pt:Nat->Str->Rat:=fun j z=>Sm i z + if z ∈ nms (kq.take j) then bd.1.q * bd.1.g z else 0
   have qg:=xN6 ok.nd hO
   refine zN5 (fun j σ H8=>∃ (v3 v7:Option V) (kv':List (Key × V)),σ = [some (.ref ah),some (.ref as),some (.ref p),v3,some (.ref l),some f,some (.ref bd.2),v7] /\ H8 pq = some (.frz o (.dK kq)) /\ Same H H8 /\ (∀ c ob,H7 c = some ob->c ≠ p->c ≠ pq->H8 c = some ob) /\ H8 p = some (.dK kv') /\ RowAt H8 kv' (all C (Pt j)) /\ nms kv' = C) ?_ ?_ ?_ ?_
   ·have h8:∀ c ob,H7 c = some ob->c ≠ p->c ≠ pq->upd (upd H7 pv (zQ6 pv pq)) pq (.frz o (.dK kq)) c = some ob:=fun c ob e _ n=>by rw [upd_ne n]; exact tv _ _ e
    refine ⟨_,_,kv,rfl,zA1,(s07.trans tv).updD hpq0,h8,by rw [upd_ne npq]; exact tv _ _ h57,?_,hn⟩
    have e:all C (Pt 0) = all C (Sm i):=zY7 fun z _=>by
     show Sm i z + _ = _
     rw [if_neg (by simp [nms])]; grind
    rw [e]
    have tu:∀ c m,H7 c = some (.tup m)->upd (upd H7 pv (zQ6 pv pq)) pq (.frz o (.dK kq)) c = some (.tup m):=fun c m e=>h8 c _ e (zG3 e h57 (by intro z; cases z)) (zG3 e h7 (by intro z; cases z))
    exact row7.same fun v r g=>g.tup tu
   ·rintro j σ H8 ⟨_,_,_,_,h,_⟩
    exact h
   ·rintro j k' v T' σ H8 hk ⟨v3,v7,kv',rfl,hfz,s8,kp8,h8,row8,hn8⟩ hT
    obtain ⟨kvi,hki,ek⟩:∃ kvi,kq[j]? = some kvi /\ (kV kvi.1,kvi.2) = (k',v):=by
     rw [List.getElem?_map] at hk
     cases q:kq[j]? with
     | none=>rw [q] at hk; cases hk
     | some kvi=>rw [q] at hk; exact ⟨kvi,rfl,Option.some.inj hk⟩
    obtain ⟨rfl,rfl⟩:=Prod.mk.inj ek
    obtain ⟨z,r,hz,hg,fr,hnot,hnms⟩:=rq.at hki
    obtain ⟨e1,e2⟩:=xA8 hg
    have hzC:z ∈ C:=by
     by_cases e:z ∈ C
     ·exact e
     ·rw [if_neg e] at e1; exact absurd e1.symm e2
    rw [if_pos hzC] at e1
    have ekv:kV kvi.1 = .str z:=by rw [hz]; rfl
    have kT8:∀ c m,H7 c = some (.tup m)->H8 c = some (.tup m):=fun c m e=>kp8 c _ e (zG3 e h57 (by intro z; cases z)) (zG3 e h7 (by intro z; cases z))
    have tT:=Same.upd (o:=.tup [kV kvi.1,kvi.2]) hT
    refine ⟨T',_,rfl,SqT.of zA1,rfl,_,_,rfl,_,_,rfl,rfl,?_⟩
    rw [ekv] at tT ⊢
    have h9:=tT _ _ h8
    have fq9:=(f7.tup kT8).same tT
    have fr9:=(fr.tup kT8).same tT
    have row9:=row8.same fun v r g=>g.same tT
    have kp9:∀ c ob,H7 c = some ob->c ≠ p->c ≠ pq->upd H8 T' (.tup [.str z,kvi.2]) c = some ob:=fun c ob e n1 n2=>tT _ _ (kp8 c ob e n1 n2)
    have hfz9:=tT _ _ hfz
    have s9:=s8.trans tT
    generalize upd H8 T' (.tup [.str z,kvi.2]) = H9 at *
    obtain ⟨w9,ew9,fw9⟩:=row9.has z (Pt j z) (by unfold all; rw [if_pos hzC])
    have ePt:Pt j z = Sm i z:=by show Sm i z + _ = _; rw [if_neg hnot]; grind
    have cS:=cdS i (by omega) z
    have cq:=Cd.of (qg z bd.1 hbm)
    have bS:Bd 8000 (Pt j z):=by rw [ePt]; exact bdC (cS.mono (Nat.mul_le_mul_right _ (by omega)))
    have bq:Bd 8000 (bd.1.q * r):=by rw [<- e1]; exact bdC (cq.mono (Nat.mul_le_mul_right _ (by omega)))
    have b1:Bd 8000 bd.1.q:=((Cd.of (xK0 hO bd.1 hbm)).bd (s:=20) (by decide) (by decide) (by decide)).mono (by decide)
    have b2:Bd 8000 r:=by
     rw [<- e1]
     exact ((xX7 ok.nd hO z bd.1 hbm).bd (n:=101) P0 (Nat.le_refl _) (by rw [Nat.one_mul]; exact Nat.lt_of_le_of_lt P100 (Nat.pow_lt_pow_right (by decide) (by decide)))).mono (by decide)
    refine ⟨_,rfl,_,rfl,p,w9,rfl,?_,_,rfl,_,rfl,spTimes.of (E:=E0) rfl fq9 fr9 b1 b2 fun u1 H10 s10 f10=>?_⟩
    ·have g:=DGet.k (k:=.inr z) h9
     rw [ew9] at g; exact g
    refine ⟨_,_,Pt j z,bd.1.q * r,rfl,fw9.same s10,f10,bS,bq,fun u2 H11 s11 f11=>?_⟩
    have s911:=s10.trans s11
    have h11:=s911 _ _ h9
    have lk:kv'.length <= 8:=by rw [<- zD2,hn8]; exact c8
    refine ⟨_,rfl,_,rfl,p,_,rfl,DPut.k (k:=.inr z) h11 (sz (by omega)),?_⟩
    have tu:=zC8 (o:=.dK (putK kv' (.inr z) u2)) h11 (fun _ z=>nomatch z)
    refine ⟨_,_,putK kv' (.inr z) u2,rfl,by rw [upd_ne npq.symm]; exact s911 _ _ hfz9,(s9.trans s911).updD hp,fun c ob e n1 n2=>by rw [upd_ne n1]; exact s911 _ _ (kp9 c ob e n1 n2),zA1,?_,by rw [yE1 z _ row8.keys,hn8,xH0 hzC]⟩
    have hrow:=((row9.same fun v r g=>g.same s911).put (z:=z) f11).same fun v r g=>g.tup tu
    rw [xR7 hzC] at hrow
    have e:all C (Pt (j + 1)) = all C (fun y=>if y = z then Pt j z + bd.1.q * r else Pt j y):=zY7 fun y _=>by
     show Sm i y + _ = _
     rw [hnms]
     by_cases e:y = z
     ·subst e
      rw [if_pos rfl,if_pos (by simp),ePt,e1]
     ·rw [if_neg e]
      show _ = Sm i y + _
      have:(y ∈ nms (kq.take j) ++ [z]) ↔ y ∈ nms (kq.take j):=by simp [e]
      by_cases q:y ∈ nms (kq.take j)
      ·rw [if_pos q,if_pos (this.mpr q)]
      ·rw [if_neg q,if_neg fun u=>q (this.mp u)]
    rw [e]; exact hrow
   ·rintro σ H8 ⟨v3,v7,kv',rfl,hfz,s8,kp8,h8,row8,hn8⟩
    rw [List.length_map] at row8
    have hH:∀ c ob,H4 c = some ob->c ≠ p->H8 c = some ob:=fun c ob e n1=>by
     have e5:=kp c ob e n1
     have e6:=s6 _ _ e5
     exact kp8 c ob (s7 _ _ e6) n1 (zA8 e6 hpq)
    refine ⟨_,_,_,_,_,kv',rfl,s8,hH,h8,?_,hn8⟩
    have e:all C (Sm (i + 1)) = all C (Pt kq.length):=zY7 fun z hz=>by
     have et:(brL ss).take (i + 1) = (brL ss).take i ++ [bd.1]:=by rw [List.take_add_one,hb]; rfl
     have e1:Sm (i + 1) z = Sm i z + bd.1.q * bd.1.g z:=by
      show sumQ (((brL ss).take (i + 1)).map fun b=>b.q * b.g z) = _
      rw [et,List.map_append]
      show List.foldl _ _ (_ ++ _) = _
      rw [List.foldl_append]; rfl
     rw [e1]
     show _ = Sm i z + _
     rw [List.take_length]
     by_cases q:z ∈ nms kq
     ·rw [if_pos q]
     ·rw [if_neg q]
      have:bd.1.g z = 0:=by
       by_cases u:bd.1.g z = 0
       ·exact u
       ·exact absurd ((rq.iff z).mpr (op_some.mpr (by rw [if_pos hz]; exact u))) q
      rw [this,Rat.mul_zero]
    rw [e]; exact row8
  ·rintro σ H5 ⟨v3,v4,v5,v6,v7,kv,rfl,s5,kp,h5,row,hn⟩
   rw [zl] at row
   refine ⟨_,rfl,k p H5 kv hp s5 h5 ?_ hn⟩
   have e:Sm (brL ss).length = bT ss:=by funext z; show sumQ (((brL ss).take (brL ss).length).map fun b=>b.q * b.g z) = _; rw [List.take_length]; rfl
   rw [e] at row; exact row
noncomputable abbrev zH8:Stmt:=top 27
theorem sc_left_alike:zB5 ["rows","added","casks","equations","name","equation","cask","stays"] ["rows","added"] (zA5 zH8):=⟨rfl,rfl,rfl,by decide +kernel,rfl,by decide +kernel,by decide +kernel⟩
theorem yC8 {ca:Ca} (D:DefAt K mg "left_alike" zH8) (T:Txt K mg ca) (G_minus:FnAt P w K mg base CX0 3 "minus" ["one","other"] (yB7)) (G_solved:FnAt P w K mg base CX0 6 "solved" ["rows"] (yQ4)):FnAt P w K mg base CX0 7 "left_alike" ["rows","added"] (xL5):=by
 refine D.ok sc_left_alike (fun vs H Q E h=>?_) (fun _ _ _ _ _ _ us hl=>match us,hl with | [_,_],_=>rfl) (fun f cdv A outer s H vs Q E hr h=>?_)
 ·obtain ⟨pr,pa,H0,rows,kb,ad,C,L,R,b,Dn,E1,W1,d,e,rfl,hrw,TB,hC,nC,c5,nL,hCL,G,D0,Dd,hb,rb,E0',EW,We,hcd,b1,b2,hlk,k⟩:=h; rfl
 ·obtain ⟨pr,pa,H0,rows,kb,ad,C,L,R,b,Dn,E1,W1,d,e,rfl,hrw,TB,hC,nC,c5,nL,hCL,G,D0,Dd,hb,rb,E0',EW,We,hcd,b1,b2,hlk,k⟩:=h
  have nd:=sc_left_alike.nd
  refine ⟨_,(@zA4 _ _ _ _ _ (@zB1 _ _ 2 _ _ _ _ nd rfl (Or.inl rfl) (zJ3 (zQ3 rfl) (by rfl) T.z_list zT9 (@zA0 _ _ _ _ _ (pv 0) zA3 (by rfl))) (by rfl) (Or.inl rfl))
   (@zA4 _ _ _ _ _ (@zB1 _ _ 3 _ _ _ _ nd rfl (Or.inl rfl) (@zK8 _ _ _ _ zA3) (by rfl) (Or.inl rfl))
   (@zA4 _ _ _ _ _ (zD6 PassesOwn.never rfl (zD5 (K:=K) rfl (pv 2)) (zA9 (i:=4) nd rfl (Or.inl rfl)) (@zA4 _ _ _ _ _ (@zB1 _ _ 5 _ _ _ _ nd rfl (Or.inl rfl) (@zK8 _ _ _ _ zA3) (by rfl) (Or.inl rfl))
   (@zA4 _ _ _ _ _ (zD6 PassesOwn.never rfl (zD5 (K:=K) rfl (pv 2)) (zA9 (i:=6) nd rfl (Or.inl rfl)) (@zA4 _ _ _ _ _ (@zB1 _ _ 7 _ _ _ _ nd rfl (Or.inl rfl) (yS0 (zC1 zT0 (pv 6) (pv 4) (zD3 _)) (@zC3 _ _ _ _ _ (@zA0 _ _ _ _ _ zA2 (@zA0 _ _ _ _ _ zA2 zA3 (by rfl)) (by rfl))) (@zC3 _ _ _ _ _ (@zA0 _ _ _ _ _ zA2 (@zA0 _ _ _ _ _ zA2 zA3 (by rfl)) (by rfl)))) (by rfl) (Or.inl rfl))
   (@zA6 _ _ _ (zK3 (yC5 PySem.F.plainAttrs_list PySem.F.slot_list_append PySem.F.type_list_append zJ4 (pv 5) (@zA0 _ _ _ _ _ (zB7 G_minus hr (by rfl) zB8 (@zA0 _ _ _ _ _ (pv 7) (@zA0 _ _ _ _ _ (yC4 (zE2 hr) (zF5 (zE2 hr) (pv 0) (pv 6) (fun _ _=>rfl)) (pv 4) (@zC3 _ _ _ _ _ (@zA0 _ _ _ _ _ zA2 (@zA0 _ _ _ _ _ zA2 zA3 (by rfl)) (by rfl))) ⟨by rfl,by rfl,by rfl,by rfl⟩) zA3 (by rfl)) (by rfl))) zA3 (by rfl)))))))
   (@zA6 _ _ _ (zK3 (yC5 PySem.F.plainAttrs_list PySem.F.slot_list_append PySem.F.type_list_append zJ4 (pv 3) (@zA0 _ _ _ _ _ (@zB6 _ _ _ _ _ _ _ _ xM3 (pv 5) (@zK8 _ _ _ _ (@zA0 _ _ _ _ _ (zF5 (zE2 hr) (pv 1) (pv 4) (fun _ _=>rfl)) zA3 (by rfl)))) zA3 (by rfl))))))))
   (@zA6 _ _ _ (zC0 (yV3 (K:=K) rfl rfl (by rfl) T.z_dict (by rfl) T.z_zip (@zA0 _ _ _ _ _ (pv 2) (@zA0 _ _ _ _ _ (zB7 G_solved hr (by rfl) zB8 (@zA0 _ _ _ _ _ (pv 3) zA3 (by rfl))) zA3 (by rfl)) (by rfl)))))))),?_⟩
  have hkeys:∀ kv ∈ rows,∃ z,kv.1 = .inr z:=fun kv h=>(let ⟨z,e,_⟩:=TB.keys kv h; ⟨z,e⟩)
  refine ⟨_,rfl,pr,_,rfl,hrw,rfl,fun qs hqs pc hpc=>?_⟩
  have hqs:qs = rows.map fun kv=>(kV kv.1,kv.2):=hqs
  have ec:qs.map (·.1) = C.map V.str:=by
   rw [hqs,List.map_map,<- hC]
   exact yE6 hkeys
  rw [ec]
  have t1:=Same.upd (o:=.lst (C.map V.str)) hpc
  have h1c:=zA1 (H:=H) (a:=pc) (o:=.lst (C.map V.str))
  generalize upd H pc (.lst (C.map V.str)) = H1 at *
  refine ⟨sz (by simp),fun pe hpe=>?_⟩
  have t2:=t1.trans (Same.upd (o:=.lst []) hpe)
  have h2c:=(Same.upd (o:=.lst []) hpe) _ _ h1c
  have hpe0:=t1.free hpe
  let n:=C.length
  let c:Nat->Str:=fun i=>C.getD i ""
  have hcN:Nmd C c:=xV0 C
  refine ⟨_,rfl,pc,rfl,⟨_,SqL.of h2c⟩,?_⟩
  refine zF7 (xs:=C.map V.str) (fun i σ H2=>∃ (v4 v5 v6 v7:Option V) (bs:List Addr),σ = [some (.ref pr),some (.ref pa),some (.ref pc),some (.ref pe),v4,v5,v6,v7] /\ Same H H2 /\ H2 pc = some (.lst (C.map V.str)) /\ H2 pe = some (.lst (bs.map V.ref)) /\ bs.length = i /\ ∀ j q,bs[j]? = some q->q ≠ pe /\ LsF H2 q (nR (n + 1) (eqM n c R b j))) ⟨none,none,none,none,[],rfl,t2,h2c,zA1,rfl,fun j q e=>by simp at e⟩ ?_ ?_ ?_
  ·rintro i σ H2 hi ⟨v4,v5,v6,v7,bs,rfl,s2,hc2,he2,lb,hB⟩
   exact SqL.of hc2
  ·rintro i x σ H2 hx ⟨v4,v5,v6,v7,bs,rfl,s2,hc2,he2,lb,hB⟩
   obtain ⟨nm,rfl,hi⟩:=zO7 hx
   have hil:i < C.length:=(List.getElem?_eq_some_iff.mp hi).1
   have eni:nm = c i:=by have:=hcN i hil; rw [hi] at this; exact Option.some.inj this
   have hnm:nm ∈ C:=List.mem_of_getElem? hi
   refine ⟨sz (by simp),fun pq hpq=>?_⟩
   have t3:=Same.upd (o:=.lst []) hpq
   have hpq0:=s2.free hpq
   refine ⟨_,rfl,pc,rfl,⟨_,SqL.of (t3 _ _ hc2)⟩,?_⟩
   refine zF7 (xs:=C.map V.str) (fun j σ H3=>∃ (v6 v7:Option V) (ws:List V),σ = [some (.ref pr),some (.ref pa),some (.ref pc),some (.ref pe),some (.str nm),some (.ref pq),v6,v7] /\ Same H2 H3 /\ H3 pq = some (.lst ws) /\ Paired (FrV H3) ws (nR j (eqM n c R b i))) ⟨_,_,[],rfl,t3,zA1,.nil⟩ ?_ ?_ ?_
   ·rintro j σ H3 hj ⟨v6,v7,ws,rfl,s3,hq3,hW⟩
    exact SqL.of (s3 _ _ hc2)
   ·rintro j y σ H3 hy ⟨v6,v7,ws,rfl,s3,hq3,hW⟩
    obtain ⟨ck,rfl,hj⟩:=zO7 hy
    have hjl:j < C.length:=(List.getElem?_eq_some_iff.mp hj).1
    have enj:ck = c j:=by have:=hcN j hjl; rw [hj] at this; exact Option.some.inj this
    have hck:ck ∈ C:=List.mem_of_getElem? hj
    obtain ⟨vr,_,kvs,hrow,rr⟩:=TB.row ck hck
    have lW:ws.length = j:=hW.length.trans (zP0 j _)
    have s03:=s2.trans s3
    have bR:Bd 8000 (R ck nm):=((G.part ck (hCL ck hck) nm).bd (n:=d + 1) D0 (Nat.le_refl _) (by rw [Nat.one_mul,Nat.pow_succ]; have:=Nat.two_pow_pos d; omega)).mono (by omega)
    refine ⟨_,rfl,_,rfl,rfl,_,rfl,?_⟩
    refine ite2 (fun h=>?A) (fun h=>?B)
    case' A =>
     have h:ck = nm:=V.str.inj (of_decide_eq_true h)
     refine ⟨sz (by simp),fun p1 hp1=>?_⟩
     have t4:=Same.upd (o:=.tup [.int 1,.int 1]) hp1
     have fd:=FrV.newOf (H:=H3) (p:=p1) (t:=1) (b:=1) (r:=1) rfl rfl
     generalize upd H3 p1 (.tup [.int 1,.int 1]) = H4 at *
     have bdl:Bd 8000 (1:Rat):=⟨Nat.one_lt_two_pow (by decide),Nat.one_lt_two_pow (by decide)⟩
     have edl:eqM n c R b i j = 1 - R ck nm:=by unfold eqM; rw [if_pos hjl,<- enj,<- eni,if_pos h]
    case' B =>
     have h:ck ≠ nm:=fun e=>h (decide_eq_true (by rw [e]))
     refine ⟨sz (by simp),fun p1 hp1=>?_⟩
     have t4:=Same.upd (o:=.tup [.int 0,.int 1]) hp1
     have fd:=FrV.newOf (H:=H3) (p:=p1) (t:=0) (b:=1) (r:=0) rfl rfl
     generalize upd H3 p1 (.tup [.int 0,.int 1]) = H4 at *
     have bdl:Bd 8000 (0:Rat):=⟨Nat.two_pow_pos _,Nat.one_lt_two_pow (by decide)⟩
     have edl:eqM n c R b i j = 0 - R ck nm:=by unfold eqM; rw [if_pos hjl,<- enj,<- eni,if_neg h]
    all_goals
     have s04:=s03.trans t4
     have hq4:=t4 _ _ hq3
     refine ⟨_,rfl,.inl ⟨rfl,_,SqL.of hq4⟩,_,rfl,_,rfl,_,rfl,pr,.ref (ad ck),rfl,?_,ad ck,rfl,.inl ⟨kvs,.inl (s04 _ _ hrow)⟩,_,rfl,sz (by simp),fun q0 hq0=>⟨valV kvs (.inr nm),DGet.k (k:=.inr nm) (Same.upd hq0 _ _ (s04 _ _ hrow)),?_⟩⟩
     ·have g:=DGet.k (k:=.inr ck) (s04 _ _ hrw)
      rw [vr] at g; exact g
     have z0:=Same.upd (o:=.tup [.int 0,.int 1]) hq0
     have fg:FrV (upd H4 q0 (.tup [.int 0,.int 1])) ((valV kvs (.inr nm)).getD (.ref q0)) (R ck nm):=by
      have:=(rr.same (fun v r f=>(f.same s04).same z0)).getD (FrV.newOf (r:=0) (p:=q0) rfl rfl) nm
      rw [zO9] at this
      unfold resC at this
      rw [if_pos hnm] at this
      exact this
     refine ⟨_,_,_,R ck nm,rfl,fd.same z0,fg,bdl,bR,fun u6 H6 s6 f6=>?_⟩
     have s46:=z0.trans s6
     have hq6:=s46 _ _ hq4
     refine ⟨pq,_,_,rfl,rfl,hq6,sz (by omega),?_⟩
     refine ⟨_,_,ws ++ [u6],rfl,(s3.trans (t4.trans s46)).updD hpq,zA1,?_⟩
     rw [zX6,edl]
     have tu:=zC8 (o:=.lst (ws ++ [u6])) hq6 (fun _ z=>nomatch z)
     exact Paired.snoc (Paired.mapP hW fun _ _ f=>(f.same (t4.trans s46)).tup tu) (f6.tup tu)
   ·rintro σ H3 ⟨v6,v7,ws,rfl,s3,hq3,hW⟩
    rw [List.length_map] at hW
    have s03:=s2.trans s3
    obtain ⟨vb,ev,fb⟩:=rb.has nm (b nm) (by unfold all; rw [if_pos hnm])
    have lW:ws.length = n:=hW.length.trans (zP0 n _)
    have he3:=s3 _ _ he2
    have npq:pe ≠ pq:=zA8 he2 hpq
    refine ⟨_,rfl,.inl ⟨rfl,_,SqL.of he3⟩,_,rfl,_,rfl,_,rfl,pa,vb,rfl,?_,sz (by simp),fun pl hpl=>?_⟩
    ·have g:=DGet.k (k:=.inr nm) (s03 _ _ hb)
     rw [ev] at g; exact g
    have t4:=Same.upd (o:=.lst [vb]) hpl
    refine ⟨pq,pl,_,_,rfl,rfl,t4 _ _ hq3,zA1,sz (by simp; omega),fun pn hpn=>?_⟩
    have t5:=t4.trans (Same.upd (o:=.lst (ws ++ [vb])) hpn)
    have hpn3:=zA1 (H:=upd H3 pl (.lst [vb])) (a:=pn) (o:=.lst (ws ++ [vb]))
    have he5:=t5 _ _ he3
    have npe:pn ≠ pe:=fun e=>by have:=t4 _ _ he3; rw [e,this] at hpn; cases hpn
    generalize upd (upd H3 pl (.lst [vb])) pn (.lst (ws ++ [vb])) = H5 at *
    refine ⟨pe,_,_,rfl,rfl,he5,sz (by rw [List.length_map]; omega),?_⟩
    have tu:=zC8 (o:=.lst (bs.map V.ref ++ [.ref pn])) he5 (fun _ z=>nomatch z)
    have s25:=s3.trans t5
    refine ⟨_,_,_,_,bs ++ [pn],rfl,(s2.trans s25).updD hpe0,?_,by rw [zA1,List.map_append]; rfl,by rw [List.length_append,lb]; rfl,fun j q e=>?_⟩
    ·have:pc ≠ pe:=zA8 h1c hpe
     rw [upd_ne this]; exact s25 _ _ hc2
    rcases yT0 e with e | ⟨e1,rfl⟩
    ·obtain ⟨n1,l1⟩:=hB j q e
     exact ⟨n1,(l1.same s25).keep tu fun vs h=>by rw [upd_ne n1]; exact h⟩
    ·refine ⟨npe,ws ++ [vb],by rw [upd_ne npe]; exact hpn3,?_⟩
     rw [e1,lb,zX6]
     refine Paired.snoc (Paired.mapP hW fun _ _ f=>(f.same t5).tup tu) ?_
     have e2:eqM n c R b i n = b nm:=by unfold eqM; rw [if_neg (by omega),<- eni]
     rw [e2]
     exact (fb.same (s03.trans t5)).tup tu
  ·rintro σ H2 ⟨v4,v5,v6,v7,bs,rfl,s2,hc2,he2,lb,hB⟩
   rw [List.length_map] at lb
   refine ⟨_,rfl,_,rfl,pe,n,d,e,eqM n c R b,rfl,⟨bs,he2,lb,fun j q h=>(hB j q h).2⟩,c5,xW6 hcN hCL G D0 E0' EW hcd Dd We,b1,b2,fun y h1 h2=>xJ3 hcN nC (G.sub nC nL hCL) hlk b h1 h2,fun ps H3 x hps s3 hx hsol hbd=>?_⟩
   obtain ⟨vs,hvs,hV⟩:=hx
   have lV:vs.length = C.length:=hV.length.trans (zP0 _ _)
   refine ⟨pc,ps,C,vs,rfl,SqL.of (s3 _ _ hc2),SqL.of hvs,nC,lV,by omega,fun p hp=>?_⟩
   have t4:=Same.upd (o:=.dK (zipV C vs)) hp
   have s04:=s2.trans (s3.trans t4)
   have hsol':∀ i,i < C.length->sN C.length (fun j=>eqM C.length c R b i j * x j) = b (c i):=fun i hi=>by
    have:=hsol i hi
    rw [this]
    unfold eqM
    rw [if_neg (by show ¬ C.length < C.length; omega)]
   refine k p _ _ (fun z=>x (C.idxOf z)) (s2.free (s3.free hp)) s04 zA1 ((RowAt.zip nC hV).same fun v r f=>f.same t4) (zU4 lV) (xR0 hcN nC R b hsol') ?_
   obtain ⟨E2,W2,g1,g2,g3,g4⟩:=hbd
   exact ⟨E2,W2,g1,g2,g3,fun z hz=>g4 _ (List.idxOf_lt_length_of_mem hz)⟩
noncomputable abbrev zF8:Stmt:=top 28
theorem sc_closed_casks:zB5 ["rows","leaking","name","shares","again"] ["rows"] (zA5 zF8):=⟨rfl,rfl,rfl,by decide +kernel,rfl,by decide +kernel,by decide +kernel⟩
theorem zX2 {ca:Ca} (D:DefAt K mg "closed_casks" zF8) (T:Txt K mg ca) (G_sum_of:FnAt P w K mg base CX0 3 "sum_of" ["some"] (yM2 K)):FnAt P w K mg base CX0 4 "closed_casks" ["rows"] (yQ6):=by
 refine D.ok sc_closed_casks (fun vs H Q E h=>?_) (fun _ _ _ _ _ _ us hl=>match us,hl with | [_],_=>rfl) (fun f cdv A outer s H vs Q E hr h=>?_)
 ·obtain ⟨pr,H0,rows,ad,C,L,R,Dn,rfl,hrw,TB,hC,nC,c5,nL,hCL,G,D0,DB,k⟩:=h; rfl
 ·obtain ⟨pr,H0,rows,ad,C,L,R,Dn,rfl,hrw,TB,hC,nC,c5,nL,hCL,G,D0,DB,k⟩:=h
  have nd:=sc_closed_casks.nd
  refine ⟨_,(@zA4 _ _ _ _ _ (@zB1 _ _ 1 _ _ _ _ nd rfl (Or.inr rfl) zF4 (by rfl) (Or.inl rfl))
   (@zA4 _ _ _ _ _ (zO8 (zD6 PassesOwn.never rfl (zN9 (zM0 (K:=K) rfl PySem.F.plainAttrs_dict PySem.F.slot_dict_items PySem.F.type_dict_items zO0 (pv 0))) (zP9 rfl (zC7 (zA9 (i:=2) nd rfl (Or.inl rfl)) (zC7 (zA9 (i:=3) nd rfl (Or.inl rfl)) zK4))) (@zA6 _ _ _ (zK2 (zC1 (zQ5 (K:=K) rfl hr) (zB7 G_sum_of hr (by rfl) zB8 (@zA0 _ _ _ _ _ (zJ3 (zQ2 rfl) (by rfl) T.z_list zT9 (@zA0 _ _ _ _ _ (zM0 (K:=K) rfl PySem.F.plainAttrs_dict PySem.F.slot_dict_values PySem.F.type_dict_values yN6 (pv 3)) zA3 (by rfl))) zA3 (by rfl))) (@zC3 _ _ _ _ _ (@zA0 _ _ _ _ _ zA2 (@zA0 _ _ _ _ _ zA2 zA3 (by rfl)) (by rfl))) (zD3 _)) (@zA6 _ _ _ (zF1 (zE2 hr) (pv 1) (pv 2) zY9 rfl)) zE1))))
   (@zA4 _ _ _ _ _ (zD6 PassesOwn.never rfl (zH3 (by rfl) T.z_range (@zA0 _ _ _ _ _ (zC9 yK5 (by rfl) T.z_len PySem.boot_len (@zA0 _ _ _ _ _ (pv 0) zA3 (by rfl))) zA3 (by rfl))) (zA9 (i:=4) nd rfl (Or.inl rfl)) (@zA6 _ _ _ (zO8 (zD6 PassesOwn.never rfl (zN9 (zM0 (K:=K) rfl PySem.F.plainAttrs_dict PySem.F.slot_dict_items PySem.F.type_dict_items zO0 (pv 0))) (zP9 rfl (zC7 (zA9 (i:=2) nd rfl (Or.inl rfl)) (zC7 (zA9 (i:=3) nd rfl (Or.inl rfl)) zK4))) (@zA6 _ _ _ (zK2 (zU1 (zC9 (xF4 (K:=K) rfl rfl) (by rfl) T.z_any xX6 (@zA0 _ _ _ _ _ (yC3 (zL9 ["end"] ["leaking"] [1] rfl (by rfl) (zS9 (pv 3)) (fun _ _ _ _=>(zA9 (i:=0) (show List.Nodup (["end","leaking"]:List Str) from by decide) rfl (Or.inl rfl))) (fun _ _ _ _=>zK5) (fun _ _ _ _=>(xU2 (xM2 (zE2 hr) (pv 0) (pv 1)))))) zA3 (by rfl)))) (@zA6 _ _ _ (zF1 (zE2 hr) (pv 1) (pv 2) zY9 rfl)) zE1))))))
   (@zA6 _ _ _ (zC0 (zC9 (yF2 (K:=K) rfl) (by rfl) T.z_sorted yK6 (@zA0 _ _ _ _ _ (yC3 (zL9 ["name"] ["leaking"] [1] rfl (by rfl) (zS9 (pv 0)) (fun _ _ _ _=>(zA9 (i:=0) (show List.Nodup (["name","leaking"]:List Str) from by decide) rfl (Or.inl rfl))) (fun _ _ _ _=>(zS8 (xA2 (yI5 (zE2 hr) (pv 0) (pv 1))))) (fun _ _ _ _=>(pv 0)))) zA3 (by rfl)))))))),?_⟩
  have hkeys:∀ kv ∈ rows,∃ z,kv.1 = .inr z:=fun kv h=>(let ⟨z,e,_⟩:=TB.keys kv h; ⟨z,e⟩)
  have lR:rows.length = C.length:=by rw [<- zD2,hC]
  intro p hp
  have tp:=Same.upd (o:=.dK []) hp
  have npr:p ≠ pr:=fun e=>by rw [e,hrw] at hp; cases hp
  have hr1:=tp _ _ hrw
  have hp1:=zA1 (H:=H) (a:=p) (o:=.dK [])
  have TB1:=TB.same tp
  generalize upd H p (.dK []) = H1 at *
  refine ⟨pr,_,hr1,rfl,?_⟩
  refine ⟨_,rfl,.inr (.inr (.inl ⟨rfl,.inl ⟨_,hr1⟩⟩)),pr,_,rfl,rfl,hr1,rfl,fun pv hpv=>?_⟩
  have tv:=Same.upd (o:=zQ6 pv pr) hpv
  refine ⟨pv,pr,_,rfl,zA1,tv _ _ hr1,rfl,fun o qs hqs=>?_⟩
  have hqs:qs = rows.map fun kv=>(kV kv.1,kv.2):=hqs
  subst hqs
  have SB:=G.sub nC nL hCL
  have hadp:∀ z ∈ C,ad z ≠ p /\ ad z ≠ pr:=fun z hz=>by
   refine ⟨fun e=>?_,TB.apart z hz⟩
   obtain ⟨_,_,kv,c,_⟩:=TB.row z hz
   rw [e,hp] at c; cases c
  have adi:∀ {H2:Hp},(∀ c ob,H1 c = some ob->c ≠ p->c ≠ pr->H2 c = some ob)->∀ z ∈ C,∃ kvs,H2 (ad z) = some (.dK kvs) /\ RowAt H2 kvs (op (resC C R z)):=fun {H2} kp z hz=>by
   obtain ⟨_,_,kvs,c,rr⟩:=TB1.row z hz
   exact ⟨kvs,kp _ _ c (hadp z hz).1 (hadp z hz).2,rr.same fun v r g=>g.tup fun a xs e=>kp a _ e (zG3 e hp1 (by intro z; cases z)) (zG3 e hr1 (by intro z; cases z))⟩
  have keyat:∀ {i:Nat} {k' v:V},(rows.map fun kv=>(kV kv.1,kv.2))[i]? = some (k',v)->∃ z,k' = .str z /\ v = .ref (ad z) /\ z ∈ C /\ C[i]? = some z:=fun {i k' v} hk=>by
   rw [List.getElem?_map] at hk
   cases q:rows[i]? with
   | none=>rw [q] at hk; cases hk
   | some kvi =>
    rw [q] at hk
    obtain ⟨rfl,rfl⟩:=Prod.mk.inj (Option.some.inj hk)
    obtain ⟨z,hz,hzC⟩:=TB.keys kvi (List.mem_of_getElem? q)
    refine ⟨z,by rw [hz]; rfl,?_,hzC,?_⟩
    ·have:=zK9 TB.nodup q
     rw [hz,(TB.row z hzC).1] at this
     exact (Option.some.inj this).symm
    ·rw [<- hC]
     unfold nms
     rw [List.getElem?_map,q]
     show some (nmz kvi.1) = _
     rw [hz]; rfl
  refine zN5 (fun i σ H2=>∃ (v2 v3:Option V) (S:List Str),σ = [some (.ref pr),some (.ref p),v2,v3,none] /\ H2 pr = some (.frz o (.dK rows)) /\ (∀ c ob,H1 c = some ob->c ≠ p->c ≠ pr->H2 c = some ob) /\ H2 p = some (.dK (trK S)) /\ S.Nodup /\ ∀ x,x ∈ S ↔ x ∈ C.take i /\ sumL C (R x) ≠ 1) ?_ ?_ ?_ ?_
  ·refine ⟨none,none,[],rfl,zA1,fun c ob e _ n=>by rw [upd_ne n]; exact tv _ _ e,by rw [upd_ne npr]; exact tv _ _ hp1,List.nodup_nil,fun x=>by simp⟩
  ·rintro i σ H2 ⟨_,_,_,_,h,_⟩
   exact h
  ·rintro i k' v T' σ H2 hk ⟨v2,v3,S,rfl,hfz,kp,h2,nS,mS⟩ hT
   obtain ⟨z,rfl,rfl,hzC,hiz⟩:=keyat hk
   have tT:=Same.upd (o:=.tup [.str z,.ref (ad z)]) hT
   refine ⟨T',_,rfl,SqT.of zA1,rfl,_,_,rfl,_,_,rfl,rfl,?_⟩
   have kp3:∀ c ob,H1 c = some ob->c ≠ p->c ≠ pr->upd H2 T' (.tup [.str z,.ref (ad z)]) c = some ob:=fun c ob e n1 n2=>tT _ _ (kp c ob e n1 n2)
   have hfz3:=tT _ _ hfz
   have h3:=tT _ _ h2
   generalize upd H2 T' (.tup [.str z,.ref (ad z)]) = H3 at *
   obtain ⟨kvs,hrow,rr⟩:=adi kp3 z hzC
   have hpz:∀ y,IsM Dn 1 (resC C R z y):=fun y=>by
    unfold resC
    split
    ·exact G.part z (hCL z hzC) y
    ·exact IsM.zero _ _
   have lk:kvs.length <= 5:=by
    rw [<- zD2]
    refine Nat.le_trans (zD8 (L:=C) (zE8 rr.nodup rr.keys) fun y hy=>?_) c5
    have:=op_some.mp ((rr.iff y).mp hy)
    by_cases e:y ∈ C
    ·exact e
    ·unfold resC at this; rw [if_neg e] at this; exact absurd rfl this
   refine ⟨_,rfl,.inr (.inr (.inl ⟨rfl,.inl ⟨_,hrow⟩⟩)),ad z,_,rfl,rfl,hrow,rfl,fun pv2 hpv2=>?_⟩
   have tw:=Same.upd (o:=yM0 pv2 (ad z)) hpv2
   refine ⟨pv2,ad z,_,rfl,zA1,tw _ _ hrow,rfl,fun qs hqs l hl=>?_⟩
   have hqs:qs = kvs.map fun kv=>(kV kv.1,kv.2):=hqs
   have eqs:qs.map (·.2) = kvs.map (·.2):=by rw [hqs,List.map_map]; rfl
   rw [eqs]
   have tl:=tw.trans (Same.upd (o:=.lst (kvs.map (·.2))) hl)
   refine ⟨l,kvs.map (·.2),(nms kvs).map (resC C R z),rfl,SqL.of zA1,Paired.mapP rr.vals (fun _ _ g=>g.same tl),fun r hr=>?_,fun j hj=>?_,fun u4 H4 s4 f4=>?_⟩
   ·obtain ⟨y,_,rfl⟩:=List.mem_map.mp hr
    exact ((hpz y).bd (n:=2600) D0 (Nat.le_refl _) (by omega)).mono (by decide)
   ·rw [<- List.map_take]
    have:=(yB3 hpz ((nms kvs).take j)).mono (j:=8) (by rw [List.length_take,zD2]; omega)
    exact (this.bd D0 (by decide) DB).mono (by decide)
   have es:sumQ ((nms kvs).map (resC C R z)) = sumL C (R z):=by
    show sumL (nms kvs) (resC C R z) = _
    rw [yZ5 nC rr (g:=resC C R z) fun y hy e=>by unfold resC; rw [if_pos hy]; exact e]
    exact zC6 fun y hy=>by unfold resC; rw [if_pos hy]
   rw [es] at f4
   have s34:=tl.trans s4
   refine ⟨sz (by simp),fun p0 hp0=>?_⟩
   have t0:=Same.upd (o:=.tup [.int 1,.int 1]) hp0
   refine ⟨_,_,(f4.same t0).rep,yA0 (SqT.of zA1),zN8 _ _,_,rfl,?_⟩
   rw [eq11]
   have s35:=s34.trans t0
   have hiN:=zC2 hiz
   have hzt:=yE2 nC hiz
   have hzS:z ∉ S:=fun h=>hzt ((mS z).mp h).1
   refine ite2 (fun h=>?_) (fun h=>?_)
   ·have h:sumL C (R z) ≠ 1:=fun e=>by rw [decide_eq_true e] at h; cases h
    have h5:=s35 _ _ h3
    have lS:S.length <= 5:=Nat.le_trans (zD8 nS fun y hy=>List.mem_of_mem_take ((mS y).mp hy).1) c5
    refine ⟨_,rfl,_,rfl,p,_,rfl,DPut.k (k:=.inr z) h5 (sz (by rw [yX5]; omega)),?_⟩
    rw [yX4]
    refine ⟨_,_,putS S z,rfl,by rw [upd_ne npr.symm]; exact s35 _ _ hfz3,fun c ob e n1 n2=>by rw [upd_ne n1]; exact s35 _ _ (kp3 c ob e n1 n2),zA1,xA1 nS,fun y=>?_⟩
    rw [mem_putS,mS,hiN,List.mem_append,List.mem_singleton]
    constructor
    ·rintro (⟨h1,h2⟩ | rfl)
     ·exact ⟨.inl h1,h2⟩
     ·exact ⟨.inr rfl,h⟩
    ·rintro ⟨h1 | rfl,h2⟩
     ·exact .inl ⟨h1,h2⟩
     ·exact .inr rfl
   ·have h:sumL C (R z) = 1:=by
     by_cases e:sumL C (R z) = 1
     ·exact e
     ·exact absurd (by rw [decide_eq_false e]; rfl) h
    refine ⟨_,_,S,rfl,s35 _ _ hfz3,fun c ob e n1 n2=>s35 _ _ (kp3 c ob e n1 n2),s35 _ _ h3,nS,fun y=>?_⟩
    rw [mS,hiN,List.mem_append,List.mem_singleton]
    constructor
    ·rintro ⟨h1,h2⟩
     exact ⟨.inl h1,h2⟩
    ·rintro ⟨h1 | rfl,h2⟩
     ·exact ⟨h1,h2⟩
     ·exact absurd h h2
  ·rintro σ H2 ⟨v2,v3,S,rfl,hfz,kp,h2,nS,mS⟩
   rw [List.length_map,lR,List.take_length] at mS
   have lk0:LkS C R S:=⟨nS,fun x hx=>.now ((mS x).mp hx).1 ((mS x).mp hx).2,fun x hx hn=>(mS x).mpr ⟨hx,hn⟩⟩
   refine ⟨o,.dK rows,hfz,?_⟩
   have hr3:=zA1 (H:=H2) (a:=pr) (o:=.dK rows)
   have kp3:∀ c ob,H1 c = some ob->c ≠ p->c ≠ pr->upd H2 pr (.dK rows) c = some ob:=fun c ob e n1 n2=>by rw [upd_ne n2]; exact kp c ob e n1 n2
   have h3:upd H2 pr (.dK rows) p = some (.dK (trK S)):=by rw [upd_ne npr]; exact h2
   generalize upd H2 pr (.dK rows) = H3 at *
   refine ⟨_,rfl,pr,_,rfl,hr3,?_⟩
   refine ⟨_,rfl,by omega,by omega,?_⟩
   refine zH4 (fun q σ H4=>∃ (v2 v3 v4:Option V) (S:List Str),σ = [some (.ref pr),some (.ref p),v2,v3,v4] /\ H4 pr = some (.dK rows) /\ (∀ c ob,H1 c = some ob->c ≠ p->c ≠ pr->H4 c = some ob) /\ H4 p = some (.dK (trK S)) /\ LkS C R S /\ (yL8 C R S \/ q <= S.length)) ⟨_,_,_,S,rfl,hr3,kp3,h3,lk0,.inr (Nat.zero_le _)⟩ ?_ ?_
   ·rintro q σ H4 hq ⟨v2,v3,v4,S,rfl,hr4,kp4,h4,lkS,hfull⟩
    refine ⟨pr,_,hr4,rfl,?_⟩
    refine ⟨_,rfl,.inr (.inr (.inl ⟨rfl,.inl ⟨_,hr4⟩⟩)),pr,_,rfl,rfl,hr4,rfl,fun pv hpv=>?_⟩
    have tv:=Same.upd (o:=zQ6 pv pr) hpv
    refine ⟨pv,pr,_,rfl,zA1,tv _ _ hr4,rfl,fun o qs hqs=>?_⟩
    have hqs:qs = rows.map fun kv=>(kV kv.1,kv.2):=hqs
    subst hqs
    refine zN5 (fun i σ H5=>∃ (v2 v3:Option V) (S':List Str),σ = [some (.ref pr),some (.ref p),v2,v3,some (.int (0 + (q:Int)))] /\ H5 pr = some (.frz o (.dK rows)) /\ (∀ c ob,H1 c = some ob->c ≠ p->c ≠ pr->H5 c = some ob) /\ H5 p = some (.dK (trK S')) /\ LkS C R S' /\ Swp C R S i S') ?_ ?_ ?_ ?_
    ·exact ⟨_,_,S,rfl,zA1,fun c ob e n1 n2=>by rw [upd_ne n2]; exact tv _ _ (kp4 c ob e n1 n2),by rw [upd_ne npr]; exact tv _ _ h4,lkS,Swp.start C R S⟩
    ·rintro i σ H5 ⟨_,_,_,_,h,_⟩
     exact h
    ·rintro i k' v T' σ H5 hk ⟨v2,v3,S',rfl,hfz,kp5,h5,lkS',sw⟩ hT
     obtain ⟨z,rfl,rfl,hzC,hiz⟩:=keyat hk
     have tT:=Same.upd (o:=.tup [.str z,.ref (ad z)]) hT
     refine ⟨T',_,rfl,SqT.of zA1,rfl,_,_,rfl,_,_,rfl,rfl,?_⟩
     have kp6:∀ c ob,H1 c = some ob->c ≠ p->c ≠ pr->upd H5 T' (.tup [.str z,.ref (ad z)]) c = some ob:=fun c ob e n1 n2=>tT _ _ (kp5 c ob e n1 n2)
     have hfz6:=tT _ _ hfz
     have h6:=tT _ _ h5
     generalize upd H5 T' (.tup [.str z,.ref (ad z)]) = H6 at *
     obtain ⟨kvs,hrow,rr⟩:=adi kp6 z hzC
     refine ⟨ad z,_,hrow,rfl,?_⟩
     refine ⟨_,rfl,ad z,_,rfl,hrow,rfl,fun o2 qs2 hqs2=>fun Dq hDq=>?_⟩
     have hqs2:qs2 = kvs.map fun kv=>(kV kv.1,kv.2):=hqs2
     subst hqs2
     have nDa:Dq ≠ ad z:=fun e=>by rw [e,zA1] at hDq; cases hDq
     have hD0:H6 Dq = none:=by rw [upd_ne nDa] at hDq; exact hDq
     have nap:=(hadp z hzC).1
     refine zP7 (fun j σ' H'=>∃ (v:Option V),σ' = [v,some (.ref p)] /\ H' (ad z) = some (.frz o2 (.dK kvs)) /\ (∀ c ob,H6 c = some ob->c ≠ ad z->H' c = some ob) /\ H' Dq = some (.lst (((nms (kvs.take j)).map fun y=>decide (y ∈ S')).map V.bl))) ⟨none,rfl,by rw [upd_ne nDa.symm,zA1],fun c ob e n=>by rw [upd_ne (zA8 e hD0),upd_ne n]; exact e,zA1⟩ ?_ ?_ ?_
     ·rintro j σ' H' ⟨_,_,h,_⟩
      exact h
     ·rintro j k' w' σ' H' hk ⟨v,rfl,hfa,keep,hd⟩
      obtain ⟨kvi,hki,ek⟩:∃ kvi,kvs[j]? = some kvi /\ (kV kvi.1,kvi.2) = (k',w'):=by
       rw [List.getElem?_map] at hk
       cases q:kvs[j]? with
       | none=>rw [q] at hk; cases hk
       | some kvi=>rw [q] at hk; exact ⟨kvi,rfl,Option.some.inj hk⟩
      obtain ⟨y,r,hz,hg,fr,_,hnms⟩:=rr.at hki
      obtain ⟨rfl,rfl⟩:=Prod.mk.inj ek
      obtain ⟨k0,w0⟩:=kvi
      have hz:k0 = .inr y:=hz
      subst hz
      have lj:(nms (kvs.take j)).length <= 8:=by
       rw [zD2,List.length_take]
       have:kvs.length <= 5:=by
        rw [<- zD2]
        refine Nat.le_trans (zD8 (L:=C) (zE8 rr.nodup rr.keys) fun y hy=>?_) c5
        have:=op_some.mp ((rr.iff y).mp hy)
        by_cases e:y ∈ C
        ·exact e
        ·unfold resC at this; rw [if_neg e] at this; exact absurd rfl this
       omega
      have hpH:=keep _ _ h6 nap.symm
      have eb:(valV (trK S') (.inr y)).isSome = decide (y ∈ S'):=by
       rw [yB1]
       by_cases q:y ∈ S'
       ·rw [if_pos q,decide_eq_true q]; rfl
       ·rw [if_neg q,decide_eq_false q]; rfl
      refine ⟨_,rfl,_,rfl,p,_,rfl,DGet.k (k:=.inr y) hpH,?_⟩
      refine ⟨_,hd,sz (by rw [List.length_map,List.length_map]; omega),_,rfl,by rw [upd_ne (zG3 hfa hd (by intro z; cases z))]; exact hfa,fun c ob e n=>by rw [upd_ne (zA8 e hD0)]; exact keep c ob e n,?_⟩
      rw [zA1,hnms,List.map_append,List.map_append,eb]; rfl
     ·rintro σ' H' ⟨v,rfl,hfa,keep,hd⟩
      rw [List.length_map,List.take_length] at hd
      refine ⟨o2,_,hfa,?_⟩
      have kp7:∀ c ob,H6 c = some ob->upd H' (ad z) (.dK kvs) c = some ob:=fun c ob e=>by
       by_cases q:c = ad z
       ·subst q; rw [hrow] at e; rw [zA1]; exact e
       ·rw [upd_ne q]; exact keep c ob e q
      have hd2:upd H' (ad z) (.dK kvs) Dq = some (.lst (((nms kvs).map fun y=>decide (y ∈ S')).map V.bl)):=by rw [upd_ne nDa]; exact hd
      generalize upd H' (ad z) (.dK kvs) = H7 at *
      refine ⟨Dq,_,rfl,SqL.of hd2,_,rfl,?_⟩
      have hb:((nms kvs).map fun y=>decide (y ∈ S')).any id = true ↔ ∃ y ∈ S',R z y ≠ 0:=by
       rw [List.any_map,List.any_eq_true]
       constructor
       ·rintro ⟨y,hy,h⟩
        have hyS:y ∈ S':=by simpa using h
        refine ⟨y,hyS,?_⟩
        have:=op_some.mp ((rr.iff y).mp hy)
        unfold resC at this
        rw [if_pos (lkS'.lk y hyS).mem] at this
        exact this
       ·rintro ⟨y,hy,h⟩
        refine ⟨y,(rr.iff y).mpr (op_some.mpr ?_),by simpa using hy⟩
        unfold resC
        rw [if_pos (lkS'.lk y hy).mem]; exact h
      have sw2:=sw.step hiz _ hb
      refine ite2 (fun h=>?_) (fun h=>?_)
      ·rw [if_pos h] at sw2
       obtain ⟨y,hy,hry⟩:=hb.mp h
       have lk2:=lkS'.put hzC hy hry
       have h7:=kp7 _ _ h6
       have lS:S'.length <= 5:=Nat.le_trans (zD8 lkS'.nd fun y hy=>(lkS'.lk y hy).mem) c5
       refine ⟨_,rfl,_,rfl,p,_,rfl,DPut.k (k:=.inr z) h7 (sz (by rw [yX5]; omega)),?_⟩
       rw [yX4]
       exact ⟨_,_,putS S' z,rfl,by rw [upd_ne npr.symm]; exact kp7 _ _ hfz6,fun c ob e n1 n2=>by rw [upd_ne n1]; exact kp7 _ _ (kp6 c ob e n1 n2),zA1,lk2,sw2⟩
      ·rw [if_neg h] at sw2
       exact ⟨_,_,S',rfl,kp7 _ _ hfz6,fun c ob e n1 n2=>kp7 _ _ (kp6 c ob e n1 n2),kp7 _ _ h6,lkS',sw2⟩
    ·rintro σ H5 ⟨v2,v3,S',rfl,hfz,kp5,h5,lkS',sw⟩
     rw [List.length_map,lR] at sw
     refine ⟨o,.dK rows,hfz,?_⟩
     exact ⟨_,_,_,S',rfl,zA1,fun c ob e n1 n2=>by rw [upd_ne n2]; exact kp5 c ob e n1 n2,by rw [upd_ne npr]; exact h5,lkS',sw.stop lkS' hfull⟩
   ·rintro σ H4 ⟨v2,v3,v4,S,rfl,hr4,kp4,h4,lkS,hfull⟩
    have hfull:yL8 C R S:=by
     rcases hfull with h | h
     ·exact h
     ·have h:((rows.length:Nat):Int).toNat <= S.length:=h
      exact lkS.full (by rw [<- lR]; simpa using h)
    refine ⟨pr,_,hr4,rfl,?_⟩
    refine ⟨_,rfl,pr,_,rfl,hr4,rfl,fun o2 qs2 hqs2=>fun Dq hDq=>?_⟩
    have hqs2:qs2 = rows.map fun kv=>(kV kv.1,kv.2):=hqs2
    subst hqs2
    have nDa:Dq ≠ pr:=fun e=>by rw [e,zA1] at hDq; cases hDq
    have hD0:H4 Dq = none:=by rw [upd_ne nDa] at hDq; exact hDq
    refine zP7 (fun j σ' H'=>∃ (v:Option V),σ' = [v,some (.ref p)] /\ H' pr = some (.frz o2 (.dK rows)) /\ (∀ c ob,H4 c = some ob->c ≠ pr->H' c = some ob) /\ H' Dq = some (.lst (((C.take j).filter fun y=>!decide (y ∈ S)).map V.str))) ⟨none,rfl,by rw [upd_ne nDa.symm,zA1],fun c ob e n=>by rw [upd_ne (zA8 e hD0),upd_ne n]; exact e,zA1⟩ ?_ ?_ ?_
    ·rintro j σ' H' ⟨_,_,h,_⟩
     exact h
    ·rintro j k' w' σ' H' hk ⟨v,rfl,hfa,keep,hd⟩
     obtain ⟨z,rfl,rfl,hzC,hiz⟩:=keyat hk
     have hpH:=keep _ _ h4 npr
     have eb:(!(valV (trK S) (.inr z)).isSome) = !decide (z ∈ S):=by
      rw [yB1]
      by_cases q:z ∈ S
      ·rw [if_pos q,decide_eq_true q]; rfl
      ·rw [if_neg q,decide_eq_false q]; rfl
     have et:=zC2 hiz
     have lf:((C.take j).filter fun y=>!decide (y ∈ S)).length <= 8:=by
      refine Nat.le_trans (List.length_filter_le _ _) ?_
      rw [List.length_take]; omega
     refine ⟨_,rfl,_,rfl,p,_,rfl,DGet.k (k:=.inr z) hpH,_,rfl,?_⟩
     rw [eb]
     refine ite2 (fun h=>?_) (fun h=>?_)
     ·refine ⟨_,rfl,_,hd,sz (by rw [List.length_map]; omega),_,rfl,by rw [upd_ne (zG3 hfa hd (by intro z; cases z))]; exact hfa,fun c ob e n=>by rw [upd_ne (zA8 e hD0)]; exact keep c ob e n,?_⟩
      rw [zA1,et,List.filter_append,List.map_append]
      simp only [List.filter_cons,List.filter_nil,if_pos h]
      rfl
     ·refine ⟨_,rfl,hfa,keep,?_⟩
      rw [hd,et,List.filter_append]
      simp only [List.filter_cons,List.filter_nil,if_neg h,List.append_nil]
    ·rintro σ' H' ⟨v,rfl,hfa,keep,hd⟩
     rw [List.length_map,lR,List.take_length] at hd
     refine ⟨o2,_,hfa,?_⟩
     have hd2:upd H' pr (.dK rows) Dq = some (.lst ((C.filter fun y=>!decide (y ∈ S)).map V.str)):=by rw [upd_ne nDa]; exact hd
     have lf:(C.filter fun y=>!decide (y ∈ S)).length <= 8:=by
      refine Nat.le_trans (List.length_filter_le _ _) ?_
      omega
     have hS0:Same H (upd H' pr (.dK rows)):=fun c ob e=>by
      have ncp:c ≠ p:=zA8 e hp
      by_cases q:c = pr
      ·subst q; rw [hrw] at e; rw [zA1]; exact e
      ·rw [upd_ne q]
       exact keep c ob (kp4 c ob (tp c ob e) ncp q) q
     refine ⟨Dq,_,rfl,SqL.of hd2,by omega,fun ss' hpm hst l hl=>?_⟩
     refine k l _ ss' (hS0.free hl) (hS0.trans (Same.upd hl)) zA1 (hpm.nodup_iff.mpr (nC.filter _)) (fun x=>?_) hst
     rw [hpm.mem_iff,List.mem_filter]
     constructor
     ·rintro ⟨h1,h2⟩
      refine ⟨h1,fun hl=>?_⟩
      rw [decide_eq_true (hfull x hl)] at h2; cases h2
     ·rintro ⟨h1,h2⟩
      refine ⟨h1,?_⟩
      rw [decide_eq_false fun h=>h2 (lkS.lk x h)]; rfl
noncomputable abbrev zL2:Stmt:=top 29
theorem sc_nearness:zB5 ["rows","staying","name","k","share","after","shares","part"] ["rows"] (zA5 zL2):=⟨rfl,rfl,rfl,by decide +kernel,rfl,by decide +kernel,by decide +kernel⟩
theorem yN0 {ca:Ca} (D:DefAt K mg "nearness" zL2) (T:Txt K mg ca) (G_sum_of:FnAt P w K mg base CX0 3 "sum_of" ["some"] (yM2 K)) (G_times:FnAt P w K mg base CX0 2 "times" ["one","other"] (spTimes)) (G_under:FnAt P w K mg base CX0 1 "under" ["one","other"] (yY0)):FnAt P w K mg base CX0 4 "nearness" ["rows"] (xL1):=by
 refine D.ok sc_nearness (fun vs H Q E h=>?_) (fun _ _ _ _ _ _ us hl=>match us,hl with | [_],_=>rfl) (fun f cdv A outer s H vs Q E hr h=>?_)
 ·obtain ⟨pr,H0,rows,ad,C,L,R,Dn,rfl,hrw,TB,hC,nC,ne,c5,nL,hCL,G,D0,DB,hlk,k⟩:=h; rfl
 ·obtain ⟨pr,H0,rows,ad,C,L,R,Dn,rfl,hrw,TB,hC,nC,ne,c5,nL,hCL,G,D0,DB,hlk,k⟩:=h
  have nd:=sc_nearness.nd
  refine ⟨_,(@zA4 _ _ _ _ _ (@zB1 _ _ 1 _ _ _ _ nd rfl (Or.inr rfl) zF4 (by rfl) (Or.inl rfl))
   (@zA4 _ _ _ _ _ (zO8 (zD6 PassesOwn.never rfl (zS9 (pv 0)) (zA9 (i:=2) nd rfl (Or.inl rfl)) (@zA6 _ _ _ (zF1 (zE2 hr) (pv 1) (pv 2) (@zC3 _ _ _ _ _ (@zA0 _ _ _ _ _ zA2 (@zA0 _ _ _ _ _ zA2 zA3 (by rfl)) (by rfl))) rfl))))
   (@zA4 _ _ _ _ _ (@zB1 _ _ 3 _ _ _ _ nd rfl (Or.inl rfl) zA2 (by rfl) (Or.inl rfl))
   (@zA4 _ _ _ _ _ (@zB1 _ _ 4 _ _ _ _ nd rfl (Or.inl rfl) (@zC3 _ _ _ _ _ (@zA0 _ _ _ _ _ zA2 (@zA0 _ _ _ _ _ zA2 zA3 (by rfl)) (by rfl))) (by rfl) (Or.inl rfl))
   (@zA4 _ _ _ _ _ (zU9 PassesOwn.never (zC1 (zX1 (K:=K) rfl hr) (pv 4) (@zC3 _ _ _ _ _ (@zA0 _ _ _ _ _ zA2 (@zA0 _ _ _ _ _ zA2 zA3 (by rfl)) (by rfl))) (zD3 _)) (@zA4 _ _ _ _ _ (@zB1 _ _ 5 _ _ _ _ nd rfl (Or.inl rfl) zF4 (by rfl) (Or.inl rfl))
   (@zA4 _ _ _ _ _ (zO8 (zD6 PassesOwn.never rfl (zN9 (zM0 (K:=K) rfl PySem.F.plainAttrs_dict PySem.F.slot_dict_items PySem.F.type_dict_items zO0 (pv 0))) (zP9 rfl (zC7 (zA9 (i:=2) nd rfl (Or.inl rfl)) (zC7 (zA9 (i:=6) nd rfl (Or.inl rfl)) zK4))) (@zA6 _ _ _ (zF1 (zE2 hr) (pv 5) (pv 2) (zB7 G_sum_of hr (by rfl) zB8 (@zA0 _ _ _ _ _ (yC3 (zL9 ["end","part"] ["staying"] [1] rfl (by rfl) (zN9 (zM0 (K:=K) rfl PySem.F.plainAttrs_dict PySem.F.slot_dict_items PySem.F.type_dict_items zO0 (pv 6))) (fun _ _ _ _=>(yM6 (K:=K) (n:=2) (by rfl) (by rfl) (zC7 (zA9 (i:=0) (show List.Nodup (["end","part","staying"]:List Str) from by decide) rfl (Or.inl rfl) (hf:=Or.inr (by rfl))) (zC7 (zA9 (i:=1) (show List.Nodup (["end","part","staying"]:List Str) from by decide) rfl (Or.inl rfl) (hf:=Or.inr (by rfl))) zK4)))) (fun _ _ _ _=>zK5) (fun _ _ _ _=>(zB7 G_times hr (by rfl) zB8 (@zA0 _ _ _ _ _ (pv 1) (@zA0 _ _ _ _ _ (zF5 (zE2 hr) (pv 2) (pv 0) (fun _ _=>rfl)) zA3 (by rfl)) (by rfl)))))) zA3 (by rfl))) rfl))))
   (@zA4 _ _ _ _ _ (@zB1 _ _ 1 _ _ _ _ nd rfl (Or.inr rfl) (pv 5) (by rfl) (Or.inl rfl))
   (@zA4 _ _ _ _ _ (xL8 (i:=3) nd rfl (Or.inl rfl) zA2 xM8)
   (@zA4 _ _ _ _ _ (@zB1 _ _ 4 _ _ _ _ nd rfl (Or.inl rfl) (@zC3 _ _ _ _ _ (@zA0 _ _ _ _ _ zA2 (@zA0 _ _ _ _ _ zA2 zA3 (by rfl)) (by rfl))) (by rfl) (Or.inl rfl))
   (@zA6 _ _ _ (zO8 (zD6 PassesOwn.never rfl (xP4 (zM0 (K:=K) rfl PySem.F.plainAttrs_dict PySem.F.slot_dict_values PySem.F.type_dict_values yN6 (pv 1))) (zA9 (i:=7) nd rfl (Or.inl rfl)) (@zA6 _ _ _ (@zB1 _ _ 4 _ _ _ _ nd rfl (Or.inl rfl) (yS0 (zU1 (zB7 G_under hr (by rfl) zB8 (@zA0 _ _ _ _ _ (pv 4) (@zA0 _ _ _ _ _ (pv 7) zA3 (by rfl)) (by rfl)))) (pv 7) (pv 4)) (by rfl) (Or.inl rfl))))))))))))
   (@zA6 _ _ _ (zC0 (@zC3 _ _ _ _ _ (@zA0 _ _ _ _ _ (pv 3) (@zA0 _ _ _ _ _ (pv 4) zA3 (by rfl)) (by rfl)))))))))),?_⟩
  have hkeys:∀ kv ∈ rows,∃ z,kv.1 = .inr z:=fun kv h=>(let ⟨z,e,_⟩:=TB.keys kv h; ⟨z,e⟩)
  have lR:rows.length = C.length:=by rw [<- zD2,hC]
  have SB:=G.sub nC nL hCL
  have hD5:∀ q,q <= 5->Dn ^ q <= 2 ^ 2500:=fun q hq=>by
   have h1:Dn ^ q <= (2 ^ 500) ^ q:=Nat.pow_le_pow_left DB q
   rw [<- Nat.pow_mul] at h1
   exact Nat.le_trans h1 (Nat.pow_le_pow_right (by decide) (by omega))
  have stB:∀ q,q <= 5->∀ x ∈ C,Bd 8000 (stay C R q x):=fun q hq x hx=>by
   refine ((zQ9 G nC nL hCL q x hx).bd (n:=2501) (Nat.pow_pos D0) (Nat.le_refl _) ?_).mono (by decide)
   rw [Nat.one_mul]
   exact Nat.lt_of_le_of_lt (hD5 q hq) (Nat.pow_lt_pow_right (by decide) (by decide))
  have keyat:∀ {i:Nat} {k' v:V},(rows.map fun kv=>(kV kv.1,kv.2))[i]? = some (k',v)->∃ z,k' = .str z /\ v = .ref (ad z) /\ z ∈ C /\ C[i]? = some z:=fun {i k' v} hk=>by
   rw [List.getElem?_map] at hk
   cases q:rows[i]? with
   | none=>rw [q] at hk; cases hk
   | some kvi =>
    rw [q] at hk
    obtain ⟨rfl,rfl⟩:=Prod.mk.inj (Option.some.inj hk)
    obtain ⟨z,hz,hzC⟩:=TB.keys kvi (List.mem_of_getElem? q)
    refine ⟨z,by rw [hz]; rfl,?_,hzC,?_⟩
    ·have:=zK9 TB.nodup q
     rw [hz,(TB.row z hzC).1] at this
     exact (Option.some.inj this).symm
    ·rw [<- hC]
     unfold nms
     rw [List.getElem?_map,q]
     show some (nmz kvi.1) = _
     rw [hz]; rfl
  intro p hp
  have tp:=Same.upd (o:=.dK []) hp
  have npr:p ≠ pr:=fun e=>by rw [e,hrw] at hp; cases hp
  have hr1:=tp _ _ hrw
  have hp1:=zA1 (H:=H) (a:=p) (o:=.dK [])
  generalize upd H p (.dK []) = H1 at *
  refine ⟨pr,_,hr1,rfl,?_⟩
  refine ⟨_,rfl,pr,_,rfl,hr1,rfl,fun o qs hqs=>?_⟩
  have hqs:qs = rows.map fun kv=>(kV kv.1,kv.2):=hqs
  subst hqs
  have mono1:∀ {H2:Hp},(∀ c ob,H1 c = some ob->c ≠ p->c ≠ pr->H2 c = some ob)->H2 pr = some (.dK rows)->Same H H2:=fun {H2} kp h c ob e=>by
   have ncp:c ≠ p:=zA8 e hp
   by_cases q:c = pr
   ·subst q; rw [hrw] at e; cases e; exact h
   ·exact kp c ob (tp c ob e) ncp q
  refine yT3 (fun i σ H2=>∃ (v2:Option V) (kv:List (Key × V)),σ = [some (.ref pr),some (.ref p),v2,none,none,none,none,none] /\ H2 pr = some (.frz o (.dK rows)) /\ (∀ c ob,H1 c = some ob->c ≠ p->c ≠ pr->H2 c = some ob) /\ H2 p = some (.dK kv) /\ RowAt H2 kv (all (C.take i) (stay C R 0)) /\ nms kv = C.take i) ?_ ?_ ?_ ?_
  ·refine ⟨none,[],rfl,zA1,fun c ob e _ n=>by rw [upd_ne n]; exact e,by rw [upd_ne npr]; exact hp1,?_,rfl⟩
   rw [List.take_zero,zY6]; exact RowAt.nil _
  ·rintro i σ H2 ⟨_,_,_,h,_⟩
   exact h
  ·rintro i k' v σ H2 hk ⟨v2,kv,rfl,hfz,kp,h2,row,hn⟩
   obtain ⟨z,rfl,rfl,hzC,hiz⟩:=keyat hk
   have hil:i < C.length:=(List.getElem?_eq_some_iff.mp hiz).1
   have lk:kv.length <= 8:=by rw [<- zD2,hn,List.length_take]; omega
   refine ⟨sz (by simp),fun p1 hp1'=>?_⟩
   have t3:=Same.upd (o:=.tup [.int 1,.int 1]) hp1'
   have f0:=FrV.newOf (H:=H2) (p:=p1) (t:=1) (b:=1) (r:=1) rfl rfl
   have row3:=row.same fun v r f=>f.same t3
   have h3:=t3 _ _ h2
   have hfz3:=t3 _ _ hfz
   have kp3:∀ c ob,H1 c = some ob->c ≠ p->c ≠ pr->upd H2 p1 (.tup [.int 1,.int 1]) c = some ob:=fun c ob e n1 n2=>t3 _ _ (kp c ob e n1 n2)
   generalize upd H2 p1 (.tup [.int 1,.int 1]) = H3 at *
   refine ⟨_,rfl,_,rfl,p,_,rfl,DPut.k (k:=.inr z) h3 (sz (by omega)),?_⟩
   have tu:=zC8 (o:=.dK (putK kv (.inr z) (.ref p1))) h3 (fun _ z=>nomatch z)
   have et:=zC2 hiz
   refine ⟨_,putK kv (.inr z) (.ref p1),rfl,by rw [upd_ne npr.symm]; exact hfz3,fun c ob e n1 n2=>by rw [upd_ne n1]; exact kp3 c ob e n1 n2,zA1,?_,?_⟩
   ·rw [et,zS1]
    exact (row3.put (z:=z) f0).same fun v r g=>g.tup tu
   ·rw [yE1 z _ row.keys,hn,et,yC1 (yE2 nC hiz)]
  rintro σ H2 ⟨v2,kv,rfl,hfz,kp,h2,row,hn⟩
  rw [List.length_map,lR,List.take_length] at row hn
  refine ⟨o,.dK rows,hfz,?_⟩
  have hr3:=zA1 (H:=H2) (a:=pr) (o:=.dK rows)
  have h3:upd H2 pr (.dK rows) p = some (.dK kv):=by rw [upd_ne npr]; exact h2
  have s3:Same H (upd H2 pr (.dK rows)):=mono1 (fun c ob e n1 n2=>by rw [upd_ne n2]; exact kp c ob e n1 n2) hr3
  have row3:=row.same fun v r g=>g.tup (zC8 (o:=.dK rows) hfz (fun _ z=>nomatch z))
  generalize upd H2 pr (.dK rows) = H3 at *
  refine ⟨sz (by simp),fun p0 hp0=>?_⟩
  have t4:=Same.upd (o:=.tup [.int 1,.int 1]) hp0
  have f0:=FrV.newOf (H:=H3) (p:=p0) (t:=1) (b:=1) (r:=1) rfl rfl
  have row4:=row3.same fun v r g=>g.same t4
  have h4:=t4 _ _ h3
  have s4:=s3.trans t4
  generalize upd H3 p0 (.tup [.int 1,.int 1]) = H4 at *
  obtain ⟨x0,hx0⟩:∃ x,x ∈ C:=by
   cases e:C with
   | nil=>exact absurd e ne
   | cons a l=>exact ⟨a,List.mem_cons_self⟩
  refine zU5 (fun σ H2=>∃ (q:Nat) (pa:Addr) (kv:List (Key × V)) (f:V) (r:Rat) (v2 v5 v6 v7:Option V),σ = [some (.ref pr),some (.ref pa),v2,some (.int (q:Nat)),some f,v5,v6,v7] /\ Same H H2 /\ H pa = none /\ H2 pa = some (.dK kv) /\ RowAt H2 kv (all C (stay C R q)) /\ nms kv = C /\ FrV H2 f r /\ q <= C.length /\ (∀ x ∈ C,stay C R q x <= r) /\ (∃ x ∈ C,stay C R q x = r) /\ ∀ j,j < q->∃ x ∈ C,stay C R j x = 1)
   (fun σ _=>match σ with | [_,_,_,some (.int q),_,_,_,_]=>C.length - q.toNat | _=>0) ⟨0,p,kv,.ref p0,1,_,_,_,_,rfl,s4,hp,h4,row4,hn,f0,Nat.zero_le _,(fun x _=>Rat.le_refl),⟨x0,hx0,rfl⟩,fun j hj=>absurd hj (Nat.not_lt_zero _)⟩ ?_ ?_
  ·rintro σ H2 ⟨q,pa,kv,f,r,v2,v5,v6,v7,rfl,s2,hpa,h2,row,hn,fr,hq,hle,hex,hall⟩
   refine ⟨_,rfl,sz (by simp),fun p1 hp1'=>?_⟩
   have t1:=Same.upd (o:=.tup [.int 1,.int 1]) hp1'
   refine ⟨_,_,(fr.same t1).rep,yA0 (SqT.of zA1),zN8 _ _,_,rfl,?_⟩
   rw [eq11]
   have s21:=s2.trans t1
   have h21:=t1 _ _ h2
   have row1:=row.same fun v r g=>g.same t1
   have fr1:=fr.same t1
   generalize upd H2 p1 (.tup [.int 1,.int 1]) = H5 at *
   refine ite2 (fun h=>?_) (fun h=>?_)
   ·have h:r = 1:=of_decide_eq_true h
    subst h
    have hqC:q < C.length:=by
     obtain ⟨x,hx,e⟩:=hex
     by_cases u:q < C.length
     ·exact u
     ·have:=xO5 SB nC hlk (k:=q) (by omega) hx
      rw [e] at this
      exact absurd this (by decide)
    have hq5:q + 1 <= 5:=by omega
    intro pb hpb
    have tb:=Same.upd (o:=.dK []) hpb
    have hb6:=zA1 (H:=H5) (a:=pb) (o:=.dK [])
    have s6:=s21.trans tb
    have h6:=tb _ _ h21
    have row6:=row1.same fun v r g=>g.same tb
    have hpb0:=s21.free hpb
    have nab:pa ≠ pb:=zA8 h21 hpb
    generalize upd H5 pb (.dK []) = H6 at *
    have hr6:=s6 _ _ hrw
    have nbr:pb ≠ pr:=fun e=>by rw [e,hrw] at hpb0; cases hpb0
    have nar:pa ≠ pr:=fun e=>by rw [e,hrw] at hpa; cases hpa
    have TB6:=TB.same s6
    refine ⟨pr,_,hr6,rfl,?_⟩
    refine ⟨_,rfl,.inr (.inr (.inl ⟨rfl,.inl ⟨_,hr6⟩⟩)),pr,_,rfl,rfl,hr6,rfl,fun pv hpv=>?_⟩
    have tv:=Same.upd (o:=zQ6 pv pr) hpv
    refine ⟨pv,pr,_,rfl,zA1,tv _ _ hr6,rfl,fun o qs hqs=>?_⟩
    have hqs:qs = rows.map fun kv=>(kV kv.1,kv.2):=hqs
    subst hqs
    have hadp:∀ z ∈ C,ad z ≠ pb /\ ad z ≠ pr:=fun z hz=>by
     refine ⟨fun e=>?_,TB.apart z hz⟩
     obtain ⟨_,_,kv,c,_⟩:=TB.row z hz
     rw [e,hpb0] at c; cases c
    refine zN5 (fun i σ H7=>∃ (v2 v6:Option V) (kva:List (Key × V)),σ = [some (.ref pr),some (.ref pa),v2,some (.int (q:Nat)),some f,some (.ref pb),v6,v7] /\ H7 pr = some (.frz o (.dK rows)) /\ (∀ c ob,H6 c = some ob->c ≠ pb->c ≠ pr->H7 c = some ob) /\ H7 pb = some (.dK kva) /\ RowAt H7 kva (all (C.take i) (stay C R (q + 1))) /\ nms kva = C.take i) ?_ ?_ ?_ ?_
    ·refine ⟨_,_,[],rfl,zA1,fun c ob e _ n=>by rw [upd_ne n]; exact tv _ _ e,by rw [upd_ne nbr]; exact tv _ _ hb6,?_,rfl⟩
     rw [List.take_zero,zY6]; exact RowAt.nil _
    ·rintro i σ H7 ⟨_,_,_,_,h,_⟩
     exact h
    ·rintro i k' v T' σ H7 hk ⟨v2,v6,kva,rfl,hfz,kp,h7,row7,hn7⟩ hT
     obtain ⟨z,rfl,rfl,hzC,hiz⟩:=keyat hk
     have hil:i < C.length:=(List.getElem?_eq_some_iff.mp hiz).1
     have tT:=Same.upd (o:=.tup [.str z,.ref (ad z)]) hT
     refine ⟨T',_,rfl,SqT.of zA1,rfl,_,_,rfl,_,_,rfl,rfl,?_⟩
     have kp8:∀ c ob,H6 c = some ob->c ≠ pb->c ≠ pr->upd H7 T' (.tup [.str z,.ref (ad z)]) c = some ob:=fun c ob e n1 n2=>tT _ _ (kp c ob e n1 n2)
     have hfz8:=tT _ _ hfz
     have h8:=tT _ _ h7
     have row8:=row7.same fun v r g=>g.same tT
     generalize upd H7 T' (.tup [.str z,.ref (ad z)]) = H8 at *
     have kT:∀ c m,H6 c = some (.tup m)->H8 c = some (.tup m):=fun c m e=>kp8 c _ e (zG3 e hb6 (by intro z; cases z)) (zG3 e hr6 (by intro z; cases z))
     obtain ⟨_,_,kvs,hrow6,rr6⟩:=TB6.row z hzC
     have hrow:=kp8 _ _ hrow6 (hadp z hzC).1 (hadp z hzC).2
     have rr:=rr6.same fun v r g=>g.tup kT
     have hst8:=kp8 _ _ h6 nab nar
     have rst8:=row6.same fun v r g=>g.tup kT
     let gz:Str->Rat:=fun y=>if y ∈ C then R z y * stay C R q y else 0
     have gI:∀ y,IsM (Dn ^ (q + 1)) 1 (gz y):=fun y=>by
      show IsM _ _ (if y ∈ C then _ else _)
      split
      ·rename_i hy
       have:=(G.part z (hCL z hzC) y).mul (zQ9 G nC nL hCL q y hy)
       rw [Nat.mul_comm,<- Nat.pow_succ] at this
       exact this
      ·exact IsM.zero _ _
     have nsub:∀ y ∈ nms kvs,y ∈ C:=fun y hy=>by
      have:=op_some.mp ((rr.iff y).mp hy)
      by_cases e:y ∈ C
      ·exact e
      ·unfold resC at this; rw [if_neg e] at this; exact absurd rfl this
     have lkv:kvs.length <= 5:=by
      rw [<- zD2]
      exact Nat.le_trans (zD8 (L:=C) (zE8 rr.nodup rr.keys) nsub) c5
     refine ⟨ad z,_,hrow,rfl,?_⟩
     refine ⟨_,rfl,.inr (.inr (.inl ⟨rfl,.inl ⟨_,hrow⟩⟩)),ad z,_,rfl,rfl,hrow,rfl,fun pw hpw=>?_⟩
     have tw:=Same.upd (o:=zQ6 pw (ad z)) hpw
     refine ⟨pw,ad z,_,rfl,zA1,tw _ _ hrow,rfl,fun o2 qs2 hqs2=>fun Dq hDq=>?_⟩
     have hqs2:qs2 = kvs.map fun kv=>(kV kv.1,kv.2):=hqs2
     subst hqs2
     have nDa:Dq ≠ ad z:=fun e=>by rw [e,zA1] at hDq; cases hDq
     have hD9:upd H8 pw (zQ6 pw (ad z)) Dq = none:=by rw [upd_ne nDa] at hDq; exact hDq
     have hD0:H8 Dq = none:=tw.free hD9
     refine yO9 (fun j σ' H'=>∃ (v0 v1:Option V) (ws:List V),σ' = [v0,v1,some (.ref pa)] /\ H' (ad z) = some (.frz o2 (.dK kvs)) /\ (∀ c ob,H8 c = some ob->c ≠ ad z->H' c = some ob) /\ H' Dq = some (.lst ws) /\ Paired (FrV H') ws ((nms (kvs.take j)).map gz)) ⟨none,none,[],rfl,by rw [upd_ne nDa.symm,zA1],fun c ob e n=>by rw [upd_ne (zA8 e hD0),upd_ne n]; exact tw _ _ e,zA1,.nil⟩ ?_ ?_ ?_
     ·rintro j σ' H' ⟨_,_,_,_,h,_⟩
      exact h
     ·rintro j k' w' T2 σ' H' hk ⟨v0,v1,ws,rfl,hfa,keep,hd,hW⟩ hT2
      obtain ⟨kvi,hki,ek⟩:∃ kvi,kvs[j]? = some kvi /\ (kV kvi.1,kvi.2) = (k',w'):=by
       rw [List.getElem?_map] at hk
       cases q:kvs[j]? with
       | none=>rw [q] at hk; cases hk
       | some kvi=>rw [q] at hk; exact ⟨kvi,rfl,Option.some.inj hk⟩
      obtain ⟨y,r,hz,hg,fy,_,hnms⟩:=rr.at hki
      obtain ⟨rfl,rfl⟩:=Prod.mk.inj ek
      obtain ⟨k0,w0⟩:=kvi
      have hz:k0 = .inr y:=hz
      subst hz
      have hyC:y ∈ C:=by
       by_cases e:y ∈ C
       ·exact e
       ·have:=(xA8 hg).1
        unfold resC at this
        rw [if_neg e] at this
        exact absurd this.symm (xA8 hg).2
      have er:R z y = r:=by
       have:=(xA8 hg).1
       unfold resC at this
       rw [if_pos hyC] at this; exact this
      have kT2:∀ c m,H8 c = some (.tup m)->H' c = some (.tup m):=fun c m e=>keep c _ e (zG3 e hrow (by intro z; cases z))
      have tT2:=Same.upd (o:=.tup [V.str y,w0]) hT2
      have lj:ws.length <= 8:=by rw [hW.length,List.length_map,zD2,List.length_take]; omega
      have nst:pa ≠ ad z:=fun e=>by
       obtain ⟨_,_,kv,c,_⟩:=TB.row z hzC
       rw [<- e,hpa] at c; cases c
      have hst:=keep _ _ hst8 nst
      obtain ⟨wv,ew,fw⟩:=(rst8.same fun v r g=>g.tup kT2).has y (stay C R q y) (by unfold all; rw [if_pos hyC])
      refine ⟨T2,_,rfl,SqT.of zA1,rfl,_,_,rfl,_,_,rfl,rfl,?_⟩
      have bR:Bd 8000 (R z y):=by
       refine ((G.part z (hCL z hzC) y).bd (n:=501) D0 (Nat.le_refl _) ?_).mono (by decide)
       rw [Nat.one_mul]
       exact Nat.lt_of_le_of_lt DB (Nat.pow_lt_pow_right (by decide) (by decide))
      refine ⟨_,rfl,_,rfl,_,rfl,pa,wv,rfl,?_,spTimes.of (E:=E0) rfl ((fy.tup kT2).same tT2) (fw.same tT2) (by rw [<- er]; exact bR) (stB q (by omega) y hyC) fun u3 H3' s3' f3=>?_⟩
      ·have g:=DGet.k (k:=.inr y) (tT2 _ _ hst)
       rw [ew] at g; exact g
      have s23:=tT2.trans s3'
      have hd3:=s23 _ _ hd
      have hfa3:=s23 _ _ hfa
      refine ⟨_,hd3,sz (by omega),_,_,ws ++ [u3],rfl,by rw [upd_ne (zG3 hfa3 hd3 (by intro z; cases z))]; exact hfa3,fun c ob e n=>by rw [upd_ne (zA8 e hD0)]; exact s23 _ _ (keep c ob e n),zA1,?_⟩
      rw [hnms,List.map_append]
      have tu:=zC8 (o:=.lst (ws ++ [u3])) hd3 (fun _ z=>nomatch z)
      refine Paired.snoc (Paired.mapP hW fun _ _ f=>(f.same s23).tup tu) ?_
      have eg:gz y = r * stay C R q y:=by show (if y ∈ C then _ else _) = _; rw [if_pos hyC,er]
      rw [eg]; exact f3.tup tu
     ·rintro σ' H' ⟨v0,v1,ws,rfl,hfa,keep,hd,hW⟩
      rw [List.length_map,List.take_length] at hW
      refine ⟨o2,_,hfa,?_⟩
      have kp9:∀ c ob,H8 c = some ob->upd H' (ad z) (.dK kvs) c = some ob:=fun c ob e=>by
       by_cases u:c = ad z
       ·subst u; rw [hrow] at e; rw [zA1]; exact e
       ·rw [upd_ne u]; exact keep c ob e u
      have hd2:upd H' (ad z) (.dK kvs) Dq = some (.lst ws):=by rw [upd_ne nDa]; exact hd
      have hW2:=Paired.mapP hW fun _ _ (g:FrV H' _ _)=>g.tup (zC8 (o:=.dK kvs) hfa (fun _ z=>nomatch z))
      generalize upd H' (ad z) (.dK kvs) = H9 at *
      have gB:∀ y,Bd 8000 (gz y):=fun y=>by
       refine ((gI y).bd (n:=2501) (Nat.pow_pos D0) (Nat.le_refl _) ?_).mono (by decide)
       rw [Nat.one_mul]
       exact Nat.lt_of_le_of_lt (hD5 _ hq5) (Nat.pow_lt_pow_right (by decide) (by decide))
      refine ⟨Dq,ws,(nms kvs).map gz,rfl,SqL.of hd2,hW2,fun r hr=>?_,fun j hj=>?_,fun u4 H10 s10 f10=>?_⟩
      ·obtain ⟨y,_,rfl⟩:=List.mem_map.mp hr
       exact gB y
      ·rw [<- List.map_take]
       have:=(yB3 gI ((nms kvs).take j)).mono (j:=8) (by rw [List.length_take,zD2]; omega)
       refine (this.bd (n:=2510) (Nat.pow_pos D0) (by decide) ?_).mono (by decide)
       have h1:8 * Dn ^ (q + 1) <= 2 ^ 3 * 2 ^ 2500:=Nat.mul_le_mul (by decide) (hD5 _ hq5)
       rw [<- Nat.pow_add] at h1
       exact Nat.lt_of_le_of_lt h1 (Nat.pow_lt_pow_right (by decide) (by decide))
      have es:sumQ ((nms kvs).map gz) = stay C R (q + 1) z:=by
       show sumL (nms kvs) gz = sumL C _
       rw [yZ5 nC rr (g:=gz) fun y hy e=>by show (if y ∈ C then _ else _) = _; rw [if_pos hy,e,Rat.zero_mul]]
       exact zC6 fun y hy=>by show (if y ∈ C then _ else _) = _; rw [if_pos hy]
      rw [es] at f10
      have h10:=s10 _ _ (kp9 _ _ h8)
      have lka:kva.length <= 8:=by rw [<- zD2,hn7,List.length_take]; omega
      refine ⟨_,rfl,_,rfl,pb,_,rfl,DPut.k (k:=.inr z) h10 (sz (by omega)),?_⟩
      have tu:=zC8 (o:=.dK (putK kva (.inr z) u4)) h10 (fun _ z=>nomatch z)
      have et:=zC2 hiz
      refine ⟨_,_,putK kva (.inr z) u4,rfl,by rw [upd_ne nbr.symm]; exact s10 _ _ (kp9 _ _ hfz8),fun c ob e n1 n2=>by rw [upd_ne n1]; exact s10 _ _ (kp9 _ _ (kp8 c ob e n1 n2)),zA1,?_,?_⟩
      ·rw [et,zS1]
       exact ((row8.same fun v r g=>(g.same (fun c ob e=>kp9 c ob e)).same s10).put (z:=z) f10).same fun v r g=>g.tup tu
      ·rw [yE1 z _ row7.keys,hn7,et,yC1 (yE2 nC hiz)]
    ·rintro σ H7 ⟨v2,v6,kva,rfl,hfz,kp,h7,row7,hn7⟩
     rw [List.length_map,lR,List.take_length] at row7 hn7
     refine ⟨o,.dK rows,hfz,?_⟩
     have s8:Same H (upd H7 pr (.dK rows)):=fun c ob e=>by
      have ncp:c ≠ pb:=zA8 e hpb0
      by_cases u:c = pr
      ·subst u; rw [hrw] at e; cases e; rw [zA1]
      ·rw [upd_ne u]; exact kp c ob (s6 c ob e) ncp u
     have h8:upd H7 pr (.dK rows) pb = some (.dK kva):=by rw [upd_ne nbr]; exact h7
     have row8:=row7.same fun v r g=>g.tup (zC8 (o:=.dK rows) hfz (fun _ z=>nomatch z))
     generalize upd H7 pr (.dK rows) = H8 at *
     refine ⟨_,rfl,?_⟩
     refine ⟨_,rfl,_,_,rfl,rfl,?_⟩
     refine ⟨sz (by simp),fun p9 hp9=>?_⟩
     have t9:=Same.upd (o:=.tup [.int 0,.int 1]) hp9
     have f9:=FrV.newOf (H:=H8) (p:=p9) (t:=0) (b:=1) (r:=0) rfl rfl
     have s9:=s8.trans t9
     have h9:=t9 _ _ h8
     have row9:=row8.same fun v r g=>g.same t9
     generalize upd H8 p9 (.tup [.int 0,.int 1]) = H9 at *
     refine ⟨pb,_,h9,rfl,?_⟩
     refine ⟨_,rfl,.inr (.inr (.inl ⟨rfl,.inl ⟨_,h9⟩⟩)),pb,_,rfl,rfl,h9,rfl,fun pw hpw=>?_⟩
     have tw:=Same.upd (o:=yM0 pw pb) hpw
     refine ⟨pw,pb,_,rfl,zA1,tw _ _ h9,rfl,fun o2 qs2 hqs2=>?_⟩
     have hqs2:qs2 = kva.map fun kv=>(kV kv.1,kv.2):=hqs2
     subst hqs2
     have tuw:=zC8 (o:=.frz o2 (.dK kva)) (tw _ _ h9) (fun _ z=>nomatch z)
     refine xJ1 (fun i σ H10=>∃ (f:V) (r:Rat) (v7:Option V),σ = [some (.ref pr),some (.ref pb),v2,some (.int ((q:Int) + 1)),some f,some (.ref pb),v6,v7] /\ H10 pb = some (.frz o2 (.dK kva)) /\ (∀ c ob,H9 c = some ob->c ≠ pb->H10 c = some ob) /\ FrV H10 f r /\ Bd 8000 r /\ 0 <= r /\ (∀ x ∈ C.take i,stay C R (q + 1) x <= r) /\ (r = 0 \/ ∃ x ∈ C,stay C R (q + 1) x = r)) ?_ ?_ ?_ ?_
     ·exact ⟨_,0,_,rfl,zA1,fun c ob e n=>by rw [upd_ne n]; exact tw _ _ e,(f9.same tw).tup tuw,⟨Nat.two_pow_pos _,Nat.one_lt_two_pow (by decide)⟩,Rat.le_refl,fun x hx=>by simp at hx,.inl rfl⟩
     ·rintro i σ H10 ⟨_,_,_,_,h,_⟩
      exact h
     ·rintro i k' w' σ H10 hk ⟨f,r,v7,rfl,hfz2,kp2,fr2,br,r0,hle2,hex2⟩
      obtain ⟨kvi,hki,ek⟩:∃ kvi,kva[i]? = some kvi /\ (kV kvi.1,kvi.2) = (k',w'):=by
       rw [List.getElem?_map] at hk
       cases q:kva[i]? with
       | none=>rw [q] at hk; cases hk
       | some kvi=>rw [q] at hk; exact ⟨kvi,rfl,Option.some.inj hk⟩
      obtain ⟨y,s0,hz,hg,fy,_,_⟩:=row9.at hki
      obtain ⟨rfl,rfl⟩:=Prod.mk.inj ek
      have hyC:y ∈ C /\ s0 = stay C R (q + 1) y:=by
       unfold all at hg
       split at hg
       ·rename_i hy
        exact ⟨hy,(Option.some.inj hg).symm⟩
       ·cases hg
      obtain ⟨hyC,rfl⟩:=hyC
      have hCi:C[i]? = some y:=by
       rw [<- hn7]
       unfold nms
       rw [List.getElem?_map,hki]
       show some (nmz kvi.1) = _
       rw [hz]; rfl
      have et:=zC2 hCi
      have fy2:=fy.tup fun c m e=>kp2 c _ e (zG3 e h9 (by intro z; cases z))
      have bs:=stB (q + 1) hq5 y hyC
      refine ⟨_,rfl,_,rfl,_,_,r,_,rfl,fr2,fy2,br,bs,_,rfl,?_⟩
      refine ite2 (fun h=>?_) (fun h=>?_)
      ·have h:r < stay C R (q + 1) y:=of_decide_eq_true h
       refine ⟨_,rfl,_,_,_,rfl,hfz2,kp2,fy2,bs,by grind,fun x hx=>?_,.inr ⟨y,hyC,rfl⟩⟩
       rw [et] at hx
       rcases List.mem_append.mp hx with e | e
       ·have:=hle2 x e; grind
       ·rw [List.mem_singleton.mp e]; exact Rat.le_refl
      ·have h:¬ r < stay C R (q + 1) y:=fun e=>h (decide_eq_true e)
       refine ⟨_,rfl,_,r,_,rfl,hfz2,kp2,fr2,br,r0,fun x hx=>?_,hex2⟩
       rw [et] at hx
       rcases List.mem_append.mp hx with e | e
       ·exact hle2 x e
       ·rw [List.mem_singleton.mp e]; grind
     ·rintro σ H10 ⟨f,r,v7,rfl,hfz2,kp2,fr2,br,r0,hle2,hex2⟩
      have lka:kva.length = C.length:=by rw [<- zD2,hn7]
      rw [List.length_map,lka,List.take_length] at hle2
      refine ⟨o2,.dK kva,hfz2,?_⟩
      have tu:=zC8 (o:=.dK kva) hfz2 (fun _ z=>nomatch z)
      have s11:Same H (upd H10 pb (.dK kva)):=fun c ob e=>by
       have n:=zA8 e hpb0
       rw [upd_ne n]; exact kp2 c ob (s9 c ob e) n
      have kT:∀ c m,H9 c = some (.tup m)->upd H10 pb (.dK kva) c = some (.tup m):=fun c m e=>by
       have n:=zG3 e h9 (by intro z; cases z)
       rw [upd_ne n]; exact kp2 c _ e n
      have e1:((q:Int) + 1) = ((q + 1:Nat):Int):=rfl
      refine ⟨⟨q + 1,pb,kva,f,r,_,_,_,_,rfl,s11,hpb0,zA1,row9.same fun v r g=>g.tup kT,hn7,fr2.tup tu,by omega,hle2,?_,fun j hj=>?_⟩,?_⟩
      ·rcases hex2 with e | e
       ·refine ⟨x0,hx0,?_⟩
        have h1:=hle2 x0 hx0
        have h2:=yB4 SB (q + 1) x0 hx0
        rw [e] at h1 ⊢
        grind
       ·exact e
      ·by_cases u:j < q
       ·exact hall j u
       ·have:j = q:=by omega
        rw [this]; exact hex
      ·show C.length - ((q:Int) + 1).toNat < C.length - ((q:Nat):Int).toNat
       omega
   ·have h:r ≠ 1:=fun e=>h (decide_eq_true e)
    refine ⟨_,rfl,_,rfl,sz (by simp),fun pt hpt=>?_⟩
    have hr1':r < 1:=by
     obtain ⟨x,hx,e⟩:=hex
     have:=zN7 SB q x hx
     rw [e] at this
     grind
    have q1:1 <= q:=by
     rcases Nat.eq_zero_or_pos q with e | e
     ·subst e
      obtain ⟨x,hx,e⟩:=hex
      exact absurd e.symm h
     ·exact e
    exact k pt _ f r q (s21.free hpt) (s21.trans (Same.upd hpt)) zA1 (fr1.same (Same.upd hpt)) q1 hq hle hex hr1' hall
  ·intro σ H2 Q1 Q2 hq hh
   obtain ⟨v1,e1,z1,g⟩:=hh
   exact ⟨v1,e1,z1,fun p hp=>let ⟨d1,d2,r1,r2,dp,kk,ek,hQ⟩:=g p hp; ⟨d1,d2,r1,r2,dp,kk,ek,hq _ _ hQ⟩⟩
noncomputable abbrev zL4:Stmt:=top 30
theorem sc_long_run:zB5 ["house","steps","rows","closed"] ["house","steps"] (zA5 zL4):=⟨rfl,rfl,rfl,by decide +kernel,rfl,by decide +kernel,by decide +kernel⟩
theorem yN2 {ca:Ca} (D:DefAt K mg "long_run" zL4) (T:Txt K mg ca) (G_casks_table:FnAt P w K mg base CX0 6 "casks_table" ["house","steps"] (zZ6 K)) (G_closed_casks:FnAt P w K mg base CX0 4 "closed_casks" ["rows"] (yQ6)) (G_nearness:FnAt P w K mg base CX0 4 "nearness" ["rows"] (xL1)) (G_left_alike:FnAt P w K mg base CX0 7 "left_alike" ["rows","added"] (xL5)) (G_brought_totals:FnAt P w K mg base CX0 6 "brought_totals" ["house","steps"] (xL6 K)):FnAt P w K mg base CX0 8 "long_run" ["house","steps"] (xL2 K):=by
 refine D.ok sc_long_run (fun vs H Q E h=>?_) (fun _ _ _ _ _ _ us hl=>match us,hl with | [_,_],_=>rfl) (fun f cdv A outer s H vs Q E hr h=>?_)
 ·obtain ⟨ah,as,xs,ps,ys,ss,rfl,hS,hP,ok,hck,c5,hX,hT,hO,h15,kc,kl⟩:=h; rfl
 ·obtain ⟨ah,as,xs,ps,ys,ss,rfl,hS,hP,ok,hck,c5,hX,hT,hO,h15,kc,kl⟩:=h
  have nd:=sc_long_run.nd
  refine ⟨_,(@zA4 _ _ _ _ _ (@zB1 _ _ 2 _ _ _ _ nd rfl (Or.inl rfl) (zB7 G_casks_table hr (by rfl) zB8 (@zA0 _ _ _ _ _ (pv 0) (@zA0 _ _ _ _ _ (pv 1) zA3 (by rfl)) (by rfl))) (by rfl) (Or.inl rfl))
   (@zA4 _ _ _ _ _ (@zB1 _ _ 3 _ _ _ _ nd rfl (Or.inl rfl) (zB7 G_closed_casks hr (by rfl) zB8 (@zA0 _ _ _ _ _ (pv 2) zA3 (by rfl))) (by rfl) (Or.inl rfl))
   (@zA4 _ _ _ _ _ (zK2 (zC1 xH6 (zC9 (zF0 (K:=K) rfl) (by rfl) T.z_len PySem.boot_len (@zA0 _ _ _ _ _ (pv 3) zA3 (by rfl))) zA2 (zD3 _)) (@zA6 _ _ _ (zC0 (@zC3 _ _ _ _ _ (@zA0 _ _ _ _ _ zF3 (@zA0 _ _ _ _ _ (pv 3) zA3 (by rfl)) (by rfl))))) zE1)
   (@zA6 _ _ _ (zC0 (@zC3 _ _ _ _ _ (@zA0 _ _ _ _ _ zF3 (@zA0 _ _ _ _ _ (zB7 G_left_alike hr (by rfl) zB8 (@zA0 _ _ _ _ _ (pv 2) (@zA0 _ _ _ _ _ (zB7 G_brought_totals hr (by rfl) zB8 (@zA0 _ _ _ _ _ (pv 0) (@zA0 _ _ _ _ _ (pv 1) zA3 (by rfl)) (by rfl))) zA3 (by rfl)) (by rfl))) (@zA0 _ _ _ _ _ (zB7 G_nearness hr (by rfl) zB8 (@zA0 _ _ _ _ _ (pv 2) zA3 (by rfl))) zA3 (by rfl)) (by rfl)) (by rfl)))))))),?_⟩
  have hOs:∀ s ∈ ss,OkS (allN ps) s:=fun s hs=>(hO s hs).1
  refine ⟨_,rfl,_,rfl,ah,as,xs,ps,ys,ss,rfl,hS,hP,ok,hX,hT,hOs,by omega,fun pr H1 rows ad hpr s1 h1 TB0=>?_⟩
  have G:=zE3 ok.nd hOs
  have D0:=zG4 ss
  have D100:=zL8 hO h15
  let C:=nms rows
  have CR:∀ z,z ∈ C ↔ z ∈ ckN ps:=fun z=>by
   constructor
   ·intro h
    obtain ⟨kv,h1,h2⟩:=List.mem_map.mp h
    obtain ⟨y,h3,h4⟩:=TB0.keys kv h1
    rw [h3] at h2
    have h2:y = z:=h2
    rw [<- h2]; exact h4
   ·intro h; exact zT3 (TB0.row z h).1
  have nC:C.Nodup:=zE8 TB0.nodup fun kv h=>(let ⟨z,e,_⟩:=TB0.keys kv h; ⟨z,e⟩)
  have lC:C.length = (ckN ps).length:=by show (nms rows).length = _; rw [zD2]; exact TB0.len ok.ck
  have hCL:∀ x ∈ C,x ∈ allN ps:=fun x hx=>zJ7 ((CR x).mp hx)
  have eR:resC (ckN ps) (back ss) = resC C (back ss):=by
   funext n z
   unfold resC
   by_cases h:z ∈ C
   ·rw [if_pos h,if_pos ((CR z).mp h)]
   ·rw [if_neg h,if_neg fun u=>h ((CR z).mpr u)]
  rw [eR] at TB0
  have TB:=TB0.mem CR
  have P2:zC5 ss <= 2 ^ 500:=Nat.le_trans D100 (Nat.pow_le_pow_right (by decide) (by decide))
  have P8:8 * zC5 ss < 2 ^ 2600:=by
   have:=Nat.mul_le_mul (show 8 <= 2 ^ 3 by decide) D100
   rw [<- Nat.pow_add] at this
   exact Nat.lt_of_le_of_lt this (Nat.pow_lt_pow_right (by decide) (by decide))
  refine ⟨_,rfl,pr,H,rows,ad,C,allN ps,back ss,zC5 ss,rfl,h1,TB,rfl,nC,by omega,ok.nd,hCL,G,D0,P8,fun pl H2 zs hpl s2 h2 nz mz sz'=>?_⟩
  have s02:=s1.trans s2
  have lm:(zs.map V.str).length = zs.length:=List.length_map ..
  have mz':∀ x,x ∈ zs ↔ x ∈ ckN ps /\ ¬ Leak (ckN ps) (back ss) x:=fun x=>by
   rw [mz,CR]
   exact ⟨fun h=>⟨h.1,fun l=>h.2 (l.same ok.ck nC fun z=>(CR z).symm)⟩,fun h=>⟨h.1,fun l=>h.2 (l.same nC ok.ck CR)⟩⟩
  refine ⟨_,rfl,_,_,rfl,.inl ⟨_,SqL.of h2,rfl⟩,_,_,rfl,rfl,_,rfl,?_⟩
  rw [lm]
  refine ite2 (fun h=>?_) (fun h=>?_)
  ·have h:(0:Int) < (zs.length:Nat):=of_decide_eq_true h
   refine ⟨_,rfl,sz (by simp),fun pt hpt=>?_⟩
   have tt:=Same.upd (o:=.tup [V.str "closed",.ref pl]) hpt
   exact kc pt _ pl zs (s02.free hpt) (s02.trans tt) (s1.free hpl) (zA8 h2 hpt) zA1 (tt _ _ h2) nz mz' sz' (fun e=>by rw [e] at h; simp at h)
  ·have h:¬ (0:Int) < (zs.length:Nat):=fun e=>h (decide_eq_true e)
   have hz:zs = []:=List.length_eq_zero_iff.mp (by omega)
   have hlk':∀ x ∈ ckN ps,Leak (ckN ps) (back ss) x:=fun x hx=>by
    by_cases q:Leak (ckN ps) (back ss) x
    ·exact q
    ·have:=(mz' x).mpr ⟨hx,q⟩
     rw [hz] at this; cases this
   have hlk:∀ x ∈ C,Leak C (back ss) x:=fun x hx=>(hlk' x ((CR x).mp hx)).same ok.ck nC fun z=>(CR z).symm
   refine ⟨_,rfl,_,rfl,_,rfl,ah,as,xs,ps,ys,ss,rfl,s02.seq hS,zB9 hP s02,ok,s02.seq hX,zD0 hT s02,hO,h15,fun pb H3 kb hpb s3 h3 rb hnb=>?_⟩
   have s13:=s2.trans s3
   have hW:15000 * (12 * zC5 ss) <= 2 ^ 118:=twelve D100 (Nat.le_refl _)
   have ebC:all (ckN ps) (bT ss) = all C (bT ss):=by
    funext z
    unfold all
    by_cases q:z ∈ C
    ·rw [if_pos q,if_pos ((CR z).mp q)]
    ·rw [if_neg q,if_neg fun u=>q ((CR z).mpr u)]
   rw [ebC] at rb
   refine ⟨pr,pb,H,rows,kb,ad,C,allN ps,back ss,bT ss,zC5 ss,12 * zC5 ss,15000 * (12 * zC5 ss),100,118,rfl,s13 _ _ h1,TB.same s13,rfl,nC,by omega,ok.nd,hCL,G,D0,D100,h3,rb,by omega,Nat.le_mul_of_pos_left _ (by decide),hW,fun z _=>xX8 ok.nd hO h15 z,by decide,by decide,hlk,fun pd H4 kv X hpd s4 h4 rX nX eX bX=>?_⟩
   have s14:=s13.trans s4
   have nck:C ≠ []:=fun e=>by
    have:(ckN ps).length = 0:=by rw [<- lC,e]; rfl
    exact hck (List.length_eq_zero_iff.mp this)
   refine ⟨_,rfl,pr,H,rows,ad,C,allN ps,back ss,zC5 ss,rfl,s14 _ _ h1,TB.same s14,rfl,nC,nck,by omega,ok.nd,hCL,G,D0,P2,hlk,fun pq H5 fq r q hpq s5 h5 fr q1 q2 hle hex hr1 hall=>?_⟩
   refine ⟨sz (by simp),fun pt hpt=>?_⟩
   have tt:=Same.upd (o:=.tup [V.str "lasting",.ref pd,.ref pq]) hpt
   have s05:=(s1.trans s14).trans s5
   have eX':all C X = all (ckN ps) X:=by
    funext z
    unfold all
    by_cases q:z ∈ C
    ·rw [if_pos q,if_pos ((CR z).mp q)]
    ·rw [if_neg q,if_neg fun u=>q ((CR z).mpr u)]
   have eS:=yG8 (R:=back ss) nC ok.ck CR
   refine kl hlk' pt _ pq pd fq r q kv X (s05.free hpt) (s05.trans tt) zA1 ((s1.trans s13).free hpd) ((s5.trans tt) _ _ h4) ?_ (fun z hz=>?_) ?_ (tt _ _ h5) (fr.same tt) q1 (by omega) (fun x hx=>?_) ?_ hr1 fun j hj=>?_
   ·rw [<- eX']; exact rX.same fun v r g=>g.same (s5.trans tt)
   ·rw [eX z ((CR z).mpr hz),zO5 nC ok.ck CR]
   ·obtain ⟨E2,W2,g1,g2,g3,g4⟩:=bX
    exact ⟨E2,W2,g1,g2,Nat.le_trans g3 (Nat.pow_le_pow_right (by decide) (by decide)),fun z hz=>g4 z ((CR z).mpr hz)⟩
   ·rw [<- eS]; exact hle x ((CR x).mpr hx)
   ·obtain ⟨x,hx,e⟩:=hex
    exact ⟨x,(CR x).mp hx,by rw [<- eS]; exact e⟩
   ·obtain ⟨x,hx,e⟩:=hall j hj
    exact ⟨x,(CR x).mp hx,by rw [<- eS]; exact e⟩
noncomputable abbrev zG1:Stmt:=top 32
theorem sc__law_cell_at:zB5 ["_law_script","_law_k"] ["_law_script","_law_k"] (zA5 zG1):=⟨rfl,rfl,rfl,by decide +kernel,rfl,by decide +kernel,by decide +kernel⟩
theorem zX5 {ca:Ca} (D:DefAt K mg "_law_cell_at" zG1) (T:Txt K mg ca):FnAt P w K mg base CX0 1 "_law_cell_at" ["_law_script","_law_k"] (yY7 K):=by
 refine D.ok sc__law_cell_at (fun vs H Q E h=>?_) (fun _ _ _ _ _ _ us hl=>match us,hl with | [_,_],_=>rfl) (fun f cdv A outer s H vs Q E hr h=>?_)
 ·obtain ⟨a,ns,j,rfl,hS,hj,k⟩:=h; rfl
 ·obtain ⟨a,ns,j,rfl,hS,hj,k⟩:=h
  have nd:=sc__law_cell_at.nd
  refine ⟨_,(@zA4 _ _ _ _ _ (zK2 (zC1 xH5 (pv 1) (zC9 (zF0 (K:=K) rfl) (by rfl) T.z_len PySem.boot_len (@zA0 _ _ _ _ _ (pv 0) zA3 (by rfl))) (zD3 _)) (@zA6 _ _ _ (zC0 (zB4 (zD4 (K:=K) rfl) (pv 0) (pv 1) (fun _ _=>rfl)))) zE1)
   (@zA6 _ _ _ (zC0 zA2))),?_⟩
  refine ⟨_,rfl,_,rfl,_,_,rfl,.inl ⟨_,hS,rfl⟩,_,_,rfl,rfl,_,rfl,?_⟩
  refine ite2 (fun h1=>?_) (fun h1=>?_)
  ·obtain ⟨c,hc⟩:=xV2 hj (of_decide_eq_true h1)
   refine ⟨_,rfl,_,rfl,a,_,j,_,rfl,rfl,hS,hc,k c⟩
  ·exact k 0
noncomputable abbrev zI0:Stmt:=top 33
theorem sc__law_whole:zB5 ["_law_found"] ["_law_found"] (zA5 zI0):=⟨rfl,rfl,rfl,by decide +kernel,rfl,by decide +kernel,by decide +kernel⟩
theorem yD0 {ca:Ca} (D:DefAt K mg "_law_whole" zI0) (T:Txt K mg ca):FnAt P w K mg base CX0 1 "_law_whole" ["_law_found"] (yM1):=by
 refine D.ok sc__law_whole (fun vs H Q E h=>?_) (fun _ _ _ _ _ _ us hl=>match us,hl with | [_],_=>rfl) (fun f cdv A outer s H vs Q E hr h=>?_)
 ·obtain ⟨v,n,rfl,hv,k⟩:=h; rfl
 ·obtain ⟨v,n,rfl,hv,k⟩:=h
  have nd:=sc__law_whole.nd
  refine ⟨_,(@zA6 _ _ _ (zC0 (xA6 (zC9 (zP1 (K:=K) rfl) (by rfl) T.z_isinstance zJ5 (@zA0 _ _ _ _ _ (pv 0) (@zA0 _ _ _ _ _ (zW8 (v:=.ty "int") (by rfl) T.z_int xX5 rfl) zA3 (by rfl)) (by rfl))) (xM1 (xU1 (zC9 (zP1 (K:=K) rfl) (by rfl) T.z_isinstance zJ5 (@zA0 _ _ _ _ _ (pv 0) (@zA0 _ _ _ _ _ (zW8 (v:=.ty "bool") (by rfl) T.z_bool xR6 rfl) zA3 (by rfl)) (by rfl)))))))),?_⟩
  refine ⟨_,rfl,_,_,_,_,rfl,zV5 hv,yJ4 (yW9 hv) (by decide),_,rfl,?_⟩
  refine ite2 (fun h1=>?_) (fun h1=>?_)
  ·refine ⟨_,rfl,_,_,_,_,rfl,zV5 hv,yJ4 (yW9 hv) (by decide),_,rfl,?_⟩
   rw [sub_int] at h1
   rw [xG4]
   have e:(!(n == "bool")) = (n == "int"):=by
    rcases Bool.or_eq_true_iff.mp h1 with z | z
    ·have z:=beq_iff_eq.mp z; subst z; decide
    ·have z:=beq_iff_eq.mp z; subst z; decide
   rw [e]; exact k
  ·rw [sub_int] at h1
   have e:(n == "int") = false:=by
    cases q:(n == "int") with
    | false=>rfl
    | true=>rw [q] at h1; exact absurd rfl h1
   rw [e] at k; exact k
noncomputable abbrev zI6:Stmt:=top 34
theorem sc__law_mixed:zB5 ["_law_cell","_law_many"] ["_law_cell"] (zA5 zI6):=⟨rfl,rfl,rfl,by decide +kernel,rfl,by decide +kernel,by decide +kernel⟩
theorem yD6 {ca:Ca} (D:DefAt K mg "_law_mixed" zI6) (T:Txt K mg ca):FnAt P w K mg base CX0 1 "_law_mixed" ["_law_cell"] (yB6):=by
 refine D.ok sc__law_mixed (fun vs H Q E h=>?_) (fun _ _ _ _ _ _ us hl=>match us,hl with | [_],_=>rfl) (fun f cdv A outer s H vs Q E hr h=>?_)
 ·obtain ⟨c,rfl,k⟩:=h; rfl
 ·obtain ⟨c,rfl,k⟩:=h
  have nd:=sc__law_mixed.nd
  refine ⟨_,(@zA4 _ _ _ _ _ (@zB1 _ _ 1 _ _ _ _ nd rfl (Or.inl rfl) zA2 (by rfl) (Or.inl rfl))
   (@zA6 _ _ _ (zC0 (@zB6 _ _ _ _ _ _ _ _ zE0 (@zB6 _ _ _ _ _ _ _ _ zJ1 (@zB6 _ _ _ _ _ _ _ _ zG5 (@zB6 _ _ _ _ _ _ _ _ zE0 (pv 0) (@zB6 _ _ _ _ _ _ _ _ yI7 zA2 zA2)) (pv 1)) zA2) (@zB6 _ _ _ _ _ _ _ _ zJ1 (@zB6 _ _ _ _ _ _ _ _ yI7 zA2 zA2) zA2))))),?_⟩
  refine ⟨_,rfl,_,_,rfl,rfl,⟨by decide,by decide,by decide⟩,_,_,rfl,rfl,(by rw [xH3]; show (_:Int) ≠ 0; decide),_,rfl,_,_,rfl,rfl,?_,_,_,rfl,rfl,_,_,rfl,rfl,⟨by decide,by decide,by decide⟩,_,_,rfl,rfl,_,_,rfl,rfl,(by rw [xH3]; show (_:Int) ≠ 0; decide),?_⟩
  ·rw [xH3]
   have q:=zE5 (c:=c) (m:=1000000000000000000000000000000000000000000000000000000000000) (by decide)
   refine zE9 256 ?_ (by decide) (by decide)
   have:(c.fmod 1000000000000000000000000000000000000000000000000000000000000).natAbs < 1000000000000000000000000000000000000000000000000000000000000:=by omega
   exact Nat.lt_trans this (by decide)
  ·rw [xH3]
   refine k _ (zE5 (by decide)).1 ?_
   exact (zE5 (by decide)).2
noncomputable abbrev zG0:Stmt:=top 35
theorem sc__law_divisor:zB5 ["_law_one","_law_other"] ["_law_one","_law_other"] (zA5 zG0):=⟨rfl,rfl,rfl,by decide +kernel,rfl,by decide +kernel,by decide +kernel⟩
theorem zX4 {ca:Ca} (D:DefAt K mg "_law_divisor" zG0) (T:Txt K mg ca):FnAt P w K mg base CX0 1 "_law_divisor" ["_law_one","_law_other"] (yH3):=by
 refine D.ok sc__law_divisor (fun vs H Q E h=>?_) (fun _ _ _ _ _ _ us hl=>match us,hl with | [_,_],_=>rfl) (fun f cdv A outer s H vs Q E hr h=>?_)
 ·obtain ⟨a,b,rfl,k⟩:=h; rfl
 ·obtain ⟨a,b,rfl,k⟩:=h
  have nd:=sc__law_divisor.nd
  refine ⟨_,(@zA4 _ _ _ _ _ (zU9 PassesOwn.never (zC1 yV7 (pv 1) zA2 (zD3 _)) (@zA6 _ _ _ (xT6 (i:=0) (j:=1) rfl nd rfl rfl (by decide) rfl rfl (@zA0 _ _ _ _ _ (pv 1) (@zA0 _ _ _ _ _ (@zB6 _ _ _ _ _ _ _ _ zE0 (pv 0) (pv 1)) zA3 (by rfl)) (by rfl)) rfl)))
   (@zA6 _ _ _ (zC0 (zC9 yU2 (by rfl) T.z_abs xN5 (@zA0 _ _ _ _ _ (pv 0) zA3 (by rfl)))))),?_⟩
  refine zU5 (fun σ H1=>∃ x y:Int,σ = [some (.int x),some (.int y)] /\ H1 = H /\ Int.gcd x y = Int.gcd a b)
   (fun σ _=>match σ with | [_,some (.int y)]=>y.natAbs | _=>0) ⟨a,b,rfl,rfl,rfl⟩ ?_ ?_
  ·rintro σ H1 ⟨x,y,rfl,rfl,d⟩
   refine ⟨_,rfl,rfl,_,rfl,?_⟩
   refine ite2 (fun h1=>?_) (fun h1=>?_)
   ·have hy:y ≠ 0:=by
     intro e; subst e; simp at h1
    refine ⟨_,rfl,_,rfl,_,rfl,_,_,rfl,rfl,hy,_,_,rfl,?_⟩
    exact ⟨⟨_,_,rfl,rfl,(yT1 x y).trans d⟩,Dv.less hy⟩
   ·have hy:y = 0:=by
     by_cases e:y = 0
     ·exact e
     ·exact absurd (by simp [e]) h1
    subst hy
    refine ⟨_,rfl,x,rfl,?_⟩
    rw [Int.gcd_zero_right] at d
    have e:(if x < 0 then -x else x) = ((Int.gcd a b:Nat):Int):=by
     rw [<- d]; split <;> omega
    rw [e]; exact k
  ·intro σ H1 Q1 Q2 hq h1
   obtain ⟨v,e,h2,c,e2,h3⟩:=h1
   exact ⟨v,e,h2,c,e2,hq _ _ h3⟩
noncomputable abbrev zH0:Stmt:=top 36
theorem sc__law_lowest:zB5 ["_law_top","_law_bottom","_law_by"] ["_law_top","_law_bottom"] (zA5 zH0):=⟨rfl,rfl,rfl,by decide +kernel,rfl,by decide +kernel,by decide +kernel⟩
theorem zZ3 {ca:Ca} (D:DefAt K mg "_law_lowest" zH0) (T:Txt K mg ca) (G__law_divisor:FnAt P w K mg base CX0 1 "_law_divisor" ["_law_one","_law_other"] (yH3)):FnAt P w K mg base CX0 2 "_law_lowest" ["_law_top","_law_bottom"] (zR0):=by
 refine D.ok sc__law_lowest (fun vs H Q E h=>?_) (fun _ _ _ _ _ _ us hl=>match us,hl with | [_,_],_=>rfl) (fun f cdv A outer s H vs Q E hr h=>?_)
 ·obtain ⟨t,b,rfl,hb,hbb,k⟩:=h; rfl
 ·obtain ⟨t,b,rfl,hb,hbb,k⟩:=h
  have nd:=sc__law_lowest.nd
  refine ⟨_,(@zA4 _ _ _ _ _ (@zB1 _ _ 2 _ _ _ _ nd rfl (Or.inl rfl) (zB7 G__law_divisor hr (by rfl) zB8 (@zA0 _ _ _ _ _ (pv 0) (@zA0 _ _ _ _ _ (pv 1) zA3 (by rfl)) (by rfl))) (by rfl) (Or.inl rfl))
   (@zA4 _ _ _ _ _ (zK2 (zC1 xH5 (pv 1) zA2 (zD3 _)) (@zA6 _ _ _ (@zB1 _ _ 2 _ _ _ _ nd rfl (Or.inl rfl) (@zB6 _ _ _ _ _ _ _ _ yI6 zA2 (pv 2)) (by rfl) (Or.inl rfl))) zE1)
   (@zA6 _ _ _ (zC0 (@zC3 _ _ _ _ _ (@zA0 _ _ _ _ _ (@zB6 _ _ _ _ _ _ _ _ zD1 (pv 0) (pv 2)) (@zA0 _ _ _ _ _ (@zB6 _ _ _ _ _ _ _ _ zD1 (pv 1) (pv 2)) zA3 (by rfl)) (by rfl))))))),?_⟩
  have hd:∀ i,zY8 i (dv t b):=fun i=>zT5 (yJ9 hb) (Nat.lt_of_le_of_lt (xE0 hb) hbb)
  have fin:∀ {σ:St} {H1:Hp} {d:Int},H1 = H->d = dv t b->σ = [some (.int t),some (.int b),some (.int d)] ->
    (tRet (tTup (xO3 (tOp (rI zY8 fun i j=>.int (i.fdiv j)) (tVar 0) (tVar 2)) (xO3 (tOp (rI zY8 fun i j=>.int (i.fdiv j)) (tVar 1) (tVar 2)) tNil)))) { nx:=fun _ H'=>Q .non H',rt:=Q } σ H1:=by
   rintro σ H1 d rfl rfl rfl
   refine ⟨_,rfl,_,rfl,_,_,rfl,rfl,hd _,_,rfl,_,rfl,_,_,rfl,rfl,hd _,sz (by simp),fun p hp=>?_⟩
   exact k _ _ (Same.upd hp) (FrV.newOf (yT7 hb) (yT8 hb))
  refine ⟨_,rfl,_,rfl,t,b,rfl,?_⟩
  refine ⟨_,rfl,_,_,rfl,rfl,_,rfl,?_⟩
  refine ite2 (fun h1=>?_) (fun h1=>?_)
  ·have hn:b < 0:=of_decide_eq_true h1
   refine ⟨_,rfl,_,_,rfl,rfl,?_⟩
   refine fin rfl ?_ rfl
   unfold dv
   rw [if_pos hn]; omega
  ·have hn:¬ b < 0:=fun z=>h1 (decide_eq_true z)
   refine fin rfl ?_ rfl
   unfold dv
   rw [if_neg hn]
noncomputable abbrev zJ0:Stmt:=top 37
theorem sc__law_alike:zB5 ["_law_found","_law_due"] ["_law_found","_law_due"] (zA5 zJ0):=⟨rfl,rfl,rfl,by decide +kernel,rfl,by decide +kernel,by decide +kernel⟩
theorem yE0 {ca:Ca} (D:DefAt K mg "_law_alike" zJ0) (T:Txt K mg ca) (G__law_whole:FnAt P w K mg base CX0 1 "_law_whole" ["_law_found"] (yM1)):FnAt P w K mg base CX0 2 "_law_alike" ["_law_found","_law_due"] (yY8):=by
 refine D.ok sc__law_alike (fun vs H Q E h=>?_) (fun _ _ _ _ _ _ us hl=>match us,hl with | [_,_],_=>rfl) (fun f cdv A outer s H vs Q E hr h=>?_)
 ·obtain ⟨_,_,r,q,rfl,hx,hy,k⟩:=h; rfl
 ·obtain ⟨_,_,r,q,rfl,hx,hy,k⟩:=h
  have nd:=sc__law_alike.nd
  refine ⟨_,(@zA4 _ _ _ _ _ (zK2 (PW.pt (yI1 (yI2 (zU1 (zC9 (zP1 (K:=K) rfl) (by rfl) T.z_isinstance zJ5 (@zA0 _ _ _ _ _ (pv 0) (@zA0 _ _ _ _ _ (zW8 (v:=.ty "tuple") (by rfl) T.z_tuple yF4 rfl) zA3 (by rfl)) (by rfl))))) (yR5 (zC1 yV7 (zC9 (zF0 (K:=K) rfl) (by rfl) T.z_len PySem.boot_len (@zA0 _ _ _ _ _ (pv 0) zA3 (by rfl))) zA2 (zD3 _))))) (@zA6 _ _ _ (zC0 zY9)) zE1)
   (@zA6 _ _ _ (zC0 (xA6 (zB7 G__law_whole hr (by rfl) zB8 (@zA0 _ _ _ _ _ (zB4 (zA7 (K:=K) rfl) (pv 0) zA2 (fun _ _=>rfl)) zA3 (by rfl))) (xA6 (zB7 G__law_whole hr (by rfl) zB8 (@zA0 _ _ _ _ _ (zB4 (zA7 (K:=K) rfl) (pv 0) zA2 (fun _ _=>rfl)) zA3 (by rfl))) (xM1 (yM8 (zX1 (K:=K) rfl hr) (pv 0) (pv 1) (zD3 _)))))))),?_⟩
  have tx:=hx.ty
  have rx:=hx.rep (K:=K)
  have ry:=hy.rep (K:=K)
  obtain ⟨a,rfl,ha⟩:=hx
  obtain ⟨b,rfl,hb⟩:=hy
  refine ⟨_,rfl,_,_,_,_,rfl,zV5 tx,yJ4 (by decide) (by decide),_,rfl,?_⟩
  refine iteF ?_
  refine ⟨_,rfl,_,_,rfl,.inr ⟨_,SqT.of ha,rfl⟩,rfl,_,rfl,?_⟩
  refine iteF ?_
  refine ⟨_,rfl,a,_,_,_,rfl,rfl,SqT.of ha,rfl,_,_,rfl,rfl,_,rfl,?_⟩
  refine iteT ?_
  refine ⟨_,rfl,a,_,_,_,rfl,rfl,SqT.of ha,rfl,_,_,rfl,rfl,_,rfl,?_⟩
  refine iteT ?_
  refine ⟨_,rfl,_,rfl,_,_,rx,ry,zN8 _ _,?_⟩
  rw [yT6,yT2]
  exact k
noncomputable abbrev zI7:Stmt:=top 38
theorem sc__law_house:zB5 ["_law_cell","_law_casks_here","_law_sinks","_law_base","_law_house_here","_law_k"] ["_law_cell","_law_casks_here","_law_sinks"] (zA5 zI7):=⟨rfl,rfl,rfl,by decide +kernel,rfl,by decide +kernel,by decide +kernel⟩
theorem yD7 {ca:Ca} (D:DefAt K mg "_law_house" zI7) (T:Txt K mg ca):FnAt P w K mg base CX0 1 "_law_house" ["_law_cell","_law_casks_here","_law_sinks"] (yY6):=by
 refine D.ok sc__law_house (fun vs H Q E h=>?_) (fun _ _ _ _ _ _ us hl=>match us,hl with | [_,_,_],_=>rfl) (fun f cdv A outer s H vs Q E hr h=>?_)
 ·obtain ⟨c,n,s',rfl,n1,n5,hs2,k⟩:=h; rfl
 ·obtain ⟨c,n,s',rfl,n1,n5,hs2,k⟩:=h
  have nd:=sc__law_house.nd
  refine ⟨_,(@zA4 _ _ _ _ _ (@zB1 _ _ 3 _ _ _ _ nd rfl (Or.inr rfl) (zB4 (zD4 (K:=K) rfl) (@zK8 _ _ _ _ (@zA0 _ _ _ _ _ zF3 (@zA0 _ _ _ _ _ zF3 (@zA0 _ _ _ _ _ zF3 (@zA0 _ _ _ _ _ zF3 zA3 (by rfl)) (by rfl)) (by rfl)) (by rfl))) (@zB6 _ _ _ _ _ _ _ _ zE0 (pv 0) zA2) (fun _ _=>rfl)) (by rfl) (Or.inl rfl))
   (@zA4 _ _ _ _ _ (zN3 ["_law_k"] ["_law_base","_law_cell"] [3,0] (i:=4) nd rfl rfl rfl (by rfl) (zH3 (by rfl) T.z_range (@zA0 _ _ _ _ _ (pv 1) zA3 (by rfl))) (fun _ _ _ _=>(zA9 (i:=0) (show List.Nodup (["_law_k","_law_base","_law_cell"]:List Str) from by decide) rfl (Or.inl rfl))) (fun _ _ _ _=>zK5) (fun _ _ _ _=>(@zC3 _ _ _ _ _ (@zA0 _ _ _ _ _ zF3 (@zA0 _ _ _ _ _ (@zB6 _ _ _ _ _ _ _ _ yV8 (pv 1) (zB4 xV8 zF3 (@zB6 _ _ _ _ _ _ _ _ zE0 (@zB6 _ _ _ _ _ _ _ _ zJ1 (pv 0) (@zB6 _ _ _ _ _ _ _ _ zD1 (pv 2) zA2)) zA2) (fun _ _=>rfl))) (@zA0 _ _ _ _ _ (@zC3 _ _ _ _ _ (@zA0 _ _ _ _ _ (@zB6 _ _ _ _ _ _ _ _ zJ1 zA2 (pv 0)) (@zA0 _ _ _ _ _ zA2 zA3 (by rfl)) (by rfl))) zA3 (by rfl)) (by rfl)) (by rfl)))))
   (@zA4 _ _ _ _ _ (zD6 PassesOwn.never rfl (zH3 (by rfl) T.z_range (@zA0 _ _ _ _ _ (pv 2) zA3 (by rfl))) (zA9 (i:=5) nd rfl (Or.inl rfl)) (@zA6 _ _ _ (zK3 (xU4 (K:=K) rfl PySem.F.plainAttrs_list PySem.F.slot_list_insert PySem.F.type_list_insert xB9 (pv 4) (@zA0 _ _ _ _ _ (@zB6 _ _ _ _ _ _ _ _ zE0 (@zB6 _ _ _ _ _ _ _ _ zD1 (pv 0) zA2) (@zB6 _ _ _ _ _ _ _ _ zJ1 (zC9 (zF0 (K:=K) rfl) (by rfl) T.z_len PySem.boot_len (@zA0 _ _ _ _ _ (pv 4) zA3 (by rfl))) zA2)) (@zA0 _ _ _ _ _ (@zC3 _ _ _ _ _ (@zA0 _ _ _ _ _ zF3 (@zA0 _ _ _ _ _ (zB4 (zD4 (K:=K) rfl) (@zK8 _ _ _ _ (@zA0 _ _ _ _ _ zF3 (@zA0 _ _ _ _ _ zF3 zA3 (by rfl)) (by rfl))) (pv 5) (fun _ _=>rfl)) zA3 (by rfl)) (by rfl))) zA3 (by rfl)) (by rfl))))))
   (@zA6 _ _ _ (zC0 (pv 4)))))),?_⟩
  have q4:=zE5 (c:=c) (m:=4) (by decide)
  obtain ⟨b,hb,hat⟩:=yG6 (zs:=["","a","tier","zz"]) q4.1 (by simpa using q4.2)
  obtain ⟨b4,hok⟩:=yW2 b hb
  refine ⟨sz (by simp),fun l hl=>?_⟩
  refine ⟨_,rfl,_,_,rfl,rfl,(show (4:Int) ≠ 0 by decide),l,_,_,_,rfl,rfl,SqL.of zA1,hat,?_⟩
  have sl:=Same.upd (o:=.lst [V.str "",.str "a",.str "tier",.str "zz"]) hl
  obtain ⟨s0,es⟩:=Int.eq_ofNat_of_zero_le (zE5 (c:=c.fdiv 4) (m:=8) (by decide)).1
  have s8:s0 < 8:=by have:=(zE5 (c:=c.fdiv 4) (m:=8) (by decide)).2; omega
  refine ⟨_,rfl,_,rfl,by omega,by omega,fun D hD=>?_⟩
  have hD0:=sl.free hD
  refine zY3 (fun i σ' H'=>∃ (v:Option V) (xs:List V),σ' = [v,some (.str b),some (.int c)] /\ Same H H' /\ H' D = some (.lst xs) /\ Paired (PlV H') xs ((List.range i).map (mkC b s0))) ⟨none,[],rfl,sl.trans (Same.upd hD),zA1,.nil⟩ ?_ ?_
  ·rintro i σ' H' hi ⟨v,xs,rfl,s1,hd,hP⟩
   have hi:i < n:=by simpa using hi
   have hxl:xs.length = i:=by rw [hP.length,List.length_map,List.length_range]
   have em:(0 + (i:Int) + c.fdiv 4).fmod 8 = (((i + s0) % 8:Nat):Int):=by
    rw [Int.fmod_eq_emod_of_nonneg _ (by decide)] at es ⊢
    omega
   refine ⟨_,rfl,_,rfl,_,rfl,_,_,rfl,rfl,ddv (by decide) (by decide),_,_,rfl,rfl,_,_,rfl,rfl,(show (8:Int) ≠ 0 by decide),_,_,ch8 ((i + s0) % 8),rfl,rfl,sz (by decide),?_,?_⟩
   ·rw [em]; exact xX2 (Nat.mod_lt _ (by decide))
   refine ⟨_,_,rfl,rfl,sz (show b.length + 1 <= 1000 by omega),_,rfl,_,_,rfl,rfl,sz (by simp),fun t1 ht1=>⟨sz (by simp),fun t2 ht2=>?_⟩⟩
   have u1:=Same.upd (o:=.tup [.int (1 + (0 + (i:Int))),.int 1]) ht1
   have u2:=Same.upd (o:=.tup [V.str "cask",.str (nm8 b s0 i),.ref t1]) ht2
   have u12:=u1.trans u2
   have hd2:=u12 _ _ hd
   refine ⟨_,hd2,sz (by omega),_,xs ++ [.ref t2],rfl,(s1.trans u12).updD hD0,zA1,?_⟩
   have tu:=zC8 (o:=.lst (xs ++ [.ref t2])) hd2 (fun _ z=>nomatch z)
   rw [List.range_succ,List.map_append]
   refine Paired.snoc (Paired.mapP hP fun _ _ f=>(f.same u12).tup tu) ?_
   have lw:=low (n:=1 + (0 + (i:Int))) (d:=1) (by decide) (by simp)
   refine ⟨t2,.ref t1,rfl,tu _ _ zA1,?_⟩
   exact ((FrV.newOf (r:=Rat.divInt (1 + (0 + (i:Int))) 1) (p:=t1) lw.1.symm lw.2.symm).same u2).tup tu
  rintro σ' H1 ⟨v,xs,rfl,s1,hd,hP⟩
  have hP:Paired (PlV H1) xs ((List.range n).map (mkC b s0)):=by simpa using hP
  refine ⟨_,rfl,_,rfl,by omega,by omega,?_⟩
  refine zH4 (fun i σ H2=>∃ (v5:Option V) (xs:List V) (ps:List Plc),σ = [some (.int c),some (.int (n:Nat)),some (.int (s':Nat)),some (.str b),some (.ref D),v5] /\ Same H H2 /\ H2 D = some (.lst xs) /\ Paired (PlV H2) xs ps /\ ps.Perm (sks.take i ++ (List.range n).map (mkC b s0))) ⟨none,xs,_,rfl,s1,hd,hP,List.Perm.refl _⟩ ?_ ?_
  ·rintro i σ H2 hi ⟨v5,xs,ps,rfl,s2,hd2,hP2,pm⟩
   have hi:i < s':=by simpa using hi
   have hpl:xs.length = ps.length:=hP2.length
   have pl:=pm.length_eq
   rw [List.length_append,List.length_take,List.length_map,List.length_range] at pl
   have s2l:sks.length = 2:=rfl
   have ql:=zE5 (c:=c.fdiv 32) (m:=((xs.length:Nat):Int) + 1) (by omega)
   obtain ⟨j,ej⟩:=Int.eq_ofNat_of_zero_le ql.1
   obtain ⟨z,hz⟩:∃ z,(["out","oust"]:List Str)[i]? = some z:=by
    have:i = 0 \/ i = 1:=by omega
    rcases this with rfl | rfl
    ·exact ⟨_,rfl⟩
    ·exact ⟨_,rfl⟩
   have hatk:atI ((["out","oust"]:List Str).map V.str) (0 + (i:Int)) = some (.str z):=by
    rw [Int.zero_add]; exact zU0 (by rw [List.getElem?_map,hz]; rfl)
   refine ⟨_,rfl,.inl ⟨rfl,_,SqL.of hd2⟩,_,rfl,_,_,rfl,rfl,ddv (by decide) (by decide),_,rfl,_,_,rfl,.inl ⟨_,SqL.of hd2,rfl⟩,_,_,rfl,rfl,_,_,rfl,rfl,(show ((xs.length:Nat):Int) + 1 ≠ 0 by omega),sz (by simp),fun l3 hl3=>?_⟩
   have u3:=Same.upd (o:=.lst [V.str "out",.str "oust"]) hl3
   refine ⟨_,rfl,l3,_,_,_,rfl,rfl,SqL.of zA1,hatk,sz (by simp),fun t3 ht3=>?_⟩
   have u34:=u3.trans (Same.upd (o:=.tup [V.str "sink",.str z]) ht3)
   have hd4:=u34 _ _ hd2
   refine ⟨D,xs,j,.ref t3,rfl,?_,hd4,by omega,by omega,?_⟩
   ·show [V.int ((c.fdiv 32).fmod (((xs.length:Nat):Int) + 1)),V.ref t3] = _
    rw [ej]
   have tu:=zC8 (o:=.lst (xs.take j ++ .ref t3 :: xs.drop j)) hd4 (fun _ z=>nomatch z)
   have hP4:=Paired.mapP hP2 fun _ _ f=>PlV.tup tu (f.same u34)
   refine ⟨_,xs.take j ++ .ref t3 :: xs.drop j,ps.take j ++ .sk z :: ps.drop j,rfl,(s2.trans u34).updD hD0,zA1,?_,?_⟩
   ·exact Paired.app (Paired.take hP4 j) (.cons ⟨t3,rfl,tu _ _ zA1⟩ (Paired.drop hP4 j))
   ·have e:sks.take (i + 1) = sks.take i ++ [.sk z]:=zC2 (by unfold sks; rw [List.getElem?_map,hz]; rfl)
    rw [e,List.append_assoc]
    refine List.perm_middle.trans ?_
    rw [List.take_append_drop]
    exact (pm.cons _).trans List.perm_middle.symm
  ·rintro σ H2 ⟨v5,xs,ps,rfl,s2,hd2,hP2,pm⟩
   have pm:ps.Perm (sks.take s' ++ (List.range n).map (mkC b s0)):=by simpa using pm
   obtain ⟨h1,h2,h3,h4⟩:=xI7 (hok s0 (List.mem_range.mpr s8)) n1 n5 hs2 pm
   exact ⟨_,rfl,k D H2 xs ps hD0 s2 hd2 hP2 h1 h2 h3 h4⟩
noncomputable abbrev zI4:Stmt:=top 39
theorem sc__law_share:zB5 ["_law_number","_law_fine","_law_bottom"] ["_law_number","_law_fine"] (zA5 zI4):=⟨rfl,rfl,rfl,by decide +kernel,rfl,by decide +kernel,by decide +kernel⟩
theorem yD4 {ca:Ca} (D:DefAt K mg "_law_share" zI4) (T:Txt K mg ca) (G__law_lowest:FnAt P w K mg base CX0 2 "_law_lowest" ["_law_top","_law_bottom"] (zR0)):FnAt P w K mg base CX0 3 "_law_share" ["_law_number","_law_fine"] (yQ5):=by
 refine D.ok sc__law_share (fun vs H Q E h=>?_) (fun _ _ _ _ _ _ us hl=>match us,hl with | [_,_],_=>rfl) (fun f cdv A outer s H vs Q E hr h=>?_)
 ·obtain ⟨m,f,rfl,hf,k⟩:=h; rfl
 ·obtain ⟨m,f,rfl,hf,k⟩:=h
  have nd:=sc__law_share.nd
  refine ⟨_,(@zA4 _ _ _ _ _ (@zB1 _ _ 2 _ _ _ _ nd rfl (Or.inl rfl) (@zB6 _ _ _ _ _ _ _ _ zJ1 zA2 (@zB6 _ _ _ _ _ _ _ _ zE0 (pv 0) (zB4 (zD4 (K:=K) rfl) (@zK8 _ _ _ _ (@zA0 _ _ _ _ _ zA2 (@zA0 _ _ _ _ _ zA2 zA3 (by rfl)) (by rfl))) (pv 1) (fun _ _=>rfl)))) (by rfl) (Or.inl rfl))
   (@zA6 _ _ _ (zC0 (zB7 G__law_lowest hr (by rfl) zB8 (@zA0 _ _ _ _ _ (@zB6 _ _ _ _ _ _ _ _ zE0 (@zB6 _ _ _ _ _ _ _ _ zD1 (pv 0) (@zB6 _ _ _ _ _ _ _ _ yI7 zA2 zA2)) (@zB6 _ _ _ _ _ _ _ _ zJ1 (pv 2) zA2)) (@zA0 _ _ _ _ _ (pv 2) zA3 (by rfl)) (by rfl)))))),?_⟩
  obtain ⟨w,hw,hat⟩:∃ w:Int,(w = 9 \/ w = 99) /\ atI [V.int 9,.int 99] f = some (.int w):=by
   rcases hf with rfl | rfl
   ·exact ⟨9,.inl rfl,rfl⟩
   ·exact ⟨99,.inr rfl,rfl⟩
  have q:=zE5 (c:=m) (m:=w) (by omega)
  refine ⟨_,rfl,sz (by simp),fun l hl=>⟨_,rfl,l,_,_,_,rfl,rfl,SqL.of zA1,hat,_,_,rfl,rfl,(show w ≠ 0 by omega),_,_,rfl,rfl,?_⟩⟩
  have sl:=Same.upd (o:=.lst [V.int 9,.int 99]) hl
  let b:Int:=1 + m.fmod w
  have b1:1 <= b:=by show 1 <= 1 + m.fmod w; omega
  have b2:b <= 99:=by show 1 + m.fmod w <= 99; omega
  have bb:b.natAbs < 2 ^ 40:=Nat.lt_of_le_of_lt (m:=99) (by omega) (by decide)
  refine ⟨_,rfl,_,_,rfl,rfl,⟨by decide,by decide,by decide⟩,_,_,rfl,rfl,(by rw [xT7]; exact zT5 (by decide) (by decide)),_,rfl,_,_,rfl,rfl,_,_,rfl,rfl,(show b + 1 ≠ 0 by omega),_,rfl,_,_,rfl,(show b ≠ 0 by omega),Nat.lt_of_lt_of_le bb (zM4 (by decide)),fun w H' s' f'=>?_⟩
  have q:=zE5 (c:=m.fdiv ((10:Int) ^ (5:Int).toNat)) (m:=b + 1) (by omega)
  have fr:=xN1 (u:=(m.fdiv ((10:Int) ^ (5:Int).toNat)).fmod (b + 1)) (b:=b) q.1 (by omega) (by omega)
  exact k w H' _ (sl.trans s') f' fr.1 fr.2 (Nat.le_trans (zR7 _ b (by omega)) (by omega))
noncomputable abbrev zI5:Stmt:=top 40
theorem sc__law_named:zB5 ["_law_house_here","_law_sort"] ["_law_house_here","_law_sort"] (zA5 zI5):=⟨rfl,rfl,rfl,by decide +kernel,rfl,by decide +kernel,by decide +kernel⟩
theorem yD5 {ca:Ca} (D:DefAt K mg "_law_named" zI5) (T:Txt K mg ca):FnAt P w K mg base CX0 1 "_law_named" ["_law_house_here","_law_sort"] (yY4 K):=by
 refine D.ok sc__law_named (fun vs H Q E h=>?_) (fun _ _ _ _ _ _ us hl=>match us,hl with | [_,_],_=>rfl) (fun f cdv A outer s H vs Q E hr h=>?_)
 ·obtain ⟨a,xs,ps,bb,rfl,hS,hP,h8,k⟩:=h; rfl
 ·obtain ⟨a,xs,ps,bb,rfl,hS,hP,h8,k⟩:=h
  have nd:=sc__law_named.nd
  refine ⟨_,(@zA6 _ _ _ (zC0 (zL9 ["_law_place"] ["_law_sort"] [1] rfl (by rfl) (zD5 (K:=K) rfl (pv 0)) (fun _ _ _ _=>(zA9 (i:=0) (show List.Nodup (["_law_place","_law_sort"]:List Str) from by decide) rfl (Or.inl rfl))) (fun _ _ _ _=>(zS8 (zC1 zT0 (zB4 (zA7 (K:=K) rfl) (pv 0) zA2 (fun _ _=>rfl)) (pv 1) (zD3 _)))) (fun _ _ _ _=>(zB4 (zA7 (K:=K) rfl) (pv 0) zA2 (fun _ _=>rfl)))))),?_⟩
  have hlen:xs.length = ps.length:=hP.length
  refine ⟨_,rfl,a,rfl,⟨_,hS⟩,fun D hD=>?_⟩
  refine zJ2 (xs:=xs) (fun j σ' H'=>∃ (v:Option V),σ' = [v,some (.str (kd bb))] /\ Same H H' /\ H' D = some (.lst ((((ps.take j).filter fun q=>isC q == bb).map nmP).map V.str))) ⟨none,rfl,Same.upd hD,zA1⟩ ?_ ?_ ?_
  ·rintro j σ' H' hj ⟨v,rfl,s2,hd⟩
   exact s2.seq hS
  ·rintro j y σ' H' hy ⟨v,rfl,s2,hd⟩
   obtain ⟨p,hp,pv⟩:=zC4 hP hy
   obtain ⟨b,ys,rfl,hb,e0,e1⟩:=pv.at
   refine ⟨_,rfl,b,_,_,_,rfl,rfl,SqT.of (s2 _ _ hb),e0,_,rfl,rfl,_,rfl,?_⟩
   by_cases hc:isC p = bb
   ·refine zO2 (by rw [hc]) ?_
    refine ⟨_,rfl,b,_,_,_,rfl,rfl,SqT.of (s2 _ _ hb),e1,_,hd,?_,_,rfl,s2.updD hD,?_⟩
    ·have h1:=List.length_filter_le (fun q=>isC q == bb) (ps.take j)
     rw [List.length_take] at h1
     rw [List.length_map,List.length_map]
     exact sz (by omega)
    ·rw [zA1,zC2 hp,List.filter_append,List.map_append,List.map_append]
     simp [hc]
   ·refine zM1 ?_ ?_
    ·intro e
     have e:kd (isC p) = kd bb:=V.str.inj e
     cases h1:isC p <;> cases h2:bb <;> rw [h1,h2] at e hc <;> first | exact hc rfl | exact absurd e (by decide +kernel)
    refine ⟨_,rfl,s2,?_⟩
    rw [hd,zC2 hp,List.filter_append]
    simp [hc]
  ·rintro σ' H2 ⟨v,rfl,s2,hd⟩
   rw [hlen,List.take_length] at hd
   exact k D H2 hD s2 hd
noncomputable abbrev zJ8:Stmt:=top 41
theorem sc__law_step:zB5 ["_law_number","_law_x","_law_others","_law_fine","_law_amount"] ["_law_number","_law_x","_law_others","_law_fine"] (zA5 zJ8):=⟨rfl,rfl,rfl,by decide +kernel,rfl,by decide +kernel,by decide +kernel⟩
theorem yI8 {ca:Ca} (D:DefAt K mg "_law_step" zJ8) (T:Txt K mg ca) (G__law_lowest:FnAt P w K mg base CX0 2 "_law_lowest" ["_law_top","_law_bottom"] (zR0)) (G__law_share:FnAt P w K mg base CX0 3 "_law_share" ["_law_number","_law_fine"] (yQ5)):FnAt P w K mg base CX0 4 "_law_step" ["_law_number","_law_x","_law_others","_law_fine"] (yY2):=by
 refine D.ok sc__law_step (fun vs H Q E h=>?_) (fun _ _ _ _ _ _ us hl=>match us,hl with | [_,_,_,_],_=>rfl) (fun f cdv A outer s H vs Q E hr h=>?_)
 ·obtain ⟨n,x,ao,os,L,f,rfl,ha,h8,hx,hos,hf,k⟩:=h; rfl
 ·obtain ⟨n,x,ao,os,L,f,rfl,ha,h8,hx,hos,hf,k⟩:=h
  have nd:=sc__law_step.nd
  refine ⟨_,(@zA4 _ _ _ _ _ (zK2 (PW.pt (yI1 (zC1 zT0 (@zB6 _ _ _ _ _ _ _ _ zE0 (pv 0) zA2) zA2 (zD3 _)) (yR5 (zC1 (zX1 (K:=K) rfl hr) (pv 2) (@zK8 _ _ _ _ zA3) (zD3 _))))) (@zA4 _ _ _ _ _ (@zB1 _ _ 4 _ _ _ _ nd rfl (Or.inl rfl) (zB7 G__law_lowest hr (by rfl) zB8 (@zA0 _ _ _ _ _ (@zB6 _ _ _ _ _ _ _ _ zJ1 zA2 (@zB6 _ _ _ _ _ _ _ _ zE0 (@zB6 _ _ _ _ _ _ _ _ zD1 (pv 0) zA2) zA2)) (@zA0 _ _ _ _ _ (@zB6 _ _ _ _ _ _ _ _ zJ1 zA2 (@zB6 _ _ _ _ _ _ _ _ zE0 (@zB6 _ _ _ _ _ _ _ _ zD1 (pv 0) zA2) zA2)) zA3 (by rfl)) (by rfl))) (by rfl) (Or.inl rfl))
   (@zA6 _ _ _ (zC0 (@zC3 _ _ _ _ _ (@zA0 _ _ _ _ _ zF3 (@zA0 _ _ _ _ _ (@zC3 _ _ _ _ _ (@zA0 _ _ _ _ _ (zB4 (zD4 (K:=K) rfl) (@zK8 _ _ _ _ (@zA0 _ _ _ _ _ zF3 (@zA0 _ _ _ _ _ zF3 zA3 (by rfl)) (by rfl))) (@zB6 _ _ _ _ _ _ _ _ zE0 (@zB6 _ _ _ _ _ _ _ _ zD1 (pv 0) zA2) zA2) (fun _ _=>rfl)) (@zA0 _ _ _ _ _ (@zB6 _ _ _ _ _ _ _ _ zJ1 zA2 (@zB6 _ _ _ _ _ _ _ _ zE0 (@zB6 _ _ _ _ _ _ _ _ zD1 (pv 0) zA2) zA2)) zA3 (by rfl)) (by rfl))) (@zA0 _ _ _ _ _ (pv 1) (@zA0 _ _ _ _ _ (pv 4) zA3 (by rfl)) (by rfl)) (by rfl)) (by rfl)))))) zE1)
   (@zA6 _ _ _ (zC0 (@zC3 _ _ _ _ _ (@zA0 _ _ _ _ _ zF3 (@zA0 _ _ _ _ _ (pv 1) (@zA0 _ _ _ _ _ (zB4 (zD4 (K:=K) rfl) (pv 2) (@zB6 _ _ _ _ _ _ _ _ zE0 (@zB6 _ _ _ _ _ _ _ _ zD1 (pv 0) zA2) (zC9 (zF0 (K:=K) rfl) (by rfl) T.z_len PySem.boot_len (@zA0 _ _ _ _ _ (pv 2) zA3 (by rfl)))) (fun _ _=>rfl)) (@zA0 _ _ _ _ _ (zB7 G__law_share hr (by rfl) zB8 (@zA0 _ _ _ _ _ (@zB6 _ _ _ _ _ _ _ _ zD1 (pv 0) zA2) (@zA0 _ _ _ _ _ (pv 3) zA3 (by rfl)) (by rfl))) zA3 (by rfl)) (by rfl)) (by rfl)) (by rfl)))))),?_⟩
  have q4:=zE5 (c:=n.fdiv 4000) (m:=4) (by decide)
  have q2:=zE5 (c:=n.fdiv 7) (m:=2) (by decide)
  obtain ⟨z3,hz3,hat3⟩:=yG6 (zs:=["ab","b"]) q2.1 (by simpa using q2.2)
  have lz3:Lay z3:=lay3 z3 (by simp at hz3 ⊢; rcases hz3 with e | e <;> simp [e])
  refine ⟨_,rfl,_,_,rfl,rfl,(show (4:Int) ≠ 0 by decide),rfl,_,rfl,?_⟩
  refine ite2 (fun _=>?A) (fun _=>?X)
  case' A =>
   refine iteT ?_
   have t1:=Same.refl H
  case' X =>
   refine ⟨_,rfl,sz (by simp),fun l0 hl0=>?_⟩
   have t1:=Same.upd (o:=.lst []) hl0
   refine ⟨_,_,zR3 (t1 _ _ ha) (fun z hz=>(hos z hz).2.2),zW3 zA1,zM9 _,_,rfl,?_⟩
   rw [zN6]
   refine ite2 (fun _=>?B) (fun he=>?P)
  case P =>
   have he:¬ os.isEmpty = true:=he
   have hlen:1 <= os.length:=by
    cases os with
    | nil=>exact absurd rfl he
    | cons a r=>simp
   have hml:(os.map V.str).length = os.length:=List.length_map ..
   have qy:=zE5 (c:=n.fdiv 4) (m:=(((os.map V.str).length:Nat):Int)) (by rw [hml]; omega)
   obtain ⟨y0,hy0,haty⟩:=yG6 (zs:=os) qy.1 (by have:=qy.2; omega)
   obtain ⟨hyL,hyx,_⟩:=hos y0 hy0
   refine ⟨_,rfl,_,rfl,_,rfl,_,_,rfl,rfl,ddv (by decide) (by decide),_,rfl,_,_,rfl,.inl ⟨_,SqL.of (t1 _ _ ha),rfl⟩,_,_,rfl,rfl,(show (((os.map V.str).length:Nat):Int) ≠ 0 by rw [hml]; omega),ao,_,_,_,rfl,rfl,SqL.of (t1 _ _ ha),haty,_,rfl,_,_,rfl,rfl,ddv (by decide) (by decide),_,rfl,_,f,rfl,hf,fun w3 H3 t s3 f3 t0 t1' td=>⟨sz (by simp),fun l5 hl5=>?_⟩⟩
   have t5:=Same.upd (o:=.tup [V.str "pass",.str x,.str y0,w3]) hl5
   exact k _ _ (.ps x y0 t) (t1.trans (s3.trans t5)) ⟨l5,w3,rfl,zA1,f3.same t5⟩ ⟨⟨hx,hyL,hyx.symm,t0,t1',Nat.lt_of_le_of_lt td (by decide)⟩,td⟩
  all_goals
   refine ⟨_,rfl,_,_,rfl,rfl,ddv (by decide) (by decide),_,_,rfl,rfl,(show (999:Int) ≠ 0 by decide),_,_,rfl,rfl,_,rfl,_,_,rfl,rfl,ddv (by decide) (by decide),_,_,rfl,rfl,(show (4:Int) ≠ 0 by decide),_,_,rfl,rfl,_,_,rfl,(show 1 + (n.fdiv 4000).fmod 4 ≠ 0 by omega),Nat.lt_of_le_of_lt (m:=10) (show (1 + (n.fdiv 4000).fmod 4).natAbs <= 10 by omega) (by decide),fun w2 H2 s2 f2=>?_⟩
   refine ⟨sz (by simp),fun l3 hl3=>?_⟩
   have t3:=Same.upd (o:=.lst [V.str "ab",.str "b"]) hl3
   refine ⟨_,rfl,_,_,rfl,rfl,ddv (by decide) (by decide),_,_,rfl,rfl,(show (2:Int) ≠ 0 by decide),l3,_,_,_,rfl,rfl,SqL.of zA1,hat3,_,rfl,_,_,rfl,rfl,ddv (by decide) (by decide),_,_,rfl,rfl,(show (3:Int) ≠ 0 by decide),_,_,rfl,rfl,sz (by simp),fun l4 hl4=>?_⟩
   have t4:=Same.upd (o:=.tup [V.str z3,.int (2000 + (n.fdiv 21).fmod 3)]) hl4
   refine ⟨_,rfl,_,rfl,sz (by simp),fun l5 hl5=>?_⟩
   have t5:=Same.upd (o:=.tup [V.str "bring",.ref l4,.str x,w2]) hl5
   have t35:=t3.trans (t4.trans t5)
   exact k _ _ (.br z3 (2000 + (n.fdiv 21).fmod 3) x (Rat.divInt (1 + (n.fdiv 4).fmod 999) (1 + (n.fdiv 4000).fmod 4))) (t1.trans (s2.trans t35)) ⟨l5,l4,w2,rfl,zA1,t5 _ _ zA1,f2.same t35⟩ ⟨⟨hx,lz3⟩,wA0 (by have:=zE5 (c:=n.fdiv 4) (m:=999) (by decide); omega) (by have:=zE5 (c:=n.fdiv 4) (m:=999) (by decide); omega) (by omega) (by omega)⟩
noncomputable abbrev zI3:Stmt:=top 42
theorem sc__law_steps:zB5 ["_law_cells","_law_house_here","_law_fine","_law_drained","_law_casks_here","_law_sinks","_law_steps_here","_law_cell","_law_number","_law_x","_law_others","_law_k"] ["_law_cells","_law_house_here","_law_fine","_law_drained"] (zA5 zI3):=⟨rfl,rfl,rfl,by decide +kernel,rfl,by decide +kernel,by decide +kernel⟩
theorem yD3 {ca:Ca} (D:DefAt K mg "_law_steps" zI3) (T:Txt K mg ca) (G__law_named:FnAt P w K mg base CX0 1 "_law_named" ["_law_house_here","_law_sort"] (yY4 K)) (G__law_mixed:FnAt P w K mg base CX0 1 "_law_mixed" ["_law_cell"] (yB6)) (G__law_step:FnAt P w K mg base CX0 4 "_law_step" ["_law_number","_law_x","_law_others","_law_fine"] (yY2)):FnAt P w K mg base CX0 5 "_law_steps" ["_law_cells","_law_house_here","_law_fine","_law_drained"] (yQ3 K):=by
 refine D.ok sc__law_steps (fun vs H Q E h=>?_) (fun _ _ _ _ _ _ us hl=>match us,hl with | [_,_,_,_],_=>rfl) (fun f cdv A outer s H vs Q E hr h=>?_)
 ·obtain ⟨ac,ah,ms,xs,ps,f,d,rfl,hC,hm10,hH,hP,ok,hck,hc5,hf,k⟩:=h; rfl
 ·obtain ⟨ac,ah,ms,xs,ps,f,d,rfl,hC,hm10,hH,hP,ok,hck,hc5,hf,k⟩:=h
  have nd:=sc__law_steps.nd
  refine ⟨_,(@zA4 _ _ _ _ _ (@zB1 _ _ 4 _ _ _ _ nd rfl (Or.inr rfl) (zB7 G__law_named hr (by rfl) zB8 (@zA0 _ _ _ _ _ (pv 1) (@zA0 _ _ _ _ _ zF3 zA3 (by rfl)) (by rfl))) (by rfl) (Or.inl rfl))
   (@zA4 _ _ _ _ _ (@zB1 _ _ 5 _ _ _ _ nd rfl (Or.inl rfl) (zB7 G__law_named hr (by rfl) zB8 (@zA0 _ _ _ _ _ (pv 1) (@zA0 _ _ _ _ _ zF3 zA3 (by rfl)) (by rfl))) (by rfl) (Or.inl rfl))
   (@zA4 _ _ _ _ _ (@zB1 _ _ 6 _ _ _ _ nd rfl (Or.inl rfl) (@zK8 _ _ _ _ zA3) (by rfl) (Or.inl rfl))
   (@zA4 _ _ _ _ _ (zK2 (PW.pt (xL7 (zC1 zT0 (pv 3) zA2 (zD3 _)) (xA0 (zC1 (zQ5 (K:=K) rfl hr) (pv 5) (@zK8 _ _ _ _ zA3) (zD3 _))))) (@zA4 _ _ _ _ _ (zK3 (yC5 PySem.F.plainAttrs_list PySem.F.slot_list_append PySem.F.type_list_append zJ4 (pv 6) (@zA0 _ _ _ _ _ (@zC3 _ _ _ _ _ (@zA0 _ _ _ _ _ zF3 (@zA0 _ _ _ _ _ (zB4 (zD4 (K:=K) rfl) (pv 4) zA2 (fun _ _=>rfl)) (@zA0 _ _ _ _ _ (zB4 (zD4 (K:=K) rfl) (pv 5) zA2 (fun _ _=>rfl)) (@zA0 _ _ _ _ _ (@zC3 _ _ _ _ _ (@zA0 _ _ _ _ _ zA2 (@zA0 _ _ _ _ _ zA2 zA3 (by rfl)) (by rfl))) zA3 (by rfl)) (by rfl)) (by rfl)) (by rfl))) zA3 (by rfl))))
   (@zA6 _ _ _ (@zB1 _ _ 6 _ _ _ _ nd rfl (Or.inl rfl) (@zB6 _ _ _ _ _ _ _ _ xM3 (pv 6) (zL9 ["_law_k"] ["_law_casks_here"] [4] rfl (by rfl) (yI4 (by rfl) T.z_range (@zA0 _ _ _ _ _ zA2 (@zA0 _ _ _ _ _ (zC9 (zF0 (K:=K) rfl) (by rfl) T.z_len PySem.boot_len (@zA0 _ _ _ _ _ (pv 4) zA3 (by rfl))) zA3 (by rfl)) (by rfl))) (fun _ _ _ _=>(zA9 (i:=0) (show List.Nodup (["_law_k","_law_casks_here"]:List Str) from by decide) rfl (Or.inl rfl))) (fun _ _ _ _=>zK5) (fun _ _ _ _=>(@zC3 _ _ _ _ _ (@zA0 _ _ _ _ _ zF3 (@zA0 _ _ _ _ _ (zB4 (zD4 (K:=K) rfl) (pv 1) (pv 0) (fun _ _=>rfl)) (@zA0 _ _ _ _ _ (zB4 (zD4 (K:=K) rfl) (pv 1) (@zB6 _ _ _ _ _ _ _ _ yI6 (pv 0) zA2) (fun _ _=>rfl)) (@zA0 _ _ _ _ _ (@zC3 _ _ _ _ _ (@zA0 _ _ _ _ _ zA2 (@zA0 _ _ _ _ _ (@zB6 _ _ _ _ _ _ _ _ zJ1 zA2 (pv 0)) zA3 (by rfl)) (by rfl))) zA3 (by rfl)) (by rfl)) (by rfl)) (by rfl)))))) (by rfl) (Or.inl rfl)))) zE1)
   (@zA4 _ _ _ _ _ (zD6 PassesOwn.never rfl (zD5 (K:=K) rfl (pv 0)) (zA9 (i:=7) nd rfl (Or.inl rfl)) (@zA4 _ _ _ _ _ (@zB1 _ _ 8 _ _ _ _ nd rfl (Or.inl rfl) (zB7 G__law_mixed hr (by rfl) zB8 (@zA0 _ _ _ _ _ (pv 7) zA3 (by rfl))) (by rfl) (Or.inl rfl))
   (@zA4 _ _ _ _ _ (@zB1 _ _ 9 _ _ _ _ nd rfl (Or.inr rfl) (zB4 (zD4 (K:=K) rfl) (pv 4) (@zB6 _ _ _ _ _ _ _ _ zE0 (pv 8) (zC9 (zF0 (K:=K) rfl) (by rfl) T.z_len PySem.boot_len (@zA0 _ _ _ _ _ (pv 4) zA3 (by rfl)))) (fun _ _=>rfl)) (by rfl) (Or.inl rfl))
   (@zA4 _ _ _ _ _ (zN3 ["_law_place"] ["_law_x"] [9] (i:=10) nd rfl rfl rfl (by rfl) (zD5 (K:=K) rfl (pv 1)) (fun _ _ _ _=>(zA9 (i:=0) (show List.Nodup (["_law_place","_law_x"]:List Str) from by decide) rfl (Or.inl rfl))) (fun _ _ _ _=>(zS8 (zC1 yV7 (zB4 (zA7 (K:=K) rfl) (pv 0) zA2 (fun _ _=>rfl)) (pv 1) (zD3 _)))) (fun _ _ _ _=>(zB4 (zA7 (K:=K) rfl) (pv 0) zA2 (fun _ _=>rfl))))
   (@zA6 _ _ _ (zK3 (yC5 PySem.F.plainAttrs_list PySem.F.slot_list_append PySem.F.type_list_append zJ4 (pv 6) (@zA0 _ _ _ _ _ (zB7 G__law_step hr (by rfl) zB8 (@zA0 _ _ _ _ _ (@zB6 _ _ _ _ _ _ _ _ zD1 (pv 8) zA2) (@zA0 _ _ _ _ _ (pv 9) (@zA0 _ _ _ _ _ (pv 10) (@zA0 _ _ _ _ _ (pv 2) zA3 (by rfl)) (by rfl)) (by rfl)) (by rfl))) zA3 (by rfl)))))))))
   (@zA4 _ _ _ _ _ (zK2 (PW.pt (xL7 (zC1 zT0 (pv 3) zA2 (zD3 _)) (xA0 (zC1 (zQ5 (K:=K) rfl hr) (pv 5) (@zK8 _ _ _ _ zA3) (zD3 _))))) (@zA6 _ _ _ (zD6 PassesOwn.never rfl (zH3 (by rfl) T.z_range (@zA0 _ _ _ _ _ (zC9 (zF0 (K:=K) rfl) (by rfl) T.z_len PySem.boot_len (@zA0 _ _ _ _ _ (pv 4) zA3 (by rfl))) zA3 (by rfl))) (zA9 (i:=11) nd rfl (Or.inl rfl)) (@zA6 _ _ _ (zK3 (yC5 PySem.F.plainAttrs_list PySem.F.slot_list_append PySem.F.type_list_append zJ4 (pv 6) (@zA0 _ _ _ _ _ (@zC3 _ _ _ _ _ (@zA0 _ _ _ _ _ zF3 (@zA0 _ _ _ _ _ (zB4 (zD4 (K:=K) rfl) (pv 4) (pv 11) (fun _ _=>rfl)) (@zA0 _ _ _ _ _ (zB4 (zD4 (K:=K) rfl) (pv 5) (@zB6 _ _ _ _ _ _ _ _ zE0 (pv 11) (zC9 (zF0 (K:=K) rfl) (by rfl) T.z_len PySem.boot_len (@zA0 _ _ _ _ _ (pv 5) zA3 (by rfl)))) (fun _ _=>rfl)) (@zA0 _ _ _ _ _ (@zC3 _ _ _ _ _ (@zA0 _ _ _ _ _ zA2 (@zA0 _ _ _ _ _ (@zB6 _ _ _ _ _ _ _ _ zJ1 zA2 (pv 11)) zA3 (by rfl)) (by rfl))) zA3 (by rfl)) (by rfl)) (by rfl)) (by rfl))) zA3 (by rfl))))))) zE1)
   (@zA6 _ _ _ (zC0 (pv 6))))))))),?_⟩
  have hlen:xs.length = ps.length:=hP.length
  refine ⟨_,rfl,ah,xs,ps,true,rfl,SqL.of hH,hP,ok.len,fun pc H1 hpc s1 h1=>?_⟩
  rw [wB1] at h1
  refine ⟨_,rfl,ah,xs,ps,false,rfl,SqL.of (s1 _ _ hH),zB9 hP s1,ok.len,fun pk H2 hpk s2 h2=>?_⟩
  have h2:H2 pk = some (.lst ((skN ps).map V.str)):=h2
  have s02:=s1.trans s2
  have h12:=s2 _ _ h1
  refine ⟨sz (by simp),fun p hp=>?_⟩
  have tp:=Same.upd (o:=.lst []) hp
  have hp0:=s02.free hp
  have c8:(ckN ps).length <= 8:=Nat.le_trans yA6 ok.len
  have c1:1 <= (ckN ps).length:=by
   cases e:ckN ps with
   | nil=>exact absurd e hck
   | cons a r=>simp
  have k8:(skN ps).length <= 8:=by
   unfold skN
   rw [List.length_map]
   exact Nat.le_trans (List.length_filter_le _ _) ok.len
  have hml:((ckN ps).map V.str).length = (ckN ps).length:=List.length_map ..
  have hkl:((skN ps).map V.str).length = (skN ps).length:=List.length_map ..
  have layk:∀ z ∈ skN ps,Lay z:=fun z hz=>ok.lay z (yZ0 hz)
  obtain ⟨x00,hx00⟩:∃ z,(ckN ps)[0]? = some z:=⟨_,List.getElem?_eq_getElem (by omega)⟩
  refine ⟨_,rfl,rfl,_,rfl,?_⟩
  refine ite2 (fun hd2=>?X) (fun hd2C=>?C)
  case' X =>
   refine ⟨_,rfl,sz (by simp),fun l0 hl0=>?_⟩
   have t0:=tp.trans (Same.upd (o:=.lst []) hl0)
   refine ⟨_,_,zR3 (t0 _ _ h2) layk,zW3 zA1,zM9 _,_,rfl,?_⟩
   rw [zN6]
   refine ite2 (fun he=>?A) (fun heB=>?B)
  case' A =>
   have he:(!(skN ps).isEmpty) = true:=he
   have k1:1 <= (skN ps).length:=by
    cases e:skN ps with
    | nil=>rw [e] at he; cases he
    | cons a r=>simp
   obtain ⟨y00,hy00⟩:∃ z,(skN ps)[0]? = some z:=⟨_,List.getElem?_eq_getElem (by omega)⟩
   have hp1:=(Same.upd (o:=.lst []) hl0) _ _ (zA1 (H:=H2) (a:=p) (o:=.lst []))
   refine ⟨_,rfl,.inl ⟨rfl,_,SqL.of hp1⟩,_,rfl,pc,_,_,_,rfl,rfl,SqL.of (t0 _ _ h12),yA9 hx00,_,rfl,pk,_,_,_,rfl,rfl,SqL.of (t0 _ _ h2),yA9 hy00,sz (by simp),fun t1 ht1=>⟨sz (by simp),fun t2 ht2=>?_⟩⟩
   have u1:=Same.upd (o:=.tup [.int 1,.int 2]) ht1
   have u2:=Same.upd (o:=.tup [V.str "pass",.str x00,.str y00,.ref t1]) ht2
   have u12:=u1.trans u2
   refine ⟨p,_,_,rfl,rfl,u12 _ _ hp1,sz (by simp),?_⟩
   have tu:=zC8 (o:=.lst ([] ++ [.ref t2])) (u12 _ _ hp1) (fun _ z=>nomatch z)
   have uf:=zV4 (d:=2) (by decide) (by decide)
   have st0:=((t0.trans u12).updD (o:=.lst ([] ++ [.ref t2])) hp)
   have sv0:StV (upd (upd (upd (upd (upd H2 p (.lst [])) l0 (.lst [])) t1 (.tup [.int 1,.int 2])) t2 (.tup [V.str "pass",.str x00,.str y00,.ref t1])) p (.lst ([] ++ [.ref t2]))) (.ref t2) (.ps x00 y00 (Rat.divInt 1 2)):=⟨t2,.ref t1,rfl,tu _ _ zA1,((FrV.newOf (r:=Rat.divInt 1 2) (p:=t1) uf.1 uf.2.1).same u2).tup tu⟩
   have so0:OkT (allN ps) (.ps x00 y00 (Rat.divInt 1 2)):=⟨⟨zJ7 (List.mem_of_getElem? hx00),yZ0 (List.mem_of_getElem? hy00),xJ6 ok (List.mem_of_getElem? hx00) (List.mem_of_getElem? hy00),uf.2.2⟩,yW8 (by decide) (by decide)⟩
   have hp2:=zA1 (H:=upd (upd (upd (upd H2 p (.lst [])) l0 (.lst [])) t1 (.tup [.int 1,.int 2])) t2 (.tup [V.str "pass",.str x00,.str y00,.ref t1])) (a:=p) (o:=.lst ([] ++ [.ref t2]))
   generalize upd (upd (upd (upd (upd H2 p (.lst [])) l0 (.lst [])) t1 (.tup [.int 1,.int 2])) t2 (.tup [V.str "pass",.str x00,.str y00,.ref t1])) p (.lst ([] ++ [.ref t2])) = H3 at *
   have hc3:=st0 _ _ h12
   refine ⟨_,rfl,_,rfl,_,_,rfl,.inl ⟨_,SqL.of hc3,rfl⟩,1,_,rfl,⟨by decide,by decide,by rw [hml]; omega,by rw [hml]; omega⟩,fun D hD=>?_⟩
   refine zY3 (fun i σ' H'=>∃ (v:Option V) (ys:List V) (ss:List Stp),σ' = [v,some (.ref pc)] /\ Same H3 H' /\ H' D = some (.lst ys) /\ Paired (StV H') ys ss /\ (∀ s ∈ ss,OkT (allN ps) s) /\ ss.length = i /\ ∀ (j:Nat) (x x':Str),(ckN ps)[j + 1]? = some x->(ckN ps)[j]? = some x'->j < i->∃ t,ss[j]? = some (.ps x x' t) /\ 0 < t /\ t <= 1) ⟨none,[],[],rfl,Same.upd hD,zA1,.nil,(fun _ z=>nomatch z),rfl,fun j _ _ _ _ hj=>absurd hj (Nat.not_lt_zero _)⟩ ?_ ?_
   ·rintro i σ' H' hi ⟨v,ys,ss,rfl,s3,hd,hY,hO,hl,hst⟩
    have hi:i + 1 < (ckN ps).length:=by
     have hi:i < ((((ckN ps).map V.str).length:Nat) - 1:Int).toNat:=hi
     rw [hml] at hi; omega
    have hyl:ys.length = i:=hY.length.trans hl
    obtain ⟨x1,hx1⟩:∃ z,(ckN ps)[i + 1]? = some z:=⟨_,List.getElem?_eq_getElem hi⟩
    obtain ⟨x2,hx2⟩:∃ z,(ckN ps)[i]? = some z:=⟨_,List.getElem?_eq_getElem (by omega)⟩
    have e1:atI ((ckN ps).map V.str) (1 + (i:Int)) = some (.str x1):=by
     have:=yA9 hx1
     have e:((i + 1:Nat):Int) = 1 + (i:Int):=by omega
     rw [e] at this; exact this
    have e2:atI ((ckN ps).map V.str) (1 + (i:Int) - 1) = some (.str x2):=by
     have:=yA9 hx2
     have e:(i:Int) = 1 + (i:Int) - 1:=by omega
     rw [e] at this; exact this
    have hc4:=s3 _ _ hc3
    refine ⟨_,rfl,_,rfl,pc,_,_,_,rfl,rfl,SqL.of hc4,e1,_,rfl,_,rfl,_,_,rfl,rfl,pc,_,_,_,rfl,rfl,SqL.of hc4,e2,_,rfl,_,_,rfl,rfl,sz (by simp),fun t3 ht3=>⟨sz (by simp),fun t4 ht4=>?_⟩⟩
    have v3:=Same.upd (o:=.tup [.int 1,.int (2 + (1 + (i:Int)))]) ht3
    have v4:=Same.upd (o:=.tup [V.str "pass",.str x1,.str x2,.ref t3]) ht4
    have v34:=v3.trans v4
    have hd4:=v34 _ _ hd
    have tv:=zC8 (o:=.lst (ys ++ [.ref t4])) hd4 (fun _ z=>nomatch z)
    have ug:=zV4 (d:=2 + (1 + (i:Int))) (by omega) (by omega)
    refine ⟨_,hd4,sz (by omega),_,ys ++ [.ref t4],ss ++ [.ps x1 x2 (Rat.divInt 1 (2 + (1 + (i:Int))))],rfl,(s3.trans v34).updD hD,zA1,?_,?_,by rw [List.length_append,hl]; rfl,fun j x x' h1 h2 h3=>?_⟩
    ·refine Paired.snoc (Paired.mapP hY fun _ _ g=>(g.same v34).tup tv) ?_
     exact ⟨t4,.ref t3,rfl,tv _ _ zA1,((FrV.newOf (r:=Rat.divInt 1 (2 + (1 + (i:Int)))) (p:=t3) ug.1 ug.2.1).same v4).tup tv⟩
    ·intro s hs
     rcases List.mem_append.mp hs with e | e
     ·exact hO s e
     ·rw [List.mem_singleton.mp e]
      exact ⟨⟨zJ7 (List.mem_of_getElem? hx1),zJ7 (List.mem_of_getElem? hx2),(xZ9 ok.ck hx2 hx1 (by omega)).symm,ug.2.2⟩,yW8 (by omega) (by omega)⟩
    ·by_cases u:j < i
     ·obtain ⟨t,g1,g2⟩:=hst j x x' h1 h2 u
      refine ⟨t,?_,g2⟩
      rw [List.getElem?_append_left (by omega)]; exact g1
     ·have u:j = i:=by omega
      subst u
      rw [hx1] at h1
      rw [hx2] at h2
      cases h1
      cases h2
      refine ⟨_,?_,yB0 (by omega),ug.2.2.2.1⟩
      rw [<- hl,List.getElem?_append_right (Nat.le_refl _),Nat.sub_self]; rfl
   rintro σ' H4 ⟨v,ys,ss,rfl,s3,hd,hY,hO,hl,hst⟩
   have hl0:ss.length = ((((ckN ps).map V.str).length:Nat) - 1:Int).toNat:=hl
   have hl:ss.length + 1 <= 5:=by
    have hl:ss.length = ((((ckN ps).map V.str).length:Nat) - 1:Int).toNat:=hl
    rw [hml] at hl; omega
   have hyl:ys.length = ss.length:=hY.length
   have hp4:=s3 _ _ hp2
   refine ⟨p,D,_,ys,rfl,rfl,hp4,hd,sz (by simp; omega),fun p2 hp2'=>?_⟩
   let pp:Addr:=p2
   let ys':List V:=[] ++ [.ref t2] ++ ys
   let ss':List Stp:=[.ps x00 y00 (Rat.divInt 1 2)] ++ ss
   have w1:=(Same.upd (o:=.lst ([] ++ [.ref t2] ++ ys)) hp2')
   have s3':=st0.trans (s3.trans w1)
   have hp0':H pp = none:=s02.free (st0.free (s3.free hp2'))
   have hpp:=zA1 (H:=H4) (a:=p2) (o:=.lst ([] ++ [.ref t2] ++ ys))
   have hY':Paired (StV (upd H4 p2 (.lst ([] ++ [.ref t2] ++ ys)))) ys' ss':=Paired.app (.cons (sv0.same (s3.trans w1)) .nil) (zD0 hY w1)
   have hO':∀ s ∈ ss',OkT (allN ps) s:=fun s hs=>by
    rcases List.mem_append.mp hs with e | e
    ·rw [List.mem_singleton.mp e]; exact so0
    ·exact hO s e
   have hd2:d = 2:=by have:=of_decide_eq_true hd2; exact V.int.inj this
   have hl':ss'.length <= 5 /\ (d = 1->ss'.length = 0):=by
    refine ⟨?_,fun e=>by omega⟩
    show ([Stp.ps x00 y00 (Rat.divInt 1 2)] ++ ss).length <= 5; rw [List.length_append,List.length_singleton]; omega
   have hch:skN ps ≠ []->d = 2->∃ ch,ss' = ch /\ ChP (ckN ps) ch:=fun _ _=>by
    refine ⟨_,rfl,?_,fun q x hq=>?_⟩
    ·show ([Stp.ps x00 y00 (Rat.divInt 1 2)] ++ ss).length = _
     rw [List.length_append,List.length_singleton]
     have hl0:=hl0
     rw [hml] at hl0
     omega
    ·cases q with
     | zero =>
      rw [hx00] at hq
      cases hq
      exact ⟨y00,Rat.divInt 1 2,rfl,yB0 (by decide),uf.2.2.2.1,.inl ⟨rfl,fun h=>xJ6 ok h (List.mem_of_getElem? hy00) rfl⟩⟩
     | succ q =>
      have hql:=(List.getElem?_eq_some_iff.mp hq).1
      obtain ⟨x',hx'⟩:∃ z,(ckN ps)[q]? = some z:=⟨_,List.getElem?_eq_getElem (by omega)⟩
      have hl0:=hl0
      rw [hml] at hl0
      obtain ⟨t,g1,g2,g3⟩:=hst q x x' hq hx' (by show q < ((((ckN ps).map V.str).length:Nat) - 1:Int).toNat; rw [hml]; omega)
      exact ⟨x',t,g1,g2,g3,.inr ⟨q,rfl,hx'⟩⟩
   have v11:Option V:=none
  case' B =>
   let pp:Addr:=p
   let ys':List V:=[]
   let ss':List Stp:=[]
   have s3':=t0
   have hp0':H pp = none:=hp0
   have hpp:=(Same.upd (o:=.lst []) hl0) _ _ (zA1 (H:=H2) (a:=p) (o:=.lst []))
   have hY':Paired (StV (upd (upd H2 p (.lst [])) l0 (.lst []))) ys' ss':=.nil
   have hO':∀ s ∈ ss',OkT (allN ps) s:=fun s hs=>absurd (show s ∈ ([]:List Stp) from hs) (by simp)
   have hch:skN ps ≠ []->d = 2->∃ ch,ss' = ch /\ ChP (ckN ps) ch:=fun hs _=>by
    exfalso
    apply heB
    show (!(skN ps).isEmpty) = true
    cases e:skN ps with
    | nil=>exact absurd e hs
    | cons a r=>rfl
   have hl':ss'.length <= 5 /\ (d = 1->ss'.length = 0):=⟨by simp [ss'],fun _=>by simp [ss']⟩
  case' C =>
   refine iteF ?_
   let pp:Addr:=p
   let ys':List V:=[]
   let ss':List Stp:=[]
   have s3':=tp
   have hp0':H pp = none:=hp0
   have hpp:=(zA1 (H:=H2) (a:=p) (o:=.lst []))
   have hY':Paired (StV (upd H2 p (.lst []))) ys' ss':=.nil
   have hO':∀ s ∈ ss',OkT (allN ps) s:=fun s hs=>absurd (show s ∈ ([]:List Stp) from hs) (by simp)
   have hch:skN ps ≠ []->d = 2->∃ ch,ss' = ch /\ ChP (ckN ps) ch:=fun _ h2=>absurd (decide_eq_true (by rw [h2])) hd2C
   have hl':ss'.length <= 5 /\ (d = 1->ss'.length = 0):=⟨by simp [ss'],fun _=>by simp [ss']⟩
  all_goals
   have sA:=s02.trans s3'
   refine ⟨_,rfl,ac,rfl,⟨_,sA.seq hC⟩,?_⟩
   refine zF7 (xs:=ms.map V.int) (fun i σ H5=>∃ (v7 v8 v9 v10 v11:Option V) (ys:List V) (ss:List Stp),σ = [some (.ref ac),some (.ref ah),some (.int f),some (.int d),some (.ref pc),some (.ref pk),some (.ref pp),v7,v8,v9,v10,v11] /\ Same H2 H5 /\ H5 pp = some (.lst ys) /\ Paired (StV H5) ys ss /\ (∀ s ∈ ss,OkT (allN ps) s) /\ ss.length <= 5 + i /\ (d = 1->ss.length <= i) /\ ∃ rest,ss = ss' ++ rest) ⟨none,none,none,none,none,ys',ss',rfl,s3',hpp,hY',hO',by omega,(fun e=>by have:=hl'.2 e; omega),[],by rw [List.append_nil]⟩ ?_ ?_ ?_
   ·rintro i σ H5 hi ⟨v7,v8,v9,v10,v11,ys,ss,rfl,s5,h5,hY,hO,hl,hl1,rest,hrest⟩
    exact (s02.trans s5).seq hC
   ·rintro i x σ H5 hx ⟨v7,v8,v9,v10,v11,ys,ss,rfl,s5,h5,hY,hO,hl,hl1,rest,hrest⟩
    obtain ⟨c,rfl,hci⟩:=xQ7 hx
    have hi:i < ms.length:=(List.getElem?_eq_some_iff.mp hci).1
    have hyl:ys.length = ss.length:=hY.length
    have s05:=s02.trans s5
    have hc5:=s5 _ _ h12
    refine ⟨_,rfl,c,rfl,fun m m0 m1=>?_⟩
    have qm:=zE5 (c:=m) (m:=((((ckN ps).map V.str).length:Nat):Int)) (by rw [hml]; omega)
    obtain ⟨x0,hx0,hat⟩:=yG6 (zs:=ckN ps) qm.1 (by have:=qm.2; omega)
    refine ⟨_,rfl,_,rfl,_,rfl,_,_,rfl,.inl ⟨_,SqL.of hc5,rfl⟩,_,_,rfl,rfl,(show ((((ckN ps).map V.str).length:Nat):Int) ≠ 0 by rw [hml]; omega),pc,_,_,_,rfl,rfl,SqL.of hc5,hat,?_⟩
    refine ⟨_,rfl,ah,rfl,⟨_,SqL.of (s05 _ _ hH)⟩,fun D hD=>?_⟩
    have hP5:=zB9 hP s05
    refine zJ2 (xs:=xs) (fun j σ' H'=>∃ (v:Option V),σ' = [v,some (.str x0)] /\ Same H5 H' /\ H' D = some (.lst (((allN (ps.take j)).filter fun z=>decide (z ≠ x0)).map V.str))) ⟨none,rfl,Same.upd hD,zA1⟩ ?_ ?_ ?_
    ·rintro j σ' H' hj ⟨v,rfl,s6,hd⟩
     exact SqL.of (s6 _ _ (s05 _ _ hH))
    ·rintro j y σ' H' hy ⟨v,rfl,s6,hd⟩
     obtain ⟨q,hq,pv⟩:=zC4 hP5 hy
     obtain ⟨b,zs,rfl,hb,_,e1⟩:=pv.at
     have et:allN (ps.take (j + 1)) = allN (ps.take j) ++ [nmP q]:=by unfold allN; rw [zC2 hq,List.map_append]; rfl
     refine ⟨_,rfl,b,_,_,_,rfl,rfl,SqT.of (s6 _ _ hb),e1,_,rfl,rfl,_,rfl,?_⟩
     refine ite2 (fun e=>?_) (fun e=>?_)
     ·have e:(!decide (V.str (nmP q) = V.str x0)) = true:=e
      have ne:nmP q ≠ x0:=by intro z; rw [z] at e; simp at e
      refine ⟨_,rfl,b,_,_,_,rfl,rfl,SqT.of (s6 _ _ hb),e1,_,hd,?_,_,rfl,s6.updD hD,?_⟩
      ·rw [List.length_map]
       have:=List.length_filter_le (fun z=>decide (z ≠ x0)) (allN (ps.take j))
       have h3:(allN (ps.take j)).length <= 8:=by
        unfold allN
        rw [List.length_map,List.length_take]
        have:=ok.len
        omega
       exact sz (by omega)
      ·rw [zA1,et,List.filter_append,List.map_append]
       simp [ne]
     ·have e:¬ (!decide (V.str (nmP q) = V.str x0)) = true:=e
      have eq:nmP q = x0:=by
       by_cases h:nmP q = x0
       ·exact h
       ·exact absurd (by simp [h]) e
      refine ⟨_,rfl,s6,?_⟩
      rw [hd,et,List.filter_append]
      simp [eq]
    ·rintro σ' H6 ⟨v,rfl,s6,hd⟩
     rw [hlen,List.take_length] at hd
     have h56:=s6 _ _ h5
     refine ⟨_,rfl,.inl ⟨rfl,_,SqL.of h56⟩,_,rfl,_,_,rfl,rfl,ddv (by decide) (by decide),_,rfl,_,rfl,_,rfl,_,x0,D,(allN ps).filter fun z=>decide (z ≠ x0),allN ps,f,rfl,hd,?_,zJ7 hx0,fun z hz=>?_,hf,fun w H7 st s7 sv so=>?_⟩
     ·refine Nat.le_trans (List.length_filter_le _ _) ?_
      unfold allN
      rw [List.length_map]; exact ok.len
     ·obtain ⟨a1,a2⟩:=List.mem_filter.mp hz
      exact ⟨a1,by simpa using a2,ok.lay z a1⟩
     have s67:=s6.trans s7
     have h57:=s67 _ _ h5
     refine ⟨pp,_,_,rfl,rfl,h57,sz (by omega),?_⟩
     have tu:=zC8 (o:=.lst (ys ++ [w])) h57 (fun _ z=>nomatch z)
     have n2:H2 pp = none \/ pp = p:=by first | exact .inr rfl | exact .inl (st0.free (s3.free hp2'))
     refine ⟨_,_,_,_,_,ys ++ [w],ss ++ [st],rfl,?_,zA1,?_,?_,by rw [List.length_append,List.length_singleton]; omega,(fun e=>by have:=hl1 e; rw [List.length_append,List.length_singleton]; omega),rest ++ [st],by rw [hrest,List.append_assoc]⟩
     ·rcases n2 with n2 | n2
      ·exact (s5.trans s67).updD n2
      ·rw [n2]; exact (s5.trans s67).updD hp
     ·exact Paired.snoc (Paired.mapP hY fun _ _ g=>(g.same s67).tup tu) (sv.tup tu)
     ·intro s hs
      rcases List.mem_append.mp hs with e | e
      ·exact hO s e
      ·rw [List.mem_singleton.mp e]; exact so
   rintro σ H5 ⟨v7,v8,v9,v10,v11,ys,ss,rfl,s5,h5,hY,hO,hl,hl1,rest,hrest⟩
   rw [List.length_map] at hl hl1
   have n2:H2 pp = none \/ pp = p:=by first | exact .inr rfl | exact .inl (st0.free (s3.free hp2'))
   have s05:=s02.trans s5
   refine ⟨_,rfl,rfl,_,rfl,?_⟩
   have hchS:skN ps ≠ []->d = 2->∃ ch rest,ss = ch ++ rest /\ ChP (ckN ps) ch:=fun hs h2=>by
    obtain ⟨ch,e1,e2⟩:=hch hs h2
    exact ⟨ch,rest,by rw [hrest,e1],e2⟩
   refine ite2 (fun hd1=>?_) (fun hd1=>iteF ⟨_,rfl,k pp H5 ys ss hp0' s05 h5 hY hO (by omega) hchS fun _ h1=>absurd (decide_eq_true (by rw [h1])) hd1⟩)
   have hd1:d = 1:=V.int.inj (of_decide_eq_true hd1)
   have hl1:=hl1 hd1
   refine ⟨_,rfl,sz (by simp),fun l0 hl0=>?_⟩
   have t0:=(Same.upd (o:=.lst []) hl0)
   have hk5:=t0 _ _ (s5 _ _ h2)
   have hc5:=t0 _ _ (s5 _ _ h12)
   refine ⟨_,_,zR3 hk5 layk,zW3 zA1,zM9 _,_,rfl,?_⟩
   rw [zN6]
   refine ite2 (fun he=>?_) (fun he=>⟨_,rfl,k pp _ ys ss hp0' (s05.trans t0) (t0 _ _ h5) (zD0 hY t0) hO (by omega) hchS fun hs _=>?_⟩)
   rotate_left
   ·exfalso
    apply he
    show (!(skN ps).isEmpty) = true
    cases e:skN ps with
    | nil=>exact absurd e hs
    | cons a r=>rfl
   have he:(!(skN ps).isEmpty) = true:=he
   have k1:1 <= (skN ps).length:=by
    cases e:skN ps with
    | nil=>rw [e] at he; cases he
    | cons a r=>simp
   refine ⟨_,rfl,_,_,rfl,.inl ⟨_,SqL.of hc5,rfl⟩,_,rfl,by rw [hml]; omega,by rw [hml]; omega,?_⟩
   let ss0:List Stp:=ss
   refine zH4 (fun i σ H6=>∃ (v11:Option V) (ys:List V) (ss:List Stp),σ = [some (.ref ac),some (.ref ah),some (.int f),some (.int d),some (.ref pc),some (.ref pk),some (.ref pp),v7,v8,v9,v10,v11] /\ Same H2 H6 /\ H6 pp = some (.lst ys) /\ Paired (StV H6) ys ss /\ (∀ s ∈ ss,OkT (allN ps) s) /\ ss.length <= 10 + i /\ ∃ dr,ss = ss0 ++ dr /\ (∀ s ∈ dr,∃ x y t,s = .ps x y t /\ x ∈ ckN ps /\ y ∉ ckN ps /\ 0 <= t /\ t <= 1) /\ ∀ (j:Nat) (x:Str),(ckN ps)[j]? = some x->j < i->∃ y t,Stp.ps x y t ∈ dr /\ 0 < t) ⟨v11,ys,ss,rfl,s5.trans t0,t0 _ _ h5,zD0 hY t0,hO,by omega,[],by rw [List.append_nil],(fun _ z=>nomatch z),fun j _ _ hj=>absurd hj (Nat.not_lt_zero _)⟩ ?_ ?_
   ·rintro i σ H6 hi ⟨v11,ys,ss,rfl,s6,h6,hY,hO,hl,dr,hdr,hd1',hd2'⟩
    have hi:i < (ckN ps).length:=by
     have hi:i < ((((ckN ps).map V.str).length:Nat):Int).toNat:=hi
     rw [hml] at hi; simpa using hi
    have hyl:ys.length = ss.length:=hY.length
    obtain ⟨x1,hx1⟩:∃ z,(ckN ps)[i]? = some z:=⟨_,List.getElem?_eq_getElem hi⟩
    have e1:atI ((ckN ps).map V.str) (0 + (i:Int)) = some (.str x1):=by rw [Int.zero_add]; exact yA9 hx1
    have qk:=zE5 (c:=0 + (i:Int)) (m:=((((skN ps).map V.str).length:Nat):Int)) (by rw [hkl]; omega)
    obtain ⟨y1,hy1,haty⟩:=yG6 (zs:=skN ps) qk.1 (by have:=qk.2; omega)
    have hc6:=s6 _ _ h12
    have hk6:=s6 _ _ h2
    refine ⟨_,rfl,.inl ⟨rfl,_,SqL.of h6⟩,_,rfl,_,rfl,pc,_,_,_,rfl,rfl,SqL.of hc6,e1,_,rfl,_,rfl,_,rfl,_,_,rfl,.inl ⟨_,SqL.of hk6,rfl⟩,_,_,rfl,rfl,(show ((((skN ps).map V.str).length:Nat):Int) ≠ 0 by rw [hkl]; omega),pk,_,_,_,rfl,rfl,SqL.of hk6,haty,_,rfl,_,_,rfl,rfl,sz (by simp),fun t3 ht3=>⟨sz (by simp),fun t4 ht4=>?_⟩⟩
    have v3:=Same.upd (o:=.tup [.int 1,.int (2 + (0 + (i:Int)))]) ht3
    have v4:=Same.upd (o:=.tup [V.str "pass",.str x1,.str y1,.ref t3]) ht4
    have v34:=v3.trans v4
    have h64:=v34 _ _ h6
    refine ⟨pp,_,_,rfl,rfl,h64,sz (by omega),?_⟩
    have tv:=zC8 (o:=.lst (ys ++ [.ref t4])) h64 (fun _ z=>nomatch z)
    have ug:=zV4 (d:=2 + (0 + (i:Int))) (by omega) (by omega)
    refine ⟨_,ys ++ [.ref t4],ss ++ [.ps x1 y1 (Rat.divInt 1 (2 + (0 + (i:Int))))],rfl,?_,zA1,?_,?_,by rw [List.length_append,List.length_singleton]; omega,dr ++ [.ps x1 y1 (Rat.divInt 1 (2 + (0 + (i:Int))))],by rw [hdr,List.append_assoc],fun s hs=>?_,fun j x hj hji=>?_⟩
    rotate_left
    rotate_left
    rotate_left
    ·rcases List.mem_append.mp hs with e | e
     ·exact hd1' s e
     ·exact ⟨x1,y1,_,List.mem_singleton.mp e,List.mem_of_getElem? hx1,fun h=>xJ6 ok h hy1 rfl,ug.2.2.1,ug.2.2.2.1⟩
    ·by_cases u:j < i
     ·obtain ⟨y,t,g1,g2⟩:=hd2' j x hj u
      exact ⟨y,t,List.mem_append_left _ g1,g2⟩
     ·have u:j = i:=by omega
      subst u
      rw [hx1] at hj
      cases hj
      exact ⟨y1,_,List.mem_append_right _ List.mem_cons_self,yB0 (by omega)⟩
    ·rcases n2 with n2 | n2
     ·exact (s6.trans v34).updD n2
     ·rw [n2]; exact (s6.trans v34).updD hp
    ·refine Paired.snoc (Paired.mapP hY fun _ _ g=>(g.same v34).tup tv) ?_
     exact ⟨t4,.ref t3,rfl,tv _ _ zA1,((FrV.newOf (r:=Rat.divInt 1 (2 + (0 + (i:Int)))) (p:=t3) ug.1 ug.2.1).same v4).tup tv⟩
    ·intro s hs
     rcases List.mem_append.mp hs with e | e
     ·exact hO s e
     ·rw [List.mem_singleton.mp e]
      exact ⟨⟨zJ7 (List.mem_of_getElem? hx1),yZ0 hy1,xJ6 ok (List.mem_of_getElem? hx1) hy1,ug.2.2⟩,yW8 (by omega) (by omega)⟩
   ·rintro σ H6 ⟨v11,ys,ss,rfl,s6,h6,hY,hO,hl,dr,hdr,hd1',hd2'⟩
    have hl:ss.length <= 10 + ((((ckN ps).map V.str).length:Nat):Int).toNat:=hl
    rw [hml] at hl
    have hl:ss.length <= 10 + (ckN ps).length:=by simpa using hl
    refine ⟨_,rfl,k pp H6 ys ss hp0' (s02.trans s6) h6 hY hO (by omega) (fun _ h2=>absurd (hd1.symm.trans h2) (by decide)) fun _ _=>⟨ss0,dr,hdr,hd1',fun x hx=>?_⟩⟩
    obtain ⟨j,hj,ej⟩:=List.getElem_of_mem hx
    refine hd2' j x (by rw [List.getElem?_eq_getElem hj,ej]) ?_
    show j < ((((ckN ps).map V.str).length:Nat):Int).toNat
    rw [hml]; simpa using hj
noncomputable abbrev zJ9:Stmt:=top 43
theorem sc__law_plus:zB5 ["_law_one","_law_other"] ["_law_one","_law_other"] (zA5 zJ9):=⟨rfl,rfl,rfl,by decide +kernel,rfl,by decide +kernel,by decide +kernel⟩
theorem yI9 {ca:Ca} (D:DefAt K mg "_law_plus" zJ9) (T:Txt K mg ca) (G__law_lowest:FnAt P w K mg base CX0 2 "_law_lowest" ["_law_top","_law_bottom"] (zR0)):FnAt P w K mg base CX0 3 "_law_plus" ["_law_one","_law_other"] (sp2 4000 (· + ·)):=by
 refine D.ok sc__law_plus (fun vs H Q E h=>?_) (fun _ _ _ _ _ _ us hl=>match us,hl with | [_,_],_=>rfl) (fun f cdv A outer s H vs Q E hr h=>?_)
 ·obtain ⟨_,_,r,q,rfl,⟨a,rfl,ha⟩,⟨b,rfl,hb⟩,br,bq,k⟩:=h; rfl
 ·obtain ⟨_,_,r,q,rfl,⟨a,rfl,ha⟩,⟨b,rfl,hb⟩,br,bq,k⟩:=h
  have nd:=sc__law_plus.nd
  refine ⟨_,(@zA6 _ _ _ (zC0 (zB7 G__law_lowest hr (by rfl) zB8 (@zA0 _ _ _ _ _ (@zB6 _ _ _ _ _ _ _ _ zJ1 (@zB6 _ _ _ _ _ _ _ _ zG5 (zB4 (zA7 (K:=K) rfl) (pv 0) zA2 (fun _ _=>rfl)) (zB4 (zA7 (K:=K) rfl) (pv 1) zA2 (fun _ _=>rfl))) (@zB6 _ _ _ _ _ _ _ _ zG5 (zB4 (zA7 (K:=K) rfl) (pv 1) zA2 (fun _ _=>rfl)) (zB4 (zA7 (K:=K) rfl) (pv 0) zA2 (fun _ _=>rfl)))) (@zA0 _ _ _ _ _ (@zB6 _ _ _ _ _ _ _ _ zG5 (zB4 (zA7 (K:=K) rfl) (pv 0) zA2 (fun _ _=>rfl)) (zB4 (zA7 (K:=K) rfl) (pv 1) zA2 (fun _ _=>rfl))) zA3 (by rfl)) (by rfl))))),?_⟩
  have d1:=zD7 r
  have d2:=zD7 q
  refine ⟨_,rfl,a,_,_,_,rfl,rfl,SqT.of ha,rfl,_,rfl,b,_,_,_,rfl,rfl,SqT.of hb,rfl,_,_,rfl,rfl,zE9 4000 br.num bq.den (by decide),_,rfl,b,_,_,_,rfl,rfl,SqT.of hb,rfl,_,rfl,a,_,_,_,rfl,rfl,SqT.of ha,rfl,_,_,rfl,rfl,zE9 4000 bq.num br.den (by decide),_,_,rfl,rfl,_,rfl,a,_,_,_,rfl,rfl,SqT.of ha,rfl,_,rfl,b,_,_,_,rfl,rfl,SqT.of hb,rfl,_,_,rfl,rfl,zE9 4000 br.den bq.den (by decide),_,_,rfl,Int.mul_ne_zero (by omega) (by omega),?_,fun v H' s h=>?_⟩
  ·have n1:((r.den:Int)).natAbs < 2 ^ 4000:=br.den
   have n2:((q.den:Int)).natAbs < 2 ^ 4000:=bq.den
   exact Nat.lt_of_lt_of_le (zL0 n1 n2) (zM4 (by decide))
  ·rw [<- xY0] at h
   exact k v H' s h
noncomputable abbrev zI1:Stmt:=top 44
theorem sc__law_times:zB5 ["_law_one","_law_other"] ["_law_one","_law_other"] (zA5 zI1):=⟨rfl,rfl,rfl,by decide +kernel,rfl,by decide +kernel,by decide +kernel⟩
theorem yD1 {ca:Ca} (D:DefAt K mg "_law_times" zI1) (T:Txt K mg ca) (G__law_lowest:FnAt P w K mg base CX0 2 "_law_lowest" ["_law_top","_law_bottom"] (zR0)):FnAt P w K mg base CX0 3 "_law_times" ["_law_one","_law_other"] (sp2 4000 (· * ·)):=by
 refine D.ok sc__law_times (fun vs H Q E h=>?_) (fun _ _ _ _ _ _ us hl=>match us,hl with | [_,_],_=>rfl) (fun f cdv A outer s H vs Q E hr h=>?_)
 ·obtain ⟨_,_,r,q,rfl,⟨a,rfl,ha⟩,⟨b,rfl,hb⟩,br,bq,k⟩:=h; rfl
 ·obtain ⟨_,_,r,q,rfl,⟨a,rfl,ha⟩,⟨b,rfl,hb⟩,br,bq,k⟩:=h
  have nd:=sc__law_times.nd
  refine ⟨_,(@zA6 _ _ _ (zC0 (zB7 G__law_lowest hr (by rfl) zB8 (@zA0 _ _ _ _ _ (@zB6 _ _ _ _ _ _ _ _ zG5 (zB4 (zA7 (K:=K) rfl) (pv 0) zA2 (fun _ _=>rfl)) (zB4 (zA7 (K:=K) rfl) (pv 1) zA2 (fun _ _=>rfl))) (@zA0 _ _ _ _ _ (@zB6 _ _ _ _ _ _ _ _ zG5 (zB4 (zA7 (K:=K) rfl) (pv 0) zA2 (fun _ _=>rfl)) (zB4 (zA7 (K:=K) rfl) (pv 1) zA2 (fun _ _=>rfl))) zA3 (by rfl)) (by rfl))))),?_⟩
  have d1:=zD7 r
  have d2:=zD7 q
  refine ⟨_,rfl,a,_,_,_,rfl,rfl,SqT.of ha,rfl,_,rfl,b,_,_,_,rfl,rfl,SqT.of hb,rfl,_,_,rfl,rfl,zE9 4000 br.num bq.num (by decide),_,rfl,a,_,_,_,rfl,rfl,SqT.of ha,rfl,_,rfl,b,_,_,_,rfl,rfl,SqT.of hb,rfl,_,_,rfl,rfl,zE9 4000 br.den bq.den (by decide),_,_,rfl,Int.mul_ne_zero (by omega) (by omega),?_,fun v H' s h=>?_⟩
  ·have n1:((r.den:Int)).natAbs < 2 ^ 4000:=br.den
   have n2:((q.den:Int)).natAbs < 2 ^ 4000:=bq.den
   exact Nat.lt_of_lt_of_le (zL0 n1 n2) (zM4 (by decide))
  ·rw [xB8] at h
   exact k v H' s h
noncomputable abbrev zL7:Stmt:=top 45
theorem sc__law_led:zB5 ["_law_totals","_law_steps_here","_law_brings","_law_made","_law_step_here","_law_went"] ["_law_totals","_law_steps_here","_law_brings"] (zA5 zL7):=⟨rfl,rfl,rfl,by decide +kernel,rfl,by decide +kernel,by decide +kernel⟩
theorem yN5 {ca:Ca} (D:DefAt K mg "_law_led" zL7) (T:Txt K mg ca) (G__law_times:FnAt P w K mg base CX0 3 "_law_times" ["_law_one","_law_other"] (sp2 4000 (· * ·))) (G__law_plus:FnAt P w K mg base CX0 3 "_law_plus" ["_law_one","_law_other"] (sp2 4000 (· + ·))):FnAt P w K mg base CX0 4 "_law_led" ["_law_totals","_law_steps_here","_law_brings"] (xG6 K):=by
 refine D.ok sc__law_led (fun vs H Q E h=>?_) (fun _ _ _ _ _ _ us hl=>match us,hl with | [_,_,_],_=>rfl) (fun f cdv A outer s H vs Q E hr h=>?_)
 ·obtain ⟨a,as,kv,ys,ss,L,bb,f,rfl,ha,hnd,h8,hrow,hS,hP,hOT,h15,hBd,k⟩:=h; rfl
 ·obtain ⟨a,as,kv,ys,ss,L,bb,f,rfl,ha,hnd,h8,hrow,hS,hP,hOT,h15,hBd,k⟩:=h
  have nd:=sc__law_led.nd
  refine ⟨_,(@zA4 _ _ _ _ _ (@zB1 _ _ 3 _ _ _ _ nd rfl (Or.inl rfl) (zJ3 zT8 (by rfl) T.z_dict yF5 (@zA0 _ _ _ _ _ (pv 0) zA3 (by rfl))) (by rfl) (Or.inl rfl))
   (@zA4 _ _ _ _ _ (zD6 PassesOwn.never rfl (zD5 (K:=K) rfl (pv 1)) (zA9 (i:=4) nd rfl (Or.inl rfl)) (@zA6 _ _ _ (zK2 (zC1 zT0 (zB4 (zA7 (K:=K) rfl) (pv 4) zA2 (fun _ _=>rfl)) zF3 (zD3 _)) (@zA4 _ _ _ _ _ (@zB1 _ _ 5 _ _ _ _ nd rfl (Or.inl rfl) (zB7 G__law_times hr (by rfl) zB8 (@zA0 _ _ _ _ _ (zF5 (zE2 hr) (pv 3) (zB4 (zA7 (K:=K) rfl) (pv 4) zA2 (fun _ _=>rfl)) (fun _ _=>rfl)) (@zA0 _ _ _ _ _ (zB4 (zA7 (K:=K) rfl) (pv 4) zA2 (fun _ _=>rfl)) zA3 (by rfl)) (by rfl))) (by rfl) (Or.inl rfl))
   (@zA4 _ _ _ _ _ (zF1 (zE2 hr) (pv 3) (zB4 (zA7 (K:=K) rfl) (pv 4) zA2 (fun _ _=>rfl)) (zB7 G__law_plus hr (by rfl) zB8 (@zA0 _ _ _ _ _ (zF5 (zE2 hr) (pv 3) (zB4 (zA7 (K:=K) rfl) (pv 4) zA2 (fun _ _=>rfl)) (fun _ _=>rfl)) (@zA0 _ _ _ _ _ (@zC3 _ _ _ _ _ (@zA0 _ _ _ _ _ (@zB6 _ _ _ _ _ _ _ _ yI6 zA2 (zB4 (zA7 (K:=K) rfl) (pv 5) zA2 (fun _ _=>rfl))) (@zA0 _ _ _ _ _ (zB4 (zA7 (K:=K) rfl) (pv 5) zA2 (fun _ _=>rfl)) zA3 (by rfl)) (by rfl))) zA3 (by rfl)) (by rfl))) rfl)
   (@zA6 _ _ _ (zF1 (zE2 hr) (pv 3) (zB4 (zA7 (K:=K) rfl) (pv 4) zA2 (fun _ _=>rfl)) (zB7 G__law_plus hr (by rfl) zB8 (@zA0 _ _ _ _ _ (zF5 (zE2 hr) (pv 3) (zB4 (zA7 (K:=K) rfl) (pv 4) zA2 (fun _ _=>rfl)) (fun _ _=>rfl)) (@zA0 _ _ _ _ _ (pv 5) zA3 (by rfl)) (by rfl))) rfl)))) (@zA6 _ _ _ (zK2 (zU1 (pv 2)) (@zA6 _ _ _ (zF1 (zE2 hr) (pv 3) (zB4 (zA7 (K:=K) rfl) (pv 4) zA2 (fun _ _=>rfl)) (zB7 G__law_plus hr (by rfl) zB8 (@zA0 _ _ _ _ _ (zF5 (zE2 hr) (pv 3) (zB4 (zA7 (K:=K) rfl) (pv 4) zA2 (fun _ _=>rfl)) (fun _ _=>rfl)) (@zA0 _ _ _ _ _ (zB4 (zA7 (K:=K) rfl) (pv 4) zA2 (fun _ _=>rfl)) zA3 (by rfl)) (by rfl))) rfl)) zE1)))))
   (@zA6 _ _ _ (zC0 (pv 3))))),?_⟩
  have hlen:ys.length = ss.length:=hP.length
  have hO:∀ s ∈ ss,OkS L s:=fun s hs=>(hOT s hs).1
  refine ⟨_,rfl,a,kv,rfl,ha,fun pm hpm=>?_⟩
  have tp:=Same.upd (o:=.dK kv) hpm
  refine ⟨_,rfl,as,rfl,⟨_,tp.seq hS⟩,?_⟩
  refine zF7 (xs:=ys) (fun j σ H1=>∃ (v4 v5:Option V) (kv':List (Key × V)),σ = [some (.ref a),some (.ref as),some (.bl bb),some (.ref pm),v4,v5] /\ Same H H1 /\ H1 pm = some (.dK kv') /\ RowAt H1 kv' (all L (ledB bb (ss.take j) f))) ⟨none,none,kv,rfl,tp,zA1,hrow.same fun v r f=>f.same tp⟩ ?_ ?_ ?_
  ·rintro j σ H1 hj ⟨v4,v5,kv',rfl,s1,h1,row⟩
   exact s1.seq hS
  ·rintro j x σ H1 hx ⟨v4,v5,kv',rfl,s1,h1,row⟩
   obtain ⟨st,hst,sv⟩:=zC4 hP hx
   have hj:j < ss.length:=(List.getElem?_eq_some_iff.mp hst).1
   have ed:=zC2 hst
   have esn:ledB bb (ss.take (j + 1)) f = stB bb st (ledB bb (ss.take j) f):=yE5 hst
   have hBj:=hBd j (by omega)
   have hBj1:=hBd (j + 1) (by omega)
   rw [esn] at hBj1
   have okT:=hOT st (List.mem_of_getElem? hst)
   cases st with
   | br z yr x0 q0 =>
    obtain ⟨b,l,fv,rfl,hb,hl,hf⟩:=sv
    have hx0:x0 ∈ L:=okT.1.1
    have bq:Bd 3900 q0:=((Cd.of okT.2).bd (s:=20) (by decide) (by decide) (by decide)).mono (by decide)
    refine ⟨_,rfl,b,_,_,_,rfl,rfl,SqT.of (s1 _ _ hb),rfl,rfl,_,rfl,?_⟩
    refine zM1 (by decide +kernel) ?_
    refine ⟨_,rfl,_,rfl,?_⟩
    cases bb with
    | false =>
     refine iteF ?_
     refine ⟨_,_,kv',rfl,s1,h1,?_⟩
     rw [esn]; exact row
    | true =>
     refine iteT ?_
     have hb1:=s1 _ _ hb
     have l1:=row.len' fun z hz=>all_some.mp hz
     let g:Str->Rat:=ledB true (ss.take j) f
     obtain ⟨w0,vx,fx⟩:=row.has x0 (g x0) (by unfold all; rw [if_pos hx0])
     have dg1:DGet H1 pm (.str x0) (some w0):=by
      have q:=DGet.k (k:=.inr x0) h1
      rw [vx] at q; exact q
     refine ⟨_,rfl,_,rfl,b,_,_,_,rfl,rfl,SqT.of hb1,rfl,pm,w0,rfl,dg1,_,rfl,b,_,_,_,rfl,rfl,SqT.of hb1,rfl,_,_,g x0,q0,rfl,fx,hf.same s1,(hBj x0 hx0).mono (by decide),bq.mono (by decide),fun w3 H3 s3 f3=>?_⟩
     have h13:=s3 _ _ h1
     refine ⟨_,rfl,_,rfl,b,_,_,_,rfl,rfl,SqT.of (s3 _ _ hb1),rfl,pm,upd H3 pm (.dK (putK kv' (.inr x0) w3)),rfl,DPut.k (k:=.inr x0) h13 (sz (by omega)),?_⟩
     have tu3:=zC8 (o:=.dK (putK kv' (.inr x0) w3)) h13 (fun _ z=>nomatch z)
     refine ⟨_,_,putK kv' (.inr x0) w3,rfl,(s1.trans s3).updD hpm,zA1,?_⟩
     rw [esn]
     have hr:=((row.same fun v r f=>f.same s3).put (z:=x0) f3).same fun v r f=>f.tup tu3
     have e:(fun y=>if y = x0 then some (g x0 + q0) else all L (ledB true (ss.take j) f) y) = all L (stB true (.br z yr x0 q0) (ledB true (ss.take j) f)):=by
      funext y
      show _ = if y ∈ L then some (if y = x0 then g x0 + q0 else g y) else none
      by_cases e:y = x0
      ·subst e; rw [if_pos rfl,if_pos hx0,if_pos rfl]
      ·rw [if_neg e,if_neg e]; rfl
     rw [<- e]; exact hr
   | ps x0 y0 t =>
    obtain ⟨b,fv,rfl,hb,hf⟩:=sv
    obtain ⟨hx0,hy0,hxy,t0,t1,td⟩:=hO _ (List.mem_of_getElem? hst)
    refine ⟨_,rfl,b,_,_,_,rfl,rfl,SqT.of (s1 _ _ hb),rfl,rfl,_,rfl,?_⟩
    refine zO2 rfl ?_
    have bs:=(Bd.share t0 t1 td).1
    let g:Str->Rat:=ledB bb (ss.take j) f
    have row:RowAt H1 kv' (all L g):=row
    have bx:Bd 3900 (g x0):=hBj x0 hx0
    have by':Bd 3900 (g y0):=hBj y0 hy0
    have bxt:Bd (3900 + 50) (g x0 * t):=bx.mul bs
    have esn:ledB bb (ss.take (j + 1)) f = fw x0 y0 t g:=esn
    have l1:=row.len' fun z hz=>all_some.mp hz
    obtain ⟨w0,vx,fx⟩:=row.has x0 (g x0) (by unfold all; rw [if_pos hx0])
    have dg1:DGet H1 pm (.str x0) (some w0):=by
     have q:=DGet.k (k:=.inr x0) h1
     rw [vx] at q; exact q
    have hb1:=s1 _ _ hb
    refine ⟨_,rfl,_,rfl,b,_,_,_,rfl,rfl,SqT.of hb1,rfl,pm,w0,rfl,dg1,_,rfl,b,_,_,_,rfl,rfl,SqT.of hb1,rfl,_,_,g x0,t,rfl,fx,hf.same s1,bx.mono (by decide),bs.mono (by decide),fun w1 H2 s2 f2=>?_⟩
    obtain ⟨c1,rfl,hc1⟩:=id f2
    have hb2:=s2 _ _ hb1
    have h12:=s2 _ _ h1
    have dg2:DGet H2 pm (.str x0) (some w0):=by
     have q:=DGet.k (k:=.inr x0) h12
     rw [vx] at q; exact q
    refine ⟨_,rfl,_,rfl,b,_,_,_,rfl,rfl,SqT.of hb2,rfl,pm,w0,rfl,dg2,_,rfl,c1,_,_,_,rfl,rfl,SqT.of hc1,rfl,_,_,rfl,rfl,_,rfl,c1,_,_,_,rfl,rfl,SqT.of hc1,rfl,sz (by simp),fun q1 hq1=>?_⟩
    have u3:=Same.upd (o:=.tup [.int (0 - (g x0 * t).num),.int ((g x0 * t).den:Nat)]) hq1
    refine ⟨_,_,g x0,-(g x0 * t),rfl,(fx.same s2).same u3,FrV.newOf (yA3 _).1 (yA3 _).2,bx.mono (by decide),bxt.neg.mono (by decide),fun w3 H3 s3 f3=>?_⟩
    have s23:=s2.trans (u3.trans s3)
    have h13:=s23 _ _ h1
    have hb3:=s23 _ _ hb1
    refine ⟨_,rfl,_,rfl,b,_,_,_,rfl,rfl,SqT.of hb3,rfl,pm,upd H3 pm (.dK (putK kv' (.inr x0) w3)),rfl,DPut.k (k:=.inr x0) h13 (sz (by omega)),?_⟩
    have tu3:=zC8 (o:=.dK (putK kv' (.inr x0) w3)) h13 (fun _ z=>nomatch z)
    have row3:RowAt (upd H3 pm (.dK (putK kv' (.inr x0) w3))) (putK kv' (.inr x0) w3) (fun z=>if z = x0 then some (g x0 + -(g x0 * t)) else all L g z):=((row.same fun v r f=>f.same s23).put (z:=x0) f3).same fun v r f=>f.tup tu3
    have f24:FrV (upd H3 pm (.dK (putK kv' (.inr x0) w3))) (.ref c1) (g x0 * t):=((f2.same u3).same s3).tup tu3
    have hb4:=tu3 _ _ hb3
    have sH4:Same H (upd H3 pm (.dK (putK kv' (.inr x0) w3))):=(s1.trans s23).updD hpm
    have hm4:=zA1 (H:=H3) (a:=pm) (o:=.dK (putK kv' (.inr x0) w3))
    have l4:=zF6 kv' (.inr x0) w3
    generalize upd H3 pm (.dK (putK kv' (.inr x0) w3)) = H4 at *
    generalize putK kv' (.inr x0) w3 = kv4 at *
    obtain ⟨w5,vy,fy⟩:=row3.has y0 (g y0) (by
     rw [if_neg (fun e=>hxy e.symm)]; unfold all; rw [if_pos hy0])
    have dg4:DGet H4 pm (.str y0) (some w5):=by
     have q:=DGet.k (k:=.inr y0) hm4
     rw [vy] at q; exact q
    refine ⟨_,rfl,_,rfl,b,_,_,_,rfl,rfl,SqT.of hb4,rfl,pm,w5,rfl,dg4,_,rfl,_,_,g y0,g x0 * t,rfl,fy,f24,by'.mono (by decide),bxt.mono (by decide),fun w6 H5 s5 f5=>?_⟩
    have h15:=s5 _ _ hm4
    refine ⟨_,rfl,_,rfl,b,_,_,_,rfl,rfl,SqT.of (s5 _ _ hb4),rfl,pm,upd H5 pm (.dK (putK kv4 (.inr y0) w6)),rfl,DPut.k (k:=.inr y0) h15 (sz (by omega)),?_⟩
    have tu5:=zC8 (o:=.dK (putK kv4 (.inr y0) w6)) h15 (fun _ z=>nomatch z)
    refine ⟨_,_,putK kv4 (.inr y0) w6,rfl,(sH4.trans s5).updD hpm,zA1,?_⟩
    rw [esn,<- xX9 hx0 hy0]
    exact ((row3.same fun v r f=>f.same s5).put (z:=y0) f5).same fun v r f=>f.tup tu5
  ·rintro σ H1 ⟨v4,v5,kv',rfl,s1,h1,row⟩
   rw [hlen,List.take_length] at row
   exact ⟨_,rfl,k pm H1 kv' hpm s1 h1 row⟩
noncomputable abbrev zG9:Stmt:=top 46
theorem sc__law_places:zB5 ["_law_house_here","_law_totals","_law_made","_law_place"] ["_law_house_here","_law_totals"] (zA5 zG9):=⟨rfl,rfl,rfl,by decide +kernel,rfl,by decide +kernel,by decide +kernel⟩
theorem zZ2 {ca:Ca} (D:DefAt K mg "_law_places" zG9) (T:Txt K mg ca):FnAt P w K mg base CX0 1 "_law_places" ["_law_house_here","_law_totals"] (zU7 K):=by
 refine D.ok sc__law_places (fun vs H Q E h=>?_) (fun _ _ _ _ _ _ us hl=>match us,hl with | [_,_],_=>rfl) (fun f cdv A outer s H vs Q E hr h=>?_)
 ·obtain ⟨ah,b,xs,ps,kt,g,rfl,hS,hP,h8,hb,hg,k⟩:=h; rfl
 ·obtain ⟨ah,b,xs,ps,kt,g,rfl,hS,hP,h8,hb,hg,k⟩:=h
  have nd:=sc__law_places.nd
  refine ⟨_,(@zA4 _ _ _ _ _ (@zB1 _ _ 2 _ _ _ _ nd rfl (Or.inl rfl) zF4 (by rfl) (Or.inl rfl))
   (@zA4 _ _ _ _ _ (zD6 PassesOwn.never rfl (zD5 (K:=K) rfl (pv 0)) (zA9 (i:=3) nd rfl (Or.inl rfl)) (@zA6 _ _ _ (zF1 (zE2 hr) (pv 2) (zB4 (zA7 (K:=K) rfl) (pv 3) zA2 (fun _ _=>rfl)) (yC4 (zE2 hr) (pv 1) (zB4 (zA7 (K:=K) rfl) (pv 3) zA2 (fun _ _=>rfl)) (@zC3 _ _ _ _ _ (@zA0 _ _ _ _ _ zA2 (@zA0 _ _ _ _ _ zA2 zA3 (by rfl)) (by rfl))) ⟨by rfl,by rfl,by rfl,by rfl⟩) rfl)))
   (@zA6 _ _ _ (zC0 (pv 2))))),?_⟩
  have hlen:xs.length = ps.length:=hP.length
  intro p hp
  have tp:=Same.upd (o:=.dK []) hp
  refine ⟨_,rfl,ah,rfl,⟨_,tp.seq hS⟩,?_⟩
  refine zF7 (xs:=xs) (fun i σ H1=>∃ (v3:Option V) (kv':List (Key × V)),σ = [some (.ref ah),some (.ref b),some (.ref p),v3] /\ Same H H1 /\ H1 p = some (.dK kv') /\ kv'.length <= i /\ RowAt H1 kv' (all (allN (ps.take i)) fun z=>(g z).getD 0)) ⟨none,[],rfl,tp,zA1,Nat.le_refl _,by rw [show allN (ps.take 0) = [] from rfl,zY6]; exact RowAt.nil _⟩ ?_ ?_ ?_
  ·rintro i σ H1 hi ⟨v3,kv',rfl,s1,h1,hl,row⟩
   exact s1.seq hS
  ·rintro i x σ H1 hx ⟨v3,kv',rfl,s1,h1,hl,row⟩
   obtain ⟨q,hq,pv⟩:=zC4 hP hx
   have hi:i < ps.length:=(List.getElem?_eq_some_iff.mp hq).1
   obtain ⟨c,zs,rfl,hc,_,e1⟩:=pv.at
   have hc1:=s1 _ _ hc
   have hb1:=s1 _ _ hb
   refine ⟨_,rfl,b,rfl,.inl ⟨kt,.inl hb1⟩,_,rfl,c,_,_,_,rfl,rfl,SqT.of hc1,e1,sz (by simp),fun q0 hq0=>⟨valV kt (.inr (nmP q)),DGet.k (k:=.inr (nmP q)) (Same.upd hq0 _ _ hb1),?_⟩⟩
   have t0:=Same.upd (o:=.tup [.int 0,.int 1]) hq0
   have fw':=(hg.same fun v r f=>(f.same s1).same t0).getD (FrV.newOf (r:=0) (p:=q0) rfl rfl) (nmP q)
   have h10:=t0 _ _ h1
   refine ⟨_,rfl,_,rfl,c,_,_,_,rfl,rfl,SqT.of (t0 _ _ hc1),e1,p,upd (upd H1 q0 (.tup [.int 0,.int 1])) p (.dK (putK kv' (.inr (nmP q)) ((valV kt (.inr (nmP q))).getD (.ref q0)))),rfl,DPut.k (k:=.inr (nmP q)) h10 (sz (by omega)),?_⟩
   have tu:=zC8 (o:=.dK (putK kv' (.inr (nmP q)) ((valV kt (.inr (nmP q))).getD (.ref q0)))) h10 (fun _ z=>nomatch z)
   refine ⟨_,putK kv' (.inr (nmP q)) ((valV kt (.inr (nmP q))).getD (.ref q0)),rfl,(s1.trans t0).updD hp,zA1,?_,?_⟩
   ·have:=zF6 kv' (.inr (nmP q)) ((valV kt (.inr (nmP q))).getD (.ref q0))
    omega
   ·have et:allN (ps.take (i + 1)) = allN (ps.take i) ++ [nmP q]:=by unfold allN; rw [zC2 hq,List.map_append]; rfl
    rw [et,zS1]
    exact ((row.same fun v r f=>f.same t0).put (z:=nmP q) fw').same fun v r f=>f.tup tu
  ·rintro σ H1 ⟨v3,kv',rfl,s1,h1,hl,row⟩
   rw [hlen,List.take_length] at row
   exact ⟨_,rfl,k p H1 kv' hp s1 h1 row⟩
noncomputable abbrev zI8:Stmt:=top 47
theorem sc__law_casks:zB5 ["_law_house_here","_law_made","_law_left_here","_law_place"] ["_law_house_here","_law_made"] (zA5 zI8):=⟨rfl,rfl,rfl,by decide +kernel,rfl,by decide +kernel,by decide +kernel⟩
theorem yD8 {ca:Ca} (D:DefAt K mg "_law_casks" zI8) (T:Txt K mg ca):FnAt P w K mg base CX0 1 "_law_casks" ["_law_house_here","_law_made"] (zU8 K):=by
 refine D.ok sc__law_casks (fun vs H Q E h=>?_) (fun _ _ _ _ _ _ us hl=>match us,hl with | [_,_],_=>rfl) (fun f cdv A outer s H vs Q E hr h=>?_)
 ·obtain ⟨ah,b,xs,ps,km,f,rfl,hS,hP,h8,hb,hg,k⟩:=h; rfl
 ·obtain ⟨ah,b,xs,ps,km,f,rfl,hS,hP,h8,hb,hg,k⟩:=h
  have nd:=sc__law_casks.nd
  refine ⟨_,(@zA4 _ _ _ _ _ (@zB1 _ _ 2 _ _ _ _ nd rfl (Or.inl rfl) zF4 (by rfl) (Or.inl rfl))
   (@zA4 _ _ _ _ _ (zD6 PassesOwn.never rfl (zD5 (K:=K) rfl (pv 0)) (zA9 (i:=3) nd rfl (Or.inl rfl)) (@zA6 _ _ _ (zK2 (zC1 zT0 (zB4 (zA7 (K:=K) rfl) (pv 3) zA2 (fun _ _=>rfl)) zF3 (zD3 _)) (@zA6 _ _ _ (zF1 (zE2 hr) (pv 2) (zB4 (zA7 (K:=K) rfl) (pv 3) zA2 (fun _ _=>rfl)) (zF5 (zE2 hr) (pv 1) (zB4 (zA7 (K:=K) rfl) (pv 3) zA2 (fun _ _=>rfl)) (fun _ _=>rfl)) rfl)) zE1)))
   (@zA6 _ _ _ (zC0 (pv 2))))),?_⟩
  have hlen:xs.length = ps.length:=hP.length
  intro p hp
  have tp:=Same.upd (o:=.dK []) hp
  refine ⟨_,rfl,ah,rfl,⟨_,tp.seq hS⟩,?_⟩
  refine zF7 (xs:=xs) (fun i σ H1=>∃ (v3:Option V) (kv':List (Key × V)),σ = [some (.ref ah),some (.ref b),some (.ref p),v3] /\ Same H H1 /\ H1 p = some (.dK kv') /\ kv'.length <= i /\ RowAt H1 kv' (all (ckN (ps.take i)) f)) ⟨none,[],rfl,tp,zA1,Nat.le_refl _,by rw [show ckN (ps.take 0) = [] from rfl,zY6]; exact RowAt.nil _⟩ ?_ ?_ ?_
  ·rintro i σ H1 hi ⟨v3,kv',rfl,s1,h1,hl,row⟩
   exact s1.seq hS
  ·rintro i x σ H1 hx ⟨v3,kv',rfl,s1,h1,hl,row⟩
   obtain ⟨q,hq,pv⟩:=zC4 hP hx
   have hi:i < ps.length:=(List.getElem?_eq_some_iff.mp hq).1
   obtain ⟨c,zs,rfl,hc,e0,e1⟩:=pv.at
   have hc1:=s1 _ _ hc
   have hb1:=s1 _ _ hb
   refine ⟨_,rfl,c,_,_,_,rfl,rfl,SqT.of hc1,e0,rfl,_,rfl,?_⟩
   cases hcc:isC q with
   | true =>
    refine zO2 rfl ?_
    have hm:nmP q ∈ allN ps:=List.mem_map.mpr ⟨q,List.mem_of_getElem? hq,rfl⟩
    obtain ⟨w,vw,fw'⟩:=hg.has (nmP q) (f (nmP q)) (by unfold all; rw [if_pos hm])
    refine ⟨_,rfl,_,rfl,c,_,_,_,rfl,rfl,SqT.of hc1,e1,b,w,rfl,?_,_,rfl,_,rfl,c,_,_,_,rfl,rfl,SqT.of hc1,e1,p,upd H1 p (.dK (putK kv' (.inr (nmP q)) w)),rfl,DPut.k (k:=.inr (nmP q)) h1 (sz (by omega)),?_⟩
    ·have g:=DGet.k (k:=.inr (nmP q)) hb1
     rw [vw] at g; exact g
    have tu:=zC8 (o:=.dK (putK kv' (.inr (nmP q)) w)) h1 (fun _ z=>nomatch z)
    refine ⟨_,putK kv' (.inr (nmP q)) w,rfl,s1.updD hp,zA1,?_,?_⟩
    ·have:=zF6 kv' (.inr (nmP q)) w
     omega
    ·have et:ckN (ps.take (i + 1)) = ckN (ps.take i) ++ [nmP q]:=by
      unfold ckN
      rw [zC2 hq,List.filter_append,List.map_append]
      simp [hcc]
     rw [et,zS1]
     exact (row.put (z:=nmP q) (fw'.same s1)).same fun v r f=>f.tup tu
   | false =>
    refine zM1 (by decide +kernel) ?_
    refine ⟨_,kv',rfl,s1,h1,by omega,?_⟩
    have et:ckN (ps.take (i + 1)) = ckN (ps.take i):=by
     unfold ckN
     rw [zC2 hq,List.filter_append]
     simp [hcc]
    rw [et]; exact row
  ·rintro σ H1 ⟨v3,kv',rfl,s1,h1,hl,row⟩
   rw [hlen,List.take_length] at row
   exact ⟨_,rfl,k p H1 kv' hp s1 h1 row⟩
noncomputable abbrev zI2:Stmt:=top 48
theorem sc__law_table:zB5 ["_law_house_here","_law_steps_here","_law_rows","_law_name","_law_ends","_law_place","_law_share_here"] ["_law_house_here","_law_steps_here"] (zA5 zI2):=⟨rfl,rfl,rfl,by decide +kernel,rfl,by decide +kernel,by decide +kernel⟩
theorem yD2 {ca:Ca} (D:DefAt K mg "_law_table" zI2) (T:Txt K mg ca) (G__law_casks:FnAt P w K mg base CX0 1 "_law_casks" ["_law_house_here","_law_made"] (zU8 K)) (G__law_places:FnAt P w K mg base CX0 1 "_law_places" ["_law_house_here","_law_totals"] (zU7 K)) (G__law_led:FnAt P w K mg base CX0 4 "_law_led" ["_law_totals","_law_steps_here","_law_brings"] (xG6 K)):FnAt P w K mg base CX0 5 "_law_table" ["_law_house_here","_law_steps_here"] (xK9 K):=by
 refine D.ok sc__law_table (fun vs H Q E h=>?_) (fun _ _ _ _ _ _ us hl=>match us,hl with | [_,_],_=>rfl) (fun f cdv A outer s H vs Q E hr h=>?_)
 ·obtain ⟨ah,as,xs,ps,ys,ss,rfl,hA,hP,ok,hT,hY,hOT,h15,k⟩:=h; rfl
 ·obtain ⟨ah,as,xs,ps,ys,ss,rfl,hA,hP,ok,hT,hY,hOT,h15,k⟩:=h
  have nd:=sc__law_table.nd
  refine ⟨_,(@zA4 _ _ _ _ _ (@zB1 _ _ 2 _ _ _ _ nd rfl (Or.inl rfl) zF4 (by rfl) (Or.inl rfl))
   (@zA4 _ _ _ _ _ (xH1 (zD6 PassesOwn.never rfl (zS9 (zB7 G__law_casks hr (by rfl) zB8 (@zA0 _ _ _ _ _ (pv 0) (@zA0 _ _ _ _ _ (zB7 G__law_places hr (by rfl) zB8 (@zA0 _ _ _ _ _ (pv 0) (@zA0 _ _ _ _ _ zF4 zA3 (by rfl)) (by rfl))) zA3 (by rfl)) (by rfl)))) (zA9 (i:=3) nd rfl (Or.inl rfl)) (@zA4 _ _ _ _ _ (@zB1 _ _ 4 _ _ _ _ nd rfl (Or.inl rfl) (zB7 G__law_led hr (by rfl) zB8 (@zA0 _ _ _ _ _ (zB7 G__law_places hr (by rfl) zB8 (@zA0 _ _ _ _ _ (pv 0) (@zA0 _ _ _ _ _ (yM7 (yC2 (pv 3) (@zC3 _ _ _ _ _ (@zA0 _ _ _ _ _ zA2 (@zA0 _ _ _ _ _ zA2 zA3 (by rfl)) (by rfl))) yM4) rfl rfl (List.cons_ne_nil _ _) (Nat.le_of_ble_eq_true rfl)) zA3 (by rfl)) (by rfl))) (@zA0 _ _ _ _ _ (pv 1) (@zA0 _ _ _ _ _ zY9 zA3 (by rfl)) (by rfl)) (by rfl))) (by rfl) (Or.inl rfl))
   (@zA4 _ _ _ _ _ (zF1 (zE2 hr) (pv 2) (pv 3) zF4 rfl)
   (@zA6 _ _ _ (zO8 (zD6 PassesOwn.never rfl (zN9 (zM0 (K:=K) rfl PySem.F.plainAttrs_dict PySem.F.slot_dict_items PySem.F.type_dict_items zO0 (pv 4))) (zP9 rfl (zC7 (zA9 (i:=5) nd rfl (Or.inl rfl)) (zC7 (zA9 (i:=6) nd rfl (Or.inl rfl)) zK4))) (@zA6 _ _ _ (zK2 (zC1 xH6 (zB4 (zA7 (K:=K) rfl) (pv 6) zA2 (fun _ _=>rfl)) zA2 (zD3 _)) (@zA6 _ _ _ (zF1 (zE2 hr) (zF5 (zE2 hr) (pv 2) (pv 3) (fun _ _=>rfl)) (pv 5) (pv 6) rfl)) zE1)))))))))
   (@zA6 _ _ _ (zC0 (pv 2))))),?_⟩
  have hO:∀ s ∈ ss,OkS (allN ps) s:=fun s hs=>(hOT s hs).1
  have h40:ss.length <= 40:=by omega
  intro p hp
  have tp:=Same.upd (o:=.dK []) hp
  have l8:(allN ps).length <= 8:=by unfold allN; rw [List.length_map]; exact ok.len
  refine ⟨_,rfl,_,rfl,fun p1 hp1=>?_⟩
  have t1:=tp.trans (Same.upd (o:=.dK []) hp1)
  refine ⟨ah,p1,xs,ps,[],fun _=>none,rfl,SqL.of (t1 _ _ hA),zB9 hP t1,ok.len,zA1,RowAt.nil _,fun p2 H2 kv2 hp2 s2 h2 r2=>?_⟩
  have u2:=t1.trans s2
  refine ⟨ah,p2,xs,ps,kv2,_,rfl,SqL.of (u2 _ _ hA),zB9 hP u2,ok.len,h2,r2,fun p3 H3 kv3 hp3 s3 h3 r3=>?_⟩
  have u3:=u2.trans s3
  have up3:Same (upd H p (.dK [])) H3:=(Same.upd (o:=.dK []) hp1).trans (s2.trans s3)
  have hpp3:=up3 _ _ (zA1 (H:=H) (a:=p) (o:=.dK []))
  have n3:(upd H p (.dK [])) p3 = none:=((Same.upd (o:=.dK []) hp1).trans s2).free hp3
  have npp3:p ≠ p3:=fun e=>by rw [<- e,zA1] at n3; cases n3
  have hp30:H p3 = none:=tp.free n3
  refine ⟨p3,_,rfl,h3,rfl,fun o qs hqs=>?_⟩
  have hqs:qs = kv3.map fun kv=>(kV kv.1,kv.2):=hqs
  subst hqs
  have C3:∀ z,z ∈ nms kv3 ↔ z ∈ ckN ps:=fun z=>(r3.iff z).trans all_some
  have hA3:=u3 _ _ hA
  have hT3:=u3 _ _ hT
  refine yT3 (fun i σ H4=>∃ (v3 v4 v5 v6:Option V) (rows:List (Key × V)) (ad:Str->Addr),σ = [some (.ref ah),some (.ref as),some (.ref p),v3,v4,v5,v6] /\ H4 p3 = some (.frz o (.dK kv3)) /\ (∀ c ob,H3 c = some ob->c ≠ p->c ≠ p3->H4 c = some ob) /\ H4 p = some (.dK rows) /\ TabAt H H4 p rows (nms (kv3.take i)) (back ss) ad) ?_ ?_ ?_ ?_
  ·exact ⟨none,none,none,none,[],fun _=>0,rfl,zA1,fun c ob e n1 n2=>by rw [upd_ne n2]; exact e,by rw [upd_ne npp3]; exact hpp3,TabAt.nil _ _ _ _ _⟩
  ·rintro i σ H4 ⟨_,_,_,_,_,_,_,h,_⟩
   exact h
  ·rintro i k' w' σ H4 hk ⟨v3,v4,v5,v6,rows,ad,rfl,hfz,keep,h4,T⟩
   obtain ⟨kvi,hki,ek⟩:∃ kvi,kv3[i]? = some kvi /\ (kV kvi.1,kvi.2) = (k',w'):=by
    rw [List.getElem?_map] at hk
    cases q:kv3[i]? with
    | none=>rw [q] at hk; cases hk
    | some kvi=>rw [q] at hk; exact ⟨kvi,rfl,Option.some.inj hk⟩
   obtain ⟨n,r0,hz,_,_,hnn,en⟩:=r3.at hki
   obtain ⟨rfl,rfl⟩:=Prod.mk.inj ek
   obtain ⟨k0,w0⟩:=kvi
   have hz:k0 = .inr n:=hz
   subst hz
   have hil:i < kv3.length:=(List.getElem?_eq_some_iff.mp hki).1
   have l3:kv3.length <= 8:=Nat.le_trans (r3.len' (L:=ckN ps) fun z hz=>all_some.mp hz) (Nat.le_trans yA6 ok.len)
   have hnC:n ∈ ckN ps:=(C3 n).mp (List.mem_map.mpr ⟨_,List.mem_of_getElem? hki,rfl⟩)
   have keepL:∀ c l,H3 c = some (.lst l)->H4 c = some (.lst l):=fun c l e=>keep c _ e (zG3 e hpp3 (by intro z; cases z)) (zG3 e h3 (by intro z; cases z))
   have keepT:∀ c l,H3 c = some (.tup l)->H4 c = some (.tup l):=fun c l e=>keep c _ e (zG3 e hpp3 (by intro z; cases z)) (zG3 e h3 (by intro z; cases z))
   have hA4:=keepL _ _ hA3
   have hT4:=keepL _ _ hT3
   have hP4:=Paired.mapP (zB9 hP u3) fun _ _ f=>PlV.tup keepT f
   have hY4:=Paired.mapP (zD0 hY u3) fun _ _ f=>StV.tup keepT f
   have lrows:rows.length <= 8:=by
    rw [T.len ((zE8 r3.nodup r3.keys).sublist ((List.take_sublist _ _).map _)),zD2,List.length_take]; omega
   refine ⟨_,rfl,fun q hq=>⟨_,rfl,sz (by simp),fun f hf=>?_⟩⟩
   have nqf:q ≠ f:=fun e=>by rw [<- e,zA1] at hf; cases hf
   refine ⟨by rw [upd_ne nqf,zA1],[(.inr n,.ref f)],rfl,by simp,?_⟩
   have t5:=((Same.upd (o:=.dK []) hq).trans (Same.upd (o:=.tup [.int 1,.int 1]) hf)).updD (o:=.dK (zJ6 [] [(.inr n,.ref f)])) hq
   have ff:FrV (upd (upd (upd H4 q (.dK [])) f (.tup [.int 1,.int 1])) q (.dK (zJ6 [] [(.inr n,.ref f)]))) (.ref f) 1:=⟨f,rfl,by rw [upd_ne nqf.symm,zA1]; rfl⟩
   have hq5:=zA1 (H:=upd (upd H4 q (.dK [])) f (.tup [.int 1,.int 1])) (a:=q) (o:=.dK (zJ6 [] [(.inr n,.ref f)]))
   have r5:=RowAt.unit n ff
   generalize upd (upd (upd H4 q (.dK [])) f (.tup [.int 1,.int 1])) q (.dK (zJ6 [] [(.inr n,.ref f)])) = H5 at *
   refine ⟨ah,q,xs,ps,_,op (dlt n),rfl,SqL.of (t5 _ _ hA4),zB9 hP4 t5,ok.len,hq5,r5,fun p6 H6 kv6 hp6 s6 h6 r6=>?_⟩
   have e6:(fun z=>(op (dlt n) z).getD 0) = dlt n:=by funext z; exact zO9 _ z
   rw [e6] at r6
   have s46:=t5.trans s6
   refine ⟨_,rfl,p6,as,kv6,ys,ss,allN ps,false,dlt n,rfl,h6,ok.nd,l8,r6,SqL.of (s46 _ _ hT4),zD0 hY4 s46,hOT,h15,fun j hj z _=>?_,fun p7 H7 kv7 hp7 s7 h7 r7=>?_⟩
   ·rw [zX8 hO n j hj]
    have hOj:∀ s ∈ ss.take j,OkS (allN ps) s:=fun s hs=>hO s (List.mem_of_mem_take hs)
    exact (((zE3 ok.nd hOj).part n (zJ7 hnC) z).bd (zG4 _) (Nat.le_refl _) (zW6 hOj (by rw [List.length_take]; omega) (k:=1) (by decide))).mono (by decide)
   have ebk:=zX8 hO n ss.length (Nat.le_refl _)
   rw [List.take_length] at ebk
   rw [ebk] at r7
   have s47:=s46.trans s7
   have l7:=r7.len' (L:=allN ps) fun z hz=>all_some.mp hz
   intro p8 hp8
   have t8:=Same.upd (o:=.dK []) hp8
   have s48:=s47.trans t8
   have h48:=s48 _ _ h4
   have n48:H4 p8 = none:=s47.free hp8
   have np8:p ≠ p8:=zA8 h4 n48
   refine ⟨_,rfl,_,rfl,p,upd (upd H7 p8 (.dK [])) p (.dK (putK rows (.inr n) (.ref p8))),rfl,DPut.k (k:=.inr n) h48 (sz (by omega)),?_⟩
   have tu9:=zC8 (o:=.dK (putK rows (.inr n) (.ref p8))) h48 (fun _ z=>nomatch z)
   have n78:p7 ≠ p8:=fun e=>by rw [<- e,h7] at hp8; cases hp8
   have n7p:p7 ≠ p:=fun e=>by
    have z:=s46 _ _ h4
    rw [<- e,hp7] at z; cases z
   have h79:upd (upd H7 p8 (.dK [])) p (.dK (putK rows (.inr n) (.ref p8))) p7 = some (.dK kv7):=by rw [upd_ne n7p]; exact t8 _ _ h7
   have h89:upd (upd H7 p8 (.dK [])) p (.dK (putK rows (.inr n) (.ref p8))) p8 = some (.dK []):=by rw [upd_ne np8.symm,zA1]
   have h9:=zA1 (H:=upd H7 p8 (.dK [])) (a:=p) (o:=.dK (putK rows (.inr n) (.ref p8)))
   have k9:∀ c ob,H4 c = some ob->c ≠ p->upd (upd H7 p8 (.dK [])) p (.dK (putK rows (.inr n) (.ref p8))) c = some ob:=fun c ob e n1=>by rw [upd_ne n1]; exact s48 _ _ e
   have r9:RowAt (upd (upd H7 p8 (.dK [])) p (.dK (putK rows (.inr n) (.ref p8)))) kv7 (all (allN ps) (back ss n)):=r7.same fun v r g=>(g.same t8).tup tu9
   have T9:∀ v r,FrV H4 v r->FrV (upd (upd H7 p8 (.dK [])) p (.dK (putK rows (.inr n) (.ref p8)))) v r:=fun v r g=>(g.same s48).tup tu9
   have vput:valV (putK rows (.inr n) (.ref p8)) (.inr n) = some (.ref p8):=by rw [zU6,if_pos rfl]
   generalize upd (upd H7 p8 (.dK [])) p (.dK (putK rows (.inr n) (.ref p8))) = H9 at *
   refine ⟨p7,_,h79,rfl,?_⟩
   refine ⟨_,rfl,.inr (.inr (.inl ⟨rfl,.inl ⟨_,h79⟩⟩)),p7,_,rfl,rfl,h79,rfl,fun pv hpv=>?_⟩
   have t10:=Same.upd (o:=zQ6 pv p7) hpv
   refine ⟨pv,p7,_,rfl,zA1,t10 _ _ h79,rfl,fun o2 ps2 hps2=>?_⟩
   have hps2:ps2 = kv7.map fun kv=>(kV kv.1,kv.2):=hps2
   subst hps2
   refine zN5 (fun j σ H11=>∃ (v5 v6:Option V) (kv':List (Key × V)),σ = [some (.ref ah),some (.ref as),some (.ref p),some (.str n),some (.ref p7),v5,v6] /\ H11 p7 = some (.frz o2 (.dK kv7)) /\ (∀ c ob,H9 c = some ob->c ≠ p7->c ≠ p8->H11 c = some ob) /\ H11 p8 = some (.dK kv') /\ kv'.length <= j /\ RowAt H11 kv' (filt (all (allN ps) (back ss n)) (nms (kv7.take j)))) ?_ ?_ ?_ ?_
   ·refine ⟨_,_,[],rfl,zA1,fun c ob e n1 n2=>by rw [upd_ne n1]; exact t10 _ _ e,by rw [upd_ne n78.symm]; exact t10 _ _ h89,Nat.le_refl _,?_⟩
    have ef:filt (all (allN ps) (back ss n)) (nms (kv7.take 0)) = fun _=>none:=by funext z; simp [filt,nms]
    rw [ef]; exact RowAt.nil _
   ·rintro j σ H11 ⟨_,_,_,_,h,_⟩
    exact h
   ·rintro j k2 w2 T2 σ H11 hk2 ⟨v5,v6,kv',rfl,hf7,kp,h8',hl,row⟩ hT2
    obtain ⟨kvj,hkj,ekj⟩:∃ kvj,kv7[j]? = some kvj /\ (kV kvj.1,kvj.2) = (k2,w2):=by
     rw [List.getElem?_map] at hk2
     cases q:kv7[j]? with
     | none=>rw [q] at hk2; cases hk2
     | some kvj=>rw [q] at hk2; exact ⟨kvj,rfl,Option.some.inj hk2⟩
    have hj:j < kv7.length:=(List.getElem?_eq_some_iff.mp hkj).1
    obtain ⟨z,r,hz2,hgz,fr,hzn,en2⟩:=r9.at hkj
    obtain ⟨rfl,rfl⟩:=Prod.mk.inj ekj
    obtain ⟨k1,w1⟩:=kvj
    have hz2:k1 = .inr z:=hz2
    subst hz2
    have er:r = back ss n z:=by
     unfold all at hgz
     split at hgz
     ·exact (Option.some.inj hgz).symm
     ·cases hgz
    have G:=zE3 ok.nd hO
    have r0':0 <= r:=by rw [er]; exact (G.part n (zJ7 hnC) z).1
    have t12:=Same.upd (o:=.tup [kV (.inr z),w1]) hT2
    have fr12:FrV (upd H11 T2 (.tup [kV (.inr z),w1])) w1 r:=by
     obtain ⟨c,e,hc⟩:=fr
     exact ⟨c,e,t12 _ _ (kp c _ hc (zG3 hc h79 (by intro z; cases z)) (zG3 hc h89 (by intro z; cases z)))⟩
    obtain ⟨c,hc,hcc⟩:=id fr12
    have h8t:=t12 _ _ h8'
    refine ⟨T2,_,rfl,SqT.of zA1,rfl,_,_,rfl,_,_,rfl,rfl,?_⟩
    refine ⟨_,rfl,c,_,_,_,hc,rfl,SqT.of hcc,rfl,_,_,rfl,rfl,_,rfl,?_⟩
    refine ite2 (fun hpos=>?_) (fun hpos=>?_)
    ·have hpos:(0:Int) < r.num:=of_decide_eq_true hpos
     have rne:r ≠ 0:=fun e=>by rw [e] at hpos; exact absurd hpos (by decide)
     have h9t:=t12 _ _ (kp _ _ h9 n7p.symm np8)
     refine ⟨_,rfl,_,rfl,_,rfl,p,.ref p8,rfl,?_,_,rfl,p8,upd (upd H11 T2 (.tup [kV (.inr z),w1])) p8 (.dK (putK kv' (.inr z) w1)),rfl,DPut.k (k:=.inr z) h8t (sz (by omega)),?_⟩
     ·have g:=DGet.k (k:=.inr n) h9t
      rw [vput] at g; exact g
     have tu:=zC8 (o:=.dK (putK kv' (.inr z) w1)) h8t (fun _ z=>nomatch z)
     refine ⟨_,_,putK kv' (.inr z) w1,rfl,by rw [upd_ne n78]; exact t12 _ _ hf7,fun c' ob q n1 n2=>by rw [upd_ne n2]; exact t12 _ _ (kp c' ob q n1 n2),zA1,?_,?_⟩
     ·have:=zF6 kv' (.inr z) w1
      omega
     ·have row':=((row.same fun v r f=>f.same t12).put (z:=z) fr12).same fun v r f=>f.tup tu
      have ef:filt (all (allN ps) (back ss n)) (nms (kv7.take (j + 1))) = fun y'=>if y' = z then some r else filt (all (allN ps) (back ss n)) (nms (kv7.take j)) y':=by
       funext y'
       unfold filt
       rw [en2]
       by_cases ey:y' = z
       ·subst ey; simp [hgz,rne]
       ·simp [ey]
      rw [ef]
      exact row'
    ·have hpos:¬ (0:Int) < r.num:=fun z=>hpos (decide_eq_true z)
     have rz:r = 0:=by
      have:=Rat.num_nonneg.mpr r0'
      exact Rat.num_eq_zero.mp (by omega)
     refine ⟨_,_,kv',rfl,t12 _ _ hf7,fun c' ob q n1 n2=>t12 _ _ (kp c' ob q n1 n2),h8t,by omega,?_⟩
     have ef:filt (all (allN ps) (back ss n)) (nms (kv7.take (j + 1))) = filt (all (allN ps) (back ss n)) (nms (kv7.take j)):=by
      funext y'
      unfold filt
      rw [en2]
      by_cases ey:y' = z
      ·subst ey; simp [hgz,rz,hzn]
      ·simp [ey]
     rw [ef]
     exact row.same fun v r f=>f.same t12
   ·rintro σ H11 ⟨v5,v6,kv',rfl,hf7,kp,h8',hl,row⟩
    rw [List.length_map] at hl row
    rw [List.take_length] at row
    have G:=zE3 ok.nd hO
    have ef:filt (all (allN ps) (back ss n)) (nms kv7) = op (back ss n):=by
     funext z
     unfold filt op
     by_cases hz:z ∈ allN ps
     ·have hm:z ∈ nms kv7:=(r7.iff z).mpr (all_some.mpr hz)
      have e:all (allN ps) (back ss n) z = some (back ss n z):=by unfold all; rw [if_pos hz]
      rw [if_pos hm,e]
     ·have e:all (allN ps) (back ss n) z = none:=by unfold all; rw [if_neg hz]
      have e0:back ss n z = 0:=by
       by_cases q:back ss n z = 0
       ·exact q
       ·exact absurd (G.sup n (zJ7 hnC) z q) hz
      rw [e,e0,if_pos rfl]
      simp
    rw [ef] at row
    have n7:H4 p7 = none:=s46.free hp7
    refine ⟨o2,_,hf7,?_⟩
    have kk:∀ c ob,H9 c = some ob->c ≠ p8->upd H11 p7 (.dK kv7) c = some ob:=fun c ob e n2=>by
     by_cases z:c = p7
     ·subst z; rw [zA1]; rw [h79] at e; exact e
     ·rw [upd_ne z]; exact kp c ob e z n2
    have kF:∀ v r,FrV H11 v r->FrV (upd H11 p7 (.dK kv7)) v r:=fun v r f=>f.tup (zC8 hf7 (fun _ z=>nomatch z))
    refine ⟨_,_,_,_,putK rows (.inr n) (.ref p8),fun z=>if z = n then p8 else ad z,rfl,?_,fun c ob e n1 n2=>?_,?_,?_⟩
    ·have e3:p3 ≠ p8:=zA8 hfz n48
     exact kk _ _ (k9 _ _ hfz npp3.symm) e3
    ·have e4:=keep c ob e n1 n2
     exact kk _ _ (k9 _ _ e4 n1) (zA8 e4 n48)
    ·exact kk _ _ h9 np8
    ·have hp80:H p8 = none:=by
      cases e:H p8 with
      | none=>rfl
      | some ob =>
       have e3:=u3 _ _ e
       have n1:p8 ≠ p:=fun z=>np8 z.symm
       have n2:p8 ≠ p3:=fun z=>by rw [z,hp30] at e; cases e
       rw [keep _ _ e3 n1 n2] at n48; cases n48
     refine T.put hp80 n48 np8.symm (fun c o e n1=>kk _ _ (k9 _ _ e n1) (zA8 e n48)) (fun v r g=>?_) (by rw [upd_ne n78.symm]; exact h8') (row.same kF) (fun _ _ _=>rfl) (fun z=>?_)
     ·obtain ⟨c,e,hc⟩:=T9 v r g
      exact ⟨c,e,kk _ _ hc (zG3 hc h89 (by intro z; cases z))⟩
     ·rw [en]; simp
  ·rintro σ H4 ⟨v3,v4,v5,v6,rows,ad,rfl,hfz,keep,h4,T⟩
   rw [List.length_map,List.take_length] at T
   have kk:∀ c ob,H3 c = some ob->c ≠ p->upd H4 p3 (.dK kv3) c = some ob:=fun c ob e n1=>by
    by_cases z:c = p3
    ·subst z; rw [zA1]; rw [h3] at e; exact e
    ·rw [upd_ne z]; exact keep c ob e n1 z
   refine ⟨p3,o,_,(fun ob v e=>by rw [n3] at e; cases e),hfz,_,rfl,k p _ rows ad hp (fun c ob e=>kk _ _ (u3 _ _ e) (zA8 e hp)) (by rw [upd_ne npp3]; exact h4) ?_⟩
   have T':=T.mem (L':=ckN ps) fun z=>(C3 z).symm
   refine ⟨T'.nodup,T'.keys,fun n hn=>?_,T'.inj,T'.apart⟩
   obtain ⟨a1,a2,kv,a3,a4⟩:=T'.row n hn
   refine ⟨a1,a2,kv,by rw [upd_ne (zG3 a3 hfz (by intro z; cases z))]; exact a3,a4.same fun v r f=>f.tup (zC8 hfz (fun _ z=>nomatch z))⟩
noncomputable abbrev zH1:Stmt:=top 49
theorem sc__law_closed:zB5 ["_law_house_here","_law_rows","_law_left_here","_law_k","_law_name"] ["_law_house_here","_law_rows"] (zA5 zH1):=⟨rfl,rfl,rfl,by decide +kernel,rfl,by decide +kernel,by decide +kernel⟩
theorem zZ4 {ca:Ca} (D:DefAt K mg "_law_closed" zH1) (T:Txt K mg ca):FnAt P w K mg base CX0 1 "_law_closed" ["_law_house_here","_law_rows"] (xT0):=by
 refine D.ok sc__law_closed (fun vs H Q E h=>?_) (fun _ _ _ _ _ _ us hl=>match us,hl with | [_,_],_=>rfl) (fun f cdv A outer s H vs Q E hr h=>?_)
 ·obtain ⟨ah,pr,H0,rows,ad,C,L,R,Dn,rfl,hrw,TB,hC,nC,c5,nL,h8,hCL,G,layL,k⟩:=h; rfl
 ·obtain ⟨ah,pr,H0,rows,ad,C,L,R,Dn,rfl,hrw,TB,hC,nC,c5,nL,h8,hCL,G,layL,k⟩:=h
  have nd:=sc__law_closed.nd
  refine ⟨_,(@zA4 _ _ _ _ _ (@zB1 _ _ 2 _ _ _ _ nd rfl (Or.inr rfl) (zJ3 zT8 (by rfl) T.z_dict yF5 (@zA0 _ _ _ _ _ (pv 1) zA3 (by rfl))) (by rfl) (Or.inl rfl))
   (@zA4 _ _ _ _ _ (zD6 PassesOwn.never rfl (zH3 (by rfl) T.z_range (@zA0 _ _ _ _ _ (zC9 yK5 (by rfl) T.z_len PySem.boot_len (@zA0 _ _ _ _ _ (pv 1) zA3 (by rfl))) zA3 (by rfl))) (zA9 (i:=3) nd rfl (Or.inl rfl)) (@zA6 _ _ _ (zD6 PassesOwn.never rfl (zD5 (K:=K) rfl (zJ3 (zQ3 rfl) (by rfl) T.z_list zT9 (@zA0 _ _ _ _ _ (pv 2) zA3 (by rfl)))) (zA9 (i:=4) nd rfl (Or.inl rfl)) (@zA6 _ _ _ (zK2 (zC1 (zQ5 (K:=K) rfl hr) (yC3 (zL9 ["_law_place"] ["_law_left_here"] [2] rfl (by rfl) (zS9 (zF5 (zE2 hr) (pv 1) (pv 4) (fun _ _=>rfl))) (fun _ _ _ _=>(zA9 (i:=0) (show List.Nodup (["_law_place","_law_left_here"]:List Str) from by decide) rfl (Or.inl rfl))) (fun _ _ _ _=>(zS8 (xA2 (yI5 (zE2 hr) (pv 0) (pv 1))))) (fun _ _ _ _=>(pv 0)))) (@zK8 _ _ _ _ zA3) (zD3 _)) (@zA6 _ _ _ (zK3 (xH4 (pv 2) (pv 4) ⟨by rfl,by rfl,by rfl,by rfl⟩))) zE1)))))
   (@zA6 _ _ _ (zC0 (zC9 (yK3 rfl) (by rfl) T.z_sorted yK6 (@zA0 _ _ _ _ _ (pv 2) zA3 (by rfl))))))),?_⟩
  have hkeys:∀ kv ∈ rows,∃ z,kv.1 = .inr z:=fun kv h=>(let ⟨z,e,_⟩:=TB.keys kv h; ⟨z,e⟩)
  have lR:rows.length = C.length:=by rw [<- zD2,hC]
  have h0R:∀ x ∈ C,∀ z,0 <= R x z:=fun x hx z=>(G.part x (hCL x hx) z).1
  have h1R:∀ x ∈ C,sumL L (R x) = 1:=fun x hx=>G.all x (hCL x hx)
  refine ⟨_,rfl,pr,rows,rfl,hrw,fun p hp=>?_⟩
  have tp:=Same.upd (o:=.dK rows) hp
  have hp1:=zA1 (H:=H) (a:=p) (o:=.dK rows)
  have npr:p ≠ pr:=fun e=>by rw [e,hrw] at hp; cases hp
  generalize upd H p (.dK rows) = H1 at *
  have hr1:=tp _ _ hrw
  refine ⟨_,rfl,pr,_,rfl,hr1,?_⟩
  refine ⟨_,rfl,by omega,by omega,?_⟩
  have lf0:LfT C R C:=⟨nC,fun _ h=>h,fun x hx hn=>absurd hx hn⟩
  have adp:∀ z ∈ C,ad z ≠ p:=fun z hz e=>by
   obtain ⟨_,_,kv,c,_⟩:=TB.row z hz
   rw [e,hp] at c; cases c
  refine zH4 (fun q σ H2=>∃ (v3 v4:Option V) (kv:List (Key × V)) (T':List Str),σ = [some (.ref ah),some (.ref pr),some (.ref p),v3,v4] /\ Same H H2 /\ H2 p = some (.dK kv) /\ (∀ q ∈ kv,∃ z,q.1 = .inr z) /\ nms kv = T' /\ LfT C R T' /\ (yL9 C R T' \/ T'.length + q <= C.length)) ⟨none,none,rows,C,rfl,tp,hp1,hkeys,hC,lf0,.inr (by omega)⟩ ?_ ?_
  ·rintro q σ H2 hq ⟨v3,v4,kv,T0,rfl,s2,h2,hk2,hn2,lf,hfull⟩
   refine ⟨_,rfl,p,_,rfl,h2,rfl,fun qs hqs pl hpl=>⟨pl,rfl,?_⟩⟩
   have hqs:qs = kv.map fun kv=>(kV kv.1,kv.2):=hqs
   have ec:qs.map (·.1) = T0.map V.str:=by
    rw [hqs,List.map_map,<- hn2]
    exact yE6 hk2
   rw [ec]
   have tl:=Same.upd (o:=.lst (T0.map V.str)) hpl
   have hl3:=zA1 (H:=H2) (a:=pl) (o:=.lst (T0.map V.str))
   have s3:=s2.trans tl
   have h3:=tl _ _ h2
   have npl:pl ≠ p:=fun e=>by rw [e,h2] at hpl; cases hpl
   generalize upd H2 pl (.lst (T0.map V.str)) = H3 at *
   refine ⟨⟨_,SqL.of hl3⟩,?_⟩
   refine zF7 (xs:=T0.map V.str) (fun i σ H4=>∃ (v4:Option V) (kv:List (Key × V)) (T':List Str),σ = [some (.ref ah),some (.ref pr),some (.ref p),some (.int (0 + (q:Int))),v4] /\ Same H H4 /\ H4 pl = some (.lst (T0.map V.str)) /\ H4 p = some (.dK kv) /\ (∀ q ∈ kv,∃ z,q.1 = .inr z) /\ nms kv = T' /\ LfT C R T' /\ Swq C L R T0 i T') ⟨_,kv,T0,rfl,s3,hl3,h3,hk2,hn2,lf,Swq.start C L R T0⟩ ?_ ?_ ?_
   ·rintro i σ H4 hi ⟨v4,kv,T',rfl,s4,hl4,h4,hk4,hn4,lf4,sw⟩
    exact SqL.of hl4
   ·rintro i x σ H4 hx ⟨v4,kv,T',rfl,s4,hl4,h4,hk4,hn4,lf4,sw⟩
    obtain ⟨nm,rfl,hi⟩:=zO7 hx
    have hnT:nm ∈ T0:=List.mem_of_getElem? hi
    have hnC:nm ∈ C:=lf.sub nm hnT
    obtain ⟨vr,_,kvs,hrow0,rr0⟩:=TB.row nm hnC
    have hrow:=s4 _ _ hrow0
    have rr:=rr0.same fun v r g=>g.same s4
    have hr4:=s4 _ _ hrw
    have nsub:∀ y ∈ nms kvs,y ∈ L:=fun y hy=>G.sup nm (hCL nm hnC) y (op_some.mp ((rr.iff y).mp hy))
    have lk:(nms kvs).length <= 8:=Nat.le_trans (zD8 (zE8 rr.nodup rr.keys) nsub) h8
    refine ⟨ad nm,_,hrow,rfl,?_⟩
    refine ⟨_,rfl,_,rfl,pr,.ref (ad nm),rfl,?_,ad nm,_,rfl,hrow,rfl,fun o2 qs2 hqs2=>fun Dq hDq=>?_⟩
    ·have g:=DGet.k (k:=.inr nm) hr4
     rw [vr] at g; exact g
    have hqs2:qs2 = kvs.map fun kv=>(kV kv.1,kv.2):=hqs2
    subst hqs2
    have nDa:Dq ≠ ad nm:=fun e=>by rw [e,zA1] at hDq; cases hDq
    have hD0:H4 Dq = none:=by rw [upd_ne nDa] at hDq; exact hDq
    have nap:=adp nm hnC
    refine zP7 (fun j σ' H'=>∃ (v:Option V),σ' = [v,some (.ref p)] /\ H' (ad nm) = some (.frz o2 (.dK kvs)) /\ (∀ c ob,H4 c = some ob->c ≠ ad nm->H' c = some ob) /\ H' Dq = some (.lst (((nms (kvs.take j)).filter fun y=>!decide (y ∈ T')).map V.str))) ⟨none,rfl,by rw [upd_ne nDa.symm,zA1],fun c ob e n=>by rw [upd_ne (zA8 e hD0),upd_ne n]; exact e,zA1⟩ ?_ ?_ ?_
    ·rintro j σ' H' ⟨_,_,h,_⟩
     exact h
    ·rintro j k' w' σ' H' hk ⟨v,rfl,hfa,keep,hd⟩
     obtain ⟨kvi,hki,ek⟩:∃ kvi,kvs[j]? = some kvi /\ (kV kvi.1,kvi.2) = (k',w'):=by
      rw [List.getElem?_map] at hk
      cases q:kvs[j]? with
      | none=>rw [q] at hk; cases hk
      | some kvi=>rw [q] at hk; exact ⟨kvi,rfl,Option.some.inj hk⟩
     obtain ⟨y,r,hz,hg,fr,_,hnms⟩:=rr.at hki
     obtain ⟨rfl,rfl⟩:=Prod.mk.inj ek
     obtain ⟨k0,w0⟩:=kvi
     have hz:k0 = .inr y:=hz
     subst hz
     have hpH:=keep _ _ h4 nap.symm
     have eb:=yP6 hk4 y
     rw [hn4] at eb
     have lf':((nms (kvs.take j)).filter fun y=>!decide (y ∈ T')).length <= 8:=by
      refine Nat.le_trans (List.length_filter_le _ _) ?_
      rw [zD2,List.length_take]
      rw [zD2] at lk
      omega
     refine ⟨_,rfl,_,rfl,p,_,rfl,DGet.k (k:=.inr y) hpH,_,rfl,?_⟩
     rw [eb]
     refine ite2 (fun h=>?_) (fun h=>?_)
     ·refine ⟨_,rfl,_,hd,sz (by rw [List.length_map]; omega),_,rfl,by rw [upd_ne (zG3 hfa hd (by intro z; cases z))]; exact hfa,fun c ob e n=>by rw [upd_ne (zA8 e hD0)]; exact keep c ob e n,?_⟩
      rw [zA1,hnms,List.filter_append,List.map_append]
      simp only [List.filter_cons,List.filter_nil,if_pos h]
      rfl
     ·refine ⟨_,rfl,hfa,keep,?_⟩
      rw [hd,hnms,List.filter_append]
      simp only [List.filter_cons,List.filter_nil,if_neg h,List.append_nil]
    ·rintro σ' H' ⟨v,rfl,hfa,keep,hd⟩
     rw [List.length_map,List.take_length] at hd
     refine ⟨o2,_,hfa,?_⟩
     have kp7:∀ c ob,H4 c = some ob->upd H' (ad nm) (.dK kvs) c = some ob:=fun c ob e=>by
      by_cases u:c = ad nm
      ·subst u; rw [hrow] at e; rw [zA1]; exact e
      ·rw [upd_ne u]; exact keep c ob e u
     have hd2:upd H' (ad nm) (.dK kvs) Dq = some (.lst (((nms kvs).filter fun y=>!decide (y ∈ T')).map V.str)):=by rw [upd_ne nDa]; exact hd
     generalize upd H' (ad nm) (.dK kvs) = H7 at *
     refine ⟨sz (by simp),fun l0 hl0=>?_⟩
     have t0:=Same.upd (o:=.lst []) hl0
     refine ⟨_,_,zR3 (t0 _ _ hd2) (fun z hz=>layL z (nsub z (List.mem_filter.mp hz).1)),zW3 zA1,zM9 _,_,rfl,?_⟩
     rw [zN6]
     have kp8:∀ c ob,H4 c = some ob->upd H7 l0 (.lst []) c = some ob:=fun c ob e=>t0 _ _ (kp7 c ob e)
     generalize upd H7 l0 (.lst []) = H8 at *
     have hb:(!((nms kvs).filter fun y=>!decide (y ∈ T')).isEmpty) = true ↔ ∃ z ∈ L,R nm z ≠ 0 /\ z ∉ T':=by
      constructor
      ·intro h
       cases e:(nms kvs).filter fun y=>!decide (y ∈ T') with
       | nil=>rw [e] at h; cases h
       | cons y ys =>
        have hy:y ∈ (nms kvs).filter fun y=>!decide (y ∈ T'):=by rw [e]; exact List.mem_cons_self
        obtain ⟨h1,h2⟩:=List.mem_filter.mp hy
        exact ⟨y,nsub y h1,op_some.mp ((rr.iff y).mp h1),by simpa using h2⟩
      ·rintro ⟨z,hz,h1,h2⟩
       have hy:z ∈ (nms kvs).filter fun y=>!decide (y ∈ T'):=List.mem_filter.mpr ⟨(rr.iff z).mpr (op_some.mpr h1),by simpa using h2⟩
       cases e:(nms kvs).filter fun y=>!decide (y ∈ T') with
       | nil=>rw [e] at hy; cases hy
       | cons y ys=>rfl
     have sw2:=sw.step lf.nd hi _ hb
     have s8:Same H H8:=fun c ob e=>kp8 c ob (s4 c ob e)
     refine ite2 (fun h=>?_) (fun h=>?_)
     ·rw [if_pos h] at sw2
      obtain ⟨z,hz,h1,h2⟩:=hb.mp h
      have hnT':nm ∈ T':=by
       have hi':i < T0.length:=(List.getElem?_eq_some_iff.mp hi).1
       refine sw.2.1 nm ?_
       rw [List.drop_eq_getElem_cons hi',(List.getElem?_eq_some_iff.mp hi).2]
       exact List.mem_cons_self
      have lf2:=lf4.drop nC nL hCL h0R h1R hnT' hz h1 h2
      have h8:=kp8 _ _ h4
      obtain ⟨v,hv⟩:∃ v,valV kv (.inr nm) = some v:=Option.isSome_iff_exists.mp (by rw [yP6 hk4,hn4]; exact decide_eq_true hnT')
      refine ⟨_,rfl,p,rfl,.inl ⟨_,.inl h8⟩,_,rfl,kv,.inr nm,v,h8,rfl,hv,?_⟩
      refine ⟨_,yF0 kv (.inr nm),_,rfl,s8.updD hp,by rw [upd_ne npl]; exact kp8 _ _ hl4,zA1,xE2 hk4,rfl,?_,?_⟩
      ·rw [yS2 nm hk4,hn4]; exact lf2
      ·rw [yS2 nm hk4,hn4]; exact sw2
     ·rw [if_neg h] at sw2
      exact ⟨_,kv,T',rfl,s8,kp8 _ _ hl4,kp8 _ _ h4,hk4,hn4,lf4,sw2⟩
   ·rintro σ H4 ⟨v4,kv,T',rfl,s4,hl4,h4,hk4,hn4,lf4,sw⟩
    rw [List.length_map] at sw
    exact ⟨_,_,kv,T',rfl,s4,h4,hk4,hn4,lf4,sw.stop nC nL hCL h0R h1R lf4 hfull⟩
  ·rintro σ H2 ⟨v3,v4,kv,T0,rfl,s2,h2,hk2,hn2,lf,hfull⟩
   have hfull:yL9 C R T0:=by
    rcases hfull with h | h
    ·exact h
    ·have h:T0.length + ((rows.length:Nat):Int).toNat <= C.length:=h
     have:T0.length = 0:=by
      have e:((rows.length:Nat):Int).toNat = C.length:=by rw [<- lR]; simp
      omega
     exact LfT.full (List.length_eq_zero_iff.mp this)
   have lT:T0.length <= 5:=Nat.le_trans (zD8 lf.nd lf.sub) c5
   refine ⟨_,rfl,p,kv,T0,rfl,h2,by rw [<- hn2]; exact yE7 hk2,by omega,fun ss' hpm hst l hl=>?_⟩
   refine k l _ ss' (s2.free hl) (s2.trans (Same.upd hl)) zA1 (hpm.nodup_iff.mpr lf.nd) (fun x=>?_) hst
   rw [hpm.mem_iff]
   constructor
   ·intro h
    exact ⟨lf.sub x h,fun l=>hfull x l h⟩
   ·rintro ⟨h1,h2⟩
    by_cases u:x ∈ T0
    ·exact u
    ·exact absurd (lf.lk x h1 u) h2
noncomputable abbrev zF9:Stmt:=top 50
theorem sc__law_leaking:zB5 ["_law_script","_law_first","_law_house_here","_law_steps_here"] ["_law_script"] (zA5 zF9):=⟨rfl,rfl,rfl,by decide +kernel,rfl,by decide +kernel,by decide +kernel⟩
theorem zX3 {ca:Ca} (D:DefAt K mg "_law_leaking" zF9) (T:Txt K mg ca) (G__law_mixed:FnAt P w K mg base CX0 1 "_law_mixed" ["_law_cell"] (yB6)) (G__law_cell_at:FnAt P w K mg base CX0 1 "_law_cell_at" ["_law_script","_law_k"] (yY7 K)) (G__law_house:FnAt P w K mg base CX0 1 "_law_house" ["_law_cell","_law_casks_here","_law_sinks"] (yY6)) (G__law_steps:FnAt P w K mg base CX0 5 "_law_steps" ["_law_cells","_law_house_here","_law_fine","_law_drained"] (yQ3 K)) (G__law_closed:FnAt P w K mg base CX0 1 "_law_closed" ["_law_house_here","_law_rows"] (xT0)) (G__law_table:FnAt P w K mg base CX0 5 "_law_table" ["_law_house_here","_law_steps_here"] (xK9 K)):FnAt P w K mg base CX0 6 "_law_leaking" ["_law_script"] (yH2 K):=by
 refine D.ok sc__law_leaking (fun vs H Q E h=>?_) (fun _ _ _ _ _ _ us hl=>match us,hl with | [_],_=>rfl) (fun f cdv A outer s H vs Q E hr h=>?_)
 ·obtain ⟨a,ns,rfl,hS,k⟩:=h; rfl
 ·obtain ⟨a,ns,rfl,hS,k⟩:=h
  have nd:=sc__law_leaking.nd
  refine ⟨_,(@zA4 _ _ _ _ _ (@zB1 _ _ 1 _ _ _ _ nd rfl (Or.inl rfl) (zB7 G__law_mixed hr (by rfl) zB8 (@zA0 _ _ _ _ _ (zB7 G__law_cell_at hr (by rfl) zB8 (@zA0 _ _ _ _ _ (pv 0) (@zA0 _ _ _ _ _ zA2 zA3 (by rfl)) (by rfl))) zA3 (by rfl))) (by rfl) (Or.inl rfl))
   (@zA4 _ _ _ _ _ (@zB1 _ _ 2 _ _ _ _ nd rfl (Or.inl rfl) (zB7 G__law_house hr (by rfl) zB8 (@zA0 _ _ _ _ _ (zB7 G__law_cell_at hr (by rfl) zB8 (@zA0 _ _ _ _ _ (pv 0) (@zA0 _ _ _ _ _ zA2 zA3 (by rfl)) (by rfl))) (@zA0 _ _ _ _ _ (@zB6 _ _ _ _ _ _ _ _ zJ1 zA2 (@zB6 _ _ _ _ _ _ _ _ zE0 (pv 1) zA2)) (@zA0 _ _ _ _ _ (@zB6 _ _ _ _ _ _ _ _ zJ1 zA2 (@zB6 _ _ _ _ _ _ _ _ zE0 (@zB6 _ _ _ _ _ _ _ _ zD1 (pv 1) zA2) zA2)) zA3 (by rfl)) (by rfl)) (by rfl))) (by rfl) (Or.inl rfl))
   (@zA4 _ _ _ _ _ (@zB1 _ _ 3 _ _ _ _ nd rfl (Or.inl rfl) (zB7 G__law_steps hr (by rfl) zB8 (@zA0 _ _ _ _ _ (yR9 (yQ8 (K:=K) rfl) (pv 0) (yM5 zA2) (yM5 zA2)) (@zA0 _ _ _ _ _ (pv 2) (@zA0 _ _ _ _ _ (@zB6 _ _ _ _ _ _ _ _ zD1 (@zB6 _ _ _ _ _ _ _ _ zE0 (@zB6 _ _ _ _ _ _ _ _ zD1 (pv 1) zA2) zA2) zA2) (@zA0 _ _ _ _ _ (@zB6 _ _ _ _ _ _ _ _ zJ1 zA2 (@zB6 _ _ _ _ _ _ _ _ zE0 (@zB6 _ _ _ _ _ _ _ _ zD1 (pv 1) zA2) zA2)) zA3 (by rfl)) (by rfl)) (by rfl)) (by rfl))) (by rfl) (Or.inl rfl))
   (@zA4 _ _ _ _ _ (zK2 (zC1 (zQ5 (K:=K) rfl hr) (zB7 G__law_closed hr (by rfl) zB8 (@zA0 _ _ _ _ _ (pv 2) (@zA0 _ _ _ _ _ (zB7 G__law_table hr (by rfl) zB8 (@zA0 _ _ _ _ _ (pv 2) (@zA0 _ _ _ _ _ (pv 3) zA3 (by rfl)) (by rfl))) zA3 (by rfl)) (by rfl))) (@zK8 _ _ _ _ zA3) (zD3 _)) (@zA6 _ _ _ (@zB1 _ _ 3 _ _ _ _ nd rfl (Or.inl rfl) (yR9 (yQ8 (K:=K) rfl) (pv 3) xP2 (yM5 (@zB6 _ _ _ _ _ _ _ _ zJ1 zA2 (@zB6 _ _ _ _ _ _ _ _ zE0 (pv 1) zA2)))) (by rfl) (Or.inl rfl))) zE1)
   (@zA6 _ _ _ (zC0 (@zK8 _ _ _ _ (@zA0 _ _ _ _ _ (pv 2) (@zA0 _ _ _ _ _ (pv 3) zA3 (by rfl)) (by rfl))))))))),?_⟩
  refine ⟨_,rfl,a,ns,0,rfl,hS,by decide,fun c0=>⟨c0,rfl,fun m m0 m1=>?_⟩⟩
  have q5:=zE5 (c:=m) (m:=5) (by decide)
  have q2:=zE5 (c:=m.fdiv 5) (m:=2) (by decide)
  have qf:=zE5 (c:=m.fdiv 15) (m:=3) (by decide)
  have qd:=zE5 (c:=m.fdiv 45) (m:=2) (by decide)
  obtain ⟨n0,en⟩:=Int.eq_ofNat_of_zero_le (show 0 <= 1 + m.fmod 5 by omega)
  obtain ⟨k0,ek⟩:=Int.eq_ofNat_of_zero_le (show 0 <= 1 + (m.fdiv 5).fmod 2 by omega)
  refine ⟨_,rfl,a,ns,1,rfl,hS,by decide,fun c1=>⟨_,rfl,_,_,rfl,rfl,(show (5:Int) ≠ 0 by decide),_,_,rfl,rfl,_,rfl,_,_,rfl,rfl,ddv (by decide) (by decide),_,_,rfl,rfl,(show (2:Int) ≠ 0 by decide),_,_,rfl,rfl,c1,n0,k0,?_,by omega,by omega,by omega,fun ah H1 xs ps hah s1 h1 hP ok hck hcn hsk=>?_⟩⟩
  ·show [V.int c1,V.int (1 + m.fmod 5),V.int (1 + (m.fdiv 5).fmod 2)] ++ [] = _
   rw [en,ek]; rfl
  have hsk:=hsk (by omega)
  obtain ⟨ms,ems,hms⟩:=wB0 ns
  refine ⟨_,rfl,2,rfl,12,rfl,a,_,rfl,s1.seq hS,fun q2' u2=>?_⟩
  have t2:=Same.upd (o:=.lst (cutV (ns.map V.int) (some 2) (some 12))) u2
  have hf:(((m.fdiv 15).fmod 3).fdiv 2 = 0 \/ ((m.fdiv 15).fmod 3).fdiv 2 = 1):=by
   have:(m.fdiv 15).fmod 3 = 0 \/ (m.fdiv 15).fmod 3 = 1 \/ (m.fdiv 15).fmod 3 = 2:=by omega
   rcases this with e | e | e
   ·left; rw [e]; decide
   ·left; rw [e]; decide
   ·right; rw [e]; decide
  refine ⟨_,rfl,_,rfl,_,_,rfl,rfl,ddv (by decide) (by decide),_,_,rfl,rfl,(show (3:Int) ≠ 0 by decide),_,_,rfl,rfl,ddv (by decide) (by decide),_,rfl,_,_,rfl,rfl,ddv (by decide) (by decide),_,_,rfl,rfl,(show (2:Int) ≠ 0 by decide),_,_,rfl,rfl,q2',ah,ms,xs,ps,_,_,rfl,(by rw [<- ems]; exact SqL.of zA1),hms,t2 _ _ h1,zB9 hP t2,ok,hck,by omega,hf,fun as H3 ys ss has s3 h3 hY hO h15 hch hdr=>?_⟩
  have s13:=t2.trans s3
  have hA3:=s13 _ _ h1
  have hP3:=zB9 hP s13
  have hOs:∀ s ∈ ss,OkS (allN ps) s:=fun s hs=>(hO s hs).1
  have G:=zE3 ok.nd hOs
  refine ⟨_,rfl,_,rfl,_,rfl,ah,as,xs,ps,ys,ss,rfl,hA3,hP3,ok,h3,hY,hO,h15,fun pr H4 rows ad hpr s4 h4 TB0=>?_⟩
  let C:=nms rows
  have CR:∀ z,z ∈ C ↔ z ∈ ckN ps:=fun z=>by
   constructor
   ·intro h
    obtain ⟨kv,h1,h2⟩:=List.mem_map.mp h
    obtain ⟨y,h3,h4⟩:=TB0.keys kv h1
    rw [h3] at h2
    have h2:y = z:=h2
    rw [<- h2]; exact h4
   ·intro h; exact zT3 (TB0.row z h).1
  have nC:C.Nodup:=zE8 TB0.nodup fun kv h=>(let ⟨z,e,_⟩:=TB0.keys kv h; ⟨z,e⟩)
  have lC:C.length = (ckN ps).length:=by show (nms rows).length = _; rw [zD2]; exact TB0.len ok.ck
  have hCL:∀ x ∈ C,x ∈ allN ps:=fun x hx=>zJ7 ((CR x).mp hx)
  have l8:(allN ps).length <= 8:=by unfold allN; rw [List.length_map]; exact ok.len
  refine ⟨ah,pr,H3,rows,ad,C,allN ps,back ss,zC5 ss,rfl,h4,TB0.mem CR,rfl,nC,by omega,ok.nd,l8,hCL,G,ok.lay,fun pc H5 zs hpc s5 h5 nz mz sz'=>?_⟩
  have s35:=s4.trans s5
  have mz':∀ x,x ∈ zs ↔ x ∈ ckN ps /\ ¬ Leak (ckN ps) (back ss) x:=fun x=>by
   rw [mz,CR]
   exact ⟨fun h=>⟨h.1,fun l=>h.2 (l.same ok.ck nC fun z=>(CR z).symm)⟩,fun h=>⟨h.1,fun l=>h.2 (l.same nC ok.ck CR)⟩⟩
  refine ⟨sz (by simp),fun l0 hl0=>?_⟩
  have t0:=Same.upd (o:=.lst []) hl0
  have layz:∀ z ∈ zs,Lay z:=fun z hz=>ok.lay z (zJ7 ((mz' z).mp hz).1)
  refine ⟨_,_,zR3 (t0 _ _ h5) layz,zW3 zA1,zM9 _,_,rfl,?_⟩
  rw [zN6]
  have s36:=s35.trans t0
  have hP6:=zB9 hP3 s36
  have hY6:=zD0 hY s36
  have hA6:=s36 _ _ hA3
  have hT6:=s36 _ _ h3
  generalize upd H5 l0 (.lst []) = H6 at *
  have s06:=s1.trans (s13.trans s36)
  have hyl:ys.length = ss.length:=hY.length
  refine ite2 (fun hz=>?_) (fun hz=>?_)
  ·have hz:(!zs.isEmpty) = true:=hz
   have hd:1 + (m.fdiv 45).fmod 2 = 2:=by
    by_cases u:1 + (m.fdiv 45).fmod 2 = 1
    ·exfalso
     obtain ⟨rest,dr,e,hD⟩:=hdr hsk u
     have hl:=xR1 ok.ck ok.nd (fun x hx=>zJ7 hx) (fun s hs=>hOs s (by rw [e]; exact List.mem_append_left _ hs)) hD
     cases ez:zs with
     | nil=>rw [ez] at hz; cases hz
     | cons z l =>
      have:=(mz' z).mp (by rw [ez]; exact List.mem_cons_self)
      exact this.2 (by rw [e]; exact hl z this.1)
    ·omega
   obtain ⟨ch,rest,ec,hCh⟩:=hch hsk hd
   have hn0:ch.length = n0:=by rw [hCh.1]; exact hcn
   have et:ss.take n0 = ch:=by rw [ec,<- hn0,List.take_left']; rfl
   refine ⟨_,rfl,_,rfl,_,_,rfl,rfl,(show (5:Int) ≠ 0 by decide),_,_,rfl,rfl,_,rfl,as,ys,rfl,SqL.of hT6,fun pn hpn=>?_⟩
   have ecut:cutV ys none (some (1 + m.fmod 5)) = ys.take n0:=by
    rw [en]
    exact xF1 ys (by rw [hyl,ec,List.length_append]; omega)
   rw [ecut]
   have t7:=Same.upd (o:=.lst (ys.take n0)) hpn
   have hY7:Paired (StV (upd H6 pn (.lst (ys.take n0)))) (ys.take n0) ch:=by
    rw [<- et]
    exact Paired.take (zD0 hY6 t7) n0
   refine ⟨_,rfl,_,rfl,sz (by simp),fun p hp=>?_⟩
   have t8:=Same.upd (o:=.lst [V.ref ah,V.ref pn]) hp
   have hOc:∀ s ∈ ch,OkT (allN ps) s:=fun s hs=>hO s (by rw [ec]; exact List.mem_append_left _ hs)
   have hl:∀ x ∈ ckN ps,Leak (ckN ps) (back ch) x:=fun x hx=>by
    obtain ⟨j,hj,ej⟩:=List.getElem_of_mem hx
    exact xR5 ok.ck ok.nd (fun x hx=>zJ7 hx) (fun s hs=>(hOc s hs).1) hCh j x (by rw [List.getElem?_eq_getElem hj,ej])
   exact k p _ ah pn xs ps (ys.take n0) ch (s06.trans (t7.trans t8)) zA1 ((t7.trans t8) _ _ hA6) (zB9 hP6 (t7.trans t8)) ok hck (by omega) (t8 _ _ zA1) (zD0 hY7 t8) hOc (by omega) hl
  ·have hz:¬ (!zs.isEmpty) = true:=hz
   have ez:zs = []:=by
    cases e:zs with
    | nil=>rfl
    | cons a l=>rw [e] at hz; exact absurd rfl hz
   have hl:∀ x ∈ ckN ps,Leak (ckN ps) (back ss) x:=fun x hx=>by
    by_cases q:Leak (ckN ps) (back ss) x
    ·exact q
    ·have:=(mz' x).mpr ⟨hx,q⟩
     rw [ez] at this; cases this
   refine ⟨_,rfl,_,rfl,sz (by simp),fun p hp=>?_⟩
   have t7:=Same.upd (o:=.lst [V.ref ah,V.ref as]) hp
   exact k p _ ah as xs ps ys ss (s06.trans t7) zA1 (t7 _ _ hA6) (zB9 hP6 t7) ok hck (by omega) (t7 _ _ hT6) (zD0 hY6 t7) hO h15 hl
noncomputable abbrev zL6:Stmt:=top 51
theorem sc__law_sum:zB5 ["_law_some","_law_found","_law_one"] ["_law_some"] (zA5 zL6):=⟨rfl,rfl,rfl,by decide +kernel,rfl,by decide +kernel,by decide +kernel⟩
theorem yN4 {ca:Ca} (D:DefAt K mg "_law_sum" zL6) (T:Txt K mg ca) (G__law_plus:FnAt P w K mg base CX0 3 "_law_plus" ["_law_one","_law_other"] (sp2 4000 (· + ·))):FnAt P w K mg base CX0 4 "_law_sum" ["_law_some"] (yY1 K):=by
 refine D.ok sc__law_sum (fun vs H Q E h=>?_) (fun _ _ _ _ _ _ us hl=>match us,hl with | [_],_=>rfl) (fun f cdv A outer s H vs Q E hr h=>?_)
 ·obtain ⟨a,xs,rs,rfl,hS,hP,hB,hT,k⟩:=h; rfl
 ·obtain ⟨a,xs,rs,rfl,hS,hP,hB,hT,k⟩:=h
  have nd:=sc__law_sum.nd
  refine ⟨_,(@zA4 _ _ _ _ _ (@zB1 _ _ 1 _ _ _ _ nd rfl (Or.inl rfl) (@zC3 _ _ _ _ _ (@zA0 _ _ _ _ _ zA2 (@zA0 _ _ _ _ _ zA2 zA3 (by rfl)) (by rfl))) (by rfl) (Or.inl rfl))
   (@zA4 _ _ _ _ _ (zD6 PassesOwn.never rfl (zD5 (K:=K) rfl (pv 0)) (zA9 (i:=2) nd rfl (Or.inl rfl)) (@zA6 _ _ _ (@zB1 _ _ 1 _ _ _ _ nd rfl (Or.inl rfl) (zB7 G__law_plus hr (by rfl) zB8 (@zA0 _ _ _ _ _ (pv 1) (@zA0 _ _ _ _ _ (pv 2) zA3 (by rfl)) (by rfl))) (by rfl) (Or.inl rfl))))
   (@zA6 _ _ _ (zC0 (pv 1))))),?_⟩
  refine ⟨sz (by simp),fun p0 hp0=>?_⟩
  have hl:xs.length = rs.length:=hP.length
  refine ⟨_,rfl,a,rfl,⟨_,(Same.upd hp0).seq hS⟩,?_⟩
  refine zF7 (xs:=xs) (fun i σ H1=>∃ v2:Option V,∃ w1:V,σ = [some (.ref a),some w1,v2] /\ Same H H1 /\ FrV H1 w1 (sumQ (rs.take i))) ⟨none,.ref p0,rfl,Same.upd hp0,FrV.newOf rfl rfl⟩ ?_ ?_ ?_
  ·rintro i σ H1 hi ⟨v2,w1,rfl,s1,h1⟩
   exact s1.seq hS
  ·rintro i x σ H1 hx ⟨v2,w1,rfl,s1,h1⟩
   obtain ⟨r,hr,fr⟩:=zC4 hP hx
   have hi:i < rs.length:=(List.getElem?_eq_some_iff.mp hr).1
   refine ⟨_,rfl,_,rfl,_,_,_,_,rfl,h1,fr.same s1,(hT i (by omega)).mono (by decide),(hB r (List.mem_of_getElem? hr)).mono (by decide),fun v H2 s2 h2=>?_⟩
   refine ⟨_,_,rfl,s1.trans s2,?_⟩
   rw [yG5 hr]; exact h2
  ·rintro σ H1 ⟨v2,w1,rfl,s1,h1⟩
   rw [hl,List.take_length] at h1
   exact ⟨_,rfl,k _ _ s1 h1⟩
noncomputable abbrev zK1:Stmt:=top 52
theorem sc__law_left:zB5 ["_law_house_here","_law_steps_here","_law_name","_law_many","_law_made","_law_k"] ["_law_house_here","_law_steps_here","_law_name","_law_many"] (zA5 zK1):=⟨rfl,rfl,rfl,by decide +kernel,rfl,by decide +kernel,by decide +kernel⟩
theorem yJ1 {ca:Ca} (D:DefAt K mg "_law_left" zK1) (T:Txt K mg ca) (G__law_places:FnAt P w K mg base CX0 1 "_law_places" ["_law_house_here","_law_totals"] (zU7 K)) (G__law_casks:FnAt P w K mg base CX0 1 "_law_casks" ["_law_house_here","_law_made"] (zU8 K)) (G__law_led:FnAt P w K mg base CX0 4 "_law_led" ["_law_totals","_law_steps_here","_law_brings"] (xG6 K)) (G__law_sum:FnAt P w K mg base CX0 4 "_law_sum" ["_law_some"] (yY1 K)):FnAt P w K mg base CX0 5 "_law_left" ["_law_house_here","_law_steps_here","_law_name","_law_many"] (xL3 K):=by
 refine D.ok sc__law_left (fun vs H Q E h=>?_) (fun _ _ _ _ _ _ us hl=>match us,hl with | [_,_,_,_],_=>rfl) (fun f cdv A outer s H vs Q E hr h=>?_)
 ·obtain ⟨ah,as,xs,ps,ys,ss,x,m,rfl,hh,hx,m5,k⟩:=h; rfl
 ·obtain ⟨ah,as,xs,ps,ys,ss,x,m,rfl,hh,hx,m5,k⟩:=h
  have nd:=sc__law_left.nd
  refine ⟨_,(@zA4 _ _ _ _ _ (@zB1 _ _ 4 _ _ _ _ nd rfl (Or.inl rfl) (zB7 G__law_places hr (by rfl) zB8 (@zA0 _ _ _ _ _ (pv 0) (@zA0 _ _ _ _ _ (yM7 (yC2 (pv 2) (@zC3 _ _ _ _ _ (@zA0 _ _ _ _ _ zA2 (@zA0 _ _ _ _ _ zA2 zA3 (by rfl)) (by rfl))) yM4) rfl rfl (List.cons_ne_nil _ _) (Nat.le_of_ble_eq_true rfl)) zA3 (by rfl)) (by rfl))) (by rfl) (Or.inl rfl))
   (@zA4 _ _ _ _ _ (zD6 PassesOwn.never rfl (zH3 (by rfl) T.z_range (@zA0 _ _ _ _ _ (pv 3) zA3 (by rfl))) (zA9 (i:=5) nd rfl (Or.inl rfl)) (@zA6 _ _ _ (@zB1 _ _ 4 _ _ _ _ nd rfl (Or.inl rfl) (zB7 G__law_places hr (by rfl) zB8 (@zA0 _ _ _ _ _ (pv 0) (@zA0 _ _ _ _ _ (zB7 G__law_casks hr (by rfl) zB8 (@zA0 _ _ _ _ _ (pv 0) (@zA0 _ _ _ _ _ (zB7 G__law_led hr (by rfl) zB8 (@zA0 _ _ _ _ _ (pv 4) (@zA0 _ _ _ _ _ (pv 1) (@zA0 _ _ _ _ _ zY9 zA3 (by rfl)) (by rfl)) (by rfl))) zA3 (by rfl)) (by rfl))) zA3 (by rfl)) (by rfl))) (by rfl) (Or.inl rfl))))
   (@zA6 _ _ _ (zC0 (zB7 G__law_sum hr (by rfl) zB8 (@zA0 _ _ _ _ _ (zJ3 (zQ2 rfl) (by rfl) T.z_list zT9 (@zA0 _ _ _ _ _ (zM0 (K:=K) rfl PySem.F.plainAttrs_dict PySem.F.slot_dict_values PySem.F.type_dict_values yN6 (zB7 G__law_casks hr (by rfl) zB8 (@zA0 _ _ _ _ _ (pv 0) (@zA0 _ _ _ _ _ (pv 4) zA3 (by rfl)) (by rfl)))) zA3 (by rfl))) zA3 (by rfl))))))),?_⟩
  obtain ⟨hA,hP,ok,c5,hT,hY,hO,h15⟩:=hh
  have hOs:∀ s ∈ ss,OkS (allN ps) s:=fun s hs=>(hO s hs).1
  have l8:(allN ps).length <= 8:=by unfold allN; rw [List.length_map]; exact ok.len
  have hCL:∀ x ∈ ckN ps,x ∈ allN ps:=fun x hx=>zJ7 hx
  refine ⟨_,rfl,fun q hq=>⟨_,rfl,sz (by simp),fun f hf=>?_⟩⟩
  have nqf:q ≠ f:=fun e=>by rw [<- e,zA1] at hf; cases hf
  refine ⟨by rw [upd_ne nqf,zA1],[(.inr x,.ref f)],rfl,by simp,?_⟩
  have t5:=((Same.upd (o:=.dK []) hq).trans (Same.upd (o:=.tup [.int 1,.int 1]) hf)).updD (o:=.dK (zJ6 [] [(.inr x,.ref f)])) hq
  have ff:FrV (upd (upd (upd H q (.dK [])) f (.tup [.int 1,.int 1])) q (.dK (zJ6 [] [(.inr x,.ref f)]))) (.ref f) 1:=⟨f,rfl,by rw [upd_ne nqf.symm,zA1]; rfl⟩
  have hq5:=zA1 (H:=upd (upd H q (.dK [])) f (.tup [.int 1,.int 1])) (a:=q) (o:=.dK (zJ6 [] [(.inr x,.ref f)]))
  have r5:=RowAt.unit x ff
  generalize upd (upd (upd H q (.dK [])) f (.tup [.int 1,.int 1])) q (.dK (zJ6 [] [(.inr x,.ref f)])) = H5 at *
  refine ⟨ah,q,xs,ps,_,op (dlt x),rfl,SqL.of (t5 _ _ hA),zB9 hP t5,ok.len,hq5,r5,fun p6 H6 kv6 hp6 s6 h6 r6=>?_⟩
  have s06:=t5.trans s6
  let mC:Nat->Str->Rat:=fun i y=>if y ∈ ckN ps then mass (ckN ps) (back ss) (dlt x) i y else 0
  have e6:(fun z=>(op (dlt x) z).getD 0) = mC 0:=by
   funext z
   rw [zO9]
   show dlt x z = if z ∈ ckN ps then dlt x z else 0
   by_cases e:z ∈ ckN ps
   ·rw [if_pos e]
   ·rw [if_neg e]
    unfold dlt
    rw [if_neg fun u=>e (by rw [u]; exact hx)]
  rw [e6] at r6
  refine ⟨_,rfl,_,rfl,by omega,by omega,?_⟩
  refine zH4 (fun i σ H'=>∃ (v5:Option V) (pm:Addr) (km:List (Key × V)),σ = [some (.ref ah),some (.ref as),some (.str x),some (.int (m:Nat)),some (.ref pm),v5] /\ Same H H' /\ H' pm = some (.dK km) /\ RowAt H' km (all (allN ps) (mC i)) /\ ∃ E W,0 < E /\ E <= W /\ W <= 2 ^ (118 * i) /\ ∀ z ∈ allN ps,Cd E W (mC i z)) ⟨_,p6,kv6,rfl,s06,h6,r6,1,1,by decide,by decide,Nat.one_le_two_pow,fun z _=>?_⟩ ?_ ?_
  ·show Cd 1 1 (if z ∈ ckN ps then dlt x z else 0)
   split
   ·unfold dlt
    split
    ·exact Cd.one 1
    ·exact Cd.zero _ _
   ·exact Cd.zero _ _
  ·rintro i σ H' hi ⟨v5,pm,km,rfl,s7,h7,r7,E2,W2,e20,ew2,w2,hcd2⟩
   have hi:i < m:=by simpa using hi
   have hA7:=s7 _ _ hA
   have hP7:=zB9 hP s7
   have bdT:=xM5 ok.nd l8 hO h15 e20 ew2 w2 (by omega) hcd2 false
   have cdT:=xC2 ok.nd l8 hO h15 ew2 hcd2 false ss.length (Nat.le_refl _)
   rw [List.take_length] at cdT
   refine ⟨_,rfl,_,rfl,_,rfl,_,rfl,pm,as,km,ys,ss,allN ps,false,mC i,rfl,h7,ok.nd,l8,r7,SqL.of (s7 _ _ hT),zD0 hY s7,hO,h15,bdT,fun p3 H8 kv3 hp3 s8 h8 r8=>?_⟩
   refine ⟨ah,p3,xs,ps,kv3,ledB false ss (mC i),rfl,SqL.of (s8 _ _ hA7),zB9 hP7 s8,ok.len,h8,r8,fun p4 H9 kv4 hp4 s9 h9 r9=>?_⟩
   have s79:=s8.trans s9
   refine ⟨ah,p4,xs,ps,kv4,all (ckN ps) (ledB false ss (mC i)),rfl,SqL.of (s79 _ _ hA7),zB9 hP7 s79,ok.len,h9,r9,fun p5 H10 kv5 hp5 s10 h10 r10=>?_⟩
   have e10:(fun z=>(all (ckN ps) (ledB false ss (mC i)) z).getD 0) = mC (i + 1):=by
    funext z
    rw [yF8]
    show _ = if z ∈ ckN ps then _ else _
    by_cases e:z ∈ ckN ps
    ·rw [if_pos e,if_pos e]
     exact xI5 ok.nd ok.ck hCL hOs (dlt x) i z e
    ·rw [if_neg e,if_neg e]
   rw [e10] at r10
   have P0:=zG4 ss
   have P100:=zL8 hO h15
   have e18:(2:Nat) ^ 18 = 262144:=by decide
   refine ⟨_,p5,kv5,rfl,s7.trans (s79.trans s10),h10,r10,E2 * zC5 ss * 12,2 ^ 18 * (W2 * zC5 ss),Nat.mul_pos (Nat.mul_pos e20 P0) (by decide),?_,?_,fun z hz=>?_⟩
   ·have:=Nat.mul_le_mul_right (zC5 ss) ew2
    rw [e18]; omega
   ·have e:118 * (i + 1) = 18 + (118 * i + 100):=by omega
    rw [e,Nat.pow_add,Nat.pow_add]
    exact Nat.mul_le_mul_left _ (Nat.mul_le_mul w2 P100)
   ·have:mC (i + 1) z = (all (ckN ps) (ledB false ss (mC i)) z).getD 0:=by rw [<- e10]
    rw [this,yF8]
    split
    ·exact cdT z hz
    ·exact Cd.zero _ _
  ·rintro σ H' ⟨v5,pm,km,rfl,s7,h7,r7,E2,W2,e20,ew2,w2,hcd2⟩
   have em:((m:Nat):Int).toNat = m:=by simp
   rw [em] at r7 w2 hcd2
   refine ⟨_,rfl,_,rfl,ah,pm,xs,ps,km,mC m,rfl,SqL.of (s7 _ _ hA),zB9 hP s7,ok.len,h7,r7,fun p4 H9 kv4 hp4 s9 h9 r9=>?_⟩
   have mk:∀ z,z ∈ nms kv4 ↔ z ∈ ckN ps:=fun z=>(r9.iff z).trans all_some
   have nk:(nms kv4).Nodup:=zE8 r9.nodup r9.keys
   have lk:(nms kv4).length <= 5:=Nat.le_trans (zD8 nk fun z hz=>(mk z).mp hz) c5
   refine ⟨.inr (.inr (.inl ⟨rfl,.inl ⟨_,h9⟩⟩)),p4,_,rfl,rfl,h9,rfl,fun pv2 hpv2=>?_⟩
   have tw:=Same.upd (o:=yM0 pv2 p4) hpv2
   refine ⟨pv2,p4,_,rfl,zA1,tw _ _ h9,rfl,fun qs hqs l hl=>?_⟩
   have hqs:qs = kv4.map fun kv=>(kV kv.1,kv.2):=hqs
   have eqs:qs.map (·.2) = kv4.map (·.2):=by rw [hqs,List.map_map]; rfl
   rw [eqs]
   have tl:=tw.trans (Same.upd (o:=.lst (kv4.map (·.2))) hl)
   have w590:W2 <= 2 ^ 590:=Nat.le_trans w2 (Nat.pow_le_pow_right (by decide) (by omega))
   have bdz:∀ z ∈ nms kv4,Cd E2 W2 (mC m z):=fun z hz=>hcd2 z (hCL z ((mk z).mp hz))
   refine ⟨l,kv4.map (·.2),(nms kv4).map (mC m),rfl,SqL.of zA1,Paired.mapP r9.valsA (fun _ _ g=>g.same tl),fun r hr=>?_,fun j hj=>?_,fun u4 H10 s10 f10=>?_⟩
   ·obtain ⟨y,hy,rfl⟩:=List.mem_map.mp hr
    exact ((bdz y hy).bd e20 ew2 w590).mono (by decide)
   ·rw [<- List.map_take]
    have:=zY1 (l:=(nms kv4).take j) (f:=mC m) fun z hz=>bdz z (List.mem_of_mem_take hz)
    have lt:((nms kv4).take j).length <= 8:=by rw [List.length_take]; omega
    have:=this.mono (Nat.mul_le_mul_right W2 lt)
    refine (this.bd (s:=3 + 590) e20 (by omega) ?_).mono (by decide)
    rw [Nat.pow_add]
    exact Nat.mul_le_mul_left _ w590
   have es:sumQ ((nms kv4).map (mC m)) = stay (ckN ps) (back ss) m x:=by
    show sumL (nms kv4) (mC m) = _
    rw [zO5 nk ok.ck mk,<- xI4 (back ss) ok.ck hx m]
    exact zC6 fun z hz=>by show (if z ∈ ckN ps then _ else _) = _; rw [if_pos hz]
   rw [es] at f10
   exact k u4 H10 (s7.trans (s9.trans (tl.trans s10))) f10
noncomputable abbrev zK0:Stmt:=top 53
theorem sc__law_most:zB5 ["_law_house_here","_law_steps_here","_law_names","_law_many","_law_most_here","_law_name","_law_left_here"] ["_law_house_here","_law_steps_here","_law_names","_law_many"] (zA5 zK0):=⟨rfl,rfl,rfl,by decide +kernel,rfl,by decide +kernel,by decide +kernel⟩
theorem yJ0 {ca:Ca} (D:DefAt K mg "_law_most" zK0) (T:Txt K mg ca) (G__law_left:FnAt P w K mg base CX0 5 "_law_left" ["_law_house_here","_law_steps_here","_law_name","_law_many"] (xL3 K)):FnAt P w K mg base CX0 6 "_law_most" ["_law_house_here","_law_steps_here","_law_names","_law_many"] (yY5 K):=by
 refine D.ok sc__law_most (fun vs H Q E h=>?_) (fun _ _ _ _ _ _ us hl=>match us,hl with | [_,_,_,_],_=>rfl) (fun f cdv A outer s H vs Q E hr h=>?_)
 ·obtain ⟨ah,as,an,xs,ps,ys,ss,m,rfl,hh,hn,m5,k⟩:=h; rfl
 ·obtain ⟨ah,as,an,xs,ps,ys,ss,m,rfl,hh,hn,m5,k⟩:=h
  have nd:=sc__law_most.nd
  refine ⟨_,(@zA4 _ _ _ _ _ (@zB1 _ _ 4 _ _ _ _ nd rfl (Or.inl rfl) (@zC3 _ _ _ _ _ (@zA0 _ _ _ _ _ zA2 (@zA0 _ _ _ _ _ zA2 zA3 (by rfl)) (by rfl))) (by rfl) (Or.inl rfl))
   (@zA4 _ _ _ _ _ (zD6 PassesOwn.never rfl (zD5 (K:=K) rfl (pv 2)) (zA9 (i:=5) nd rfl (Or.inl rfl)) (@zA4 _ _ _ _ _ (@zB1 _ _ 6 _ _ _ _ nd rfl (Or.inl rfl) (zB7 G__law_left hr (by rfl) zB8 (@zA0 _ _ _ _ _ (pv 0) (@zA0 _ _ _ _ _ (pv 1) (@zA0 _ _ _ _ _ (pv 5) (@zA0 _ _ _ _ _ (pv 3) zA3 (by rfl)) (by rfl)) (by rfl)) (by rfl))) (by rfl) (Or.inl rfl))
   (@zA6 _ _ _ (zK2 (zC1 xH6 (@zB6 _ _ _ _ _ _ _ _ zG5 (zB4 (zA7 (K:=K) rfl) (pv 6) zA2 (fun _ _=>rfl)) (zB4 (zA7 (K:=K) rfl) (pv 4) zA2 (fun _ _=>rfl))) (@zB6 _ _ _ _ _ _ _ _ zG5 (zB4 (zA7 (K:=K) rfl) (pv 4) zA2 (fun _ _=>rfl)) (zB4 (zA7 (K:=K) rfl) (pv 6) zA2 (fun _ _=>rfl))) (zD3 _)) (@zA6 _ _ _ (@zB1 _ _ 4 _ _ _ _ nd rfl (Or.inl rfl) (pv 6) (by rfl) (Or.inl rfl))) zE1))))
   (@zA6 _ _ _ (zC0 (pv 4))))),?_⟩
  obtain ⟨hA,hP,ok,c5,hT,hY,hO,h15⟩:=id hh
  have hOs:∀ s ∈ ss,OkS (allN ps) s:=fun s hs=>(hO s hs).1
  have hCL:∀ x ∈ ckN ps,x ∈ allN ps:=fun x hx=>zJ7 hx
  have G:=zE3 ok.nd hOs
  have P0:=zG4 ss
  have P100:=zL8 hO h15
  let st:Str->Rat:=stay (ckN ps) (back ss) m
  have stB:∀ z ∈ ckN ps,Bd 3000 (st z):=fun z hz=>by
   refine ((zQ9 G ok.ck ok.nd hCL m z hz).bd (n:=501) (Nat.pow_pos P0) (Nat.le_refl _) ?_).mono (by decide)
   rw [Nat.one_mul]
   have h1:zC5 ss ^ m <= (2 ^ 100) ^ m:=Nat.pow_le_pow_left P100 m
   rw [<- Nat.pow_mul] at h1
   exact Nat.lt_of_le_of_lt h1 (Nat.pow_lt_pow_right (by decide) (by omega))
  refine ⟨sz (by simp),fun p0 hp0=>?_⟩
  have t0:=Same.upd (o:=.tup [.int 0,.int 1]) hp0
  have f0:=FrV.newOf (H:=H) (p:=p0) (t:=0) (b:=1) (r:=0) rfl rfl
  generalize upd H p0 (.tup [.int 0,.int 1]) = H1 at *
  refine ⟨_,rfl,an,rfl,⟨_,SqL.of (t0 _ _ hn)⟩,?_⟩
  refine zF7 (xs:=(ckN ps).map V.str) (fun i σ H2=>∃ (v5 v6:Option V) (w:V),σ = [some (.ref ah),some (.ref as),some (.ref an),some (.int (m:Nat)),some w,v5,v6] /\ Same H H2 /\ FrV H2 w (yE4 ((ckN ps).take i) st) /\ Bd 3000 (yE4 ((ckN ps).take i) st)) ⟨_,_,.ref p0,rfl,t0,f0,⟨Nat.two_pow_pos _,Nat.one_lt_two_pow (by decide)⟩⟩ ?_ ?_ ?_
  ·rintro i σ H2 hi ⟨v5,v6,w,rfl,s2,fw',bw⟩
   exact SqL.of (s2 _ _ hn)
  ·rintro i x σ H2 hx ⟨v5,v6,w,rfl,s2,fw',bw⟩
   obtain ⟨z,rfl,hi⟩:=zO7 hx
   have hz:z ∈ ckN ps:=List.mem_of_getElem? hi
   have hh2:HsV K H2 ah as xs ps ys ss:=⟨s2 _ _ hA,zB9 hP s2,ok,c5,s2 _ _ hT,zD0 hY s2,hO,h15⟩
   refine ⟨_,rfl,_,rfl,_,rfl,_,rfl,ah,as,xs,ps,ys,ss,z,m,rfl,hh2,hz,m5,fun w1 H3 s3 f3=>?_⟩
   obtain ⟨c1,rfl,hc1⟩:=id f3
   have fw3:=fw'.same s3
   obtain ⟨c,rfl,hc⟩:=id fw3
   let mo:Rat:=yE4 ((ckN ps).take i) st
   have et:yE4 ((ckN ps).take (i + 1)) st = if mo < st z then st z else mo:=by
    unfold yE4
    rw [zC2 hi,List.foldl_append]; rfl
   have b1:=stB z hz
   refine ⟨_,rfl,c1,_,_,_,rfl,rfl,SqT.of hc1,rfl,_,rfl,c,_,_,_,rfl,rfl,SqT.of hc,rfl,_,_,rfl,rfl,zE9 3000 b1.num bw.den (by decide),_,rfl,c,_,_,_,rfl,rfl,SqT.of hc,rfl,_,rfl,c1,_,_,_,rfl,rfl,SqT.of hc1,rfl,_,_,rfl,rfl,zE9 3000 bw.num b1.den (by decide),_,_,rfl,rfl,_,rfl,?_⟩
   have ed:decide (mo.num * (((st z).den:Nat):Int) < (st z).num * ((mo.den:Nat):Int)) = decide (mo < st z):=_root_.Tc.lt_ok ..
   refine ite2 (fun h=>?_) (fun h=>?_)
   ·have h:mo < st z:=of_decide_eq_true (ed.symm.trans h)
    rw [if_pos h] at et
    exact ⟨_,rfl,_,_,_,rfl,s2.trans s3,by rw [et]; exact f3,by rw [et]; exact b1⟩
   ·have h:¬ mo < st z:=fun e=>h (ed.trans (decide_eq_true e))
    rw [if_neg h] at et
    exact ⟨_,_,_,rfl,s2.trans s3,by rw [et]; exact fw3,by rw [et]; exact bw⟩
  ·rintro σ H2 ⟨v5,v6,w,rfl,s2,fw',bw⟩
   rw [List.length_map,List.take_length] at fw'
   exact ⟨_,rfl,k w H2 s2 fw'⟩
noncomputable abbrev zI9:Stmt:=top 54
theorem sc__law_apart:zB5 ["_law_one","_law_other","_law_some"] ["_law_one","_law_other"] (zA5 zI9):=⟨rfl,rfl,rfl,by decide +kernel,rfl,by decide +kernel,by decide +kernel⟩
theorem yD9 {ca:Ca} (D:DefAt K mg "_law_apart" zI9) (T:Txt K mg ca) (G__law_plus:FnAt P w K mg base CX0 3 "_law_plus" ["_law_one","_law_other"] (sp2 4000 (· + ·))) (G__law_sum:FnAt P w K mg base CX0 4 "_law_sum" ["_law_some"] (yY1 K)):FnAt P w K mg base CX0 5 "_law_apart" ["_law_one","_law_other"] (yQ7 K):=by
 refine D.ok sc__law_apart (fun vs H Q E h=>?_) (fun _ _ _ _ _ _ us hl=>match us,hl with | [_,_],_=>rfl) (fun f cdv A outer s H vs Q E hr h=>?_)
 ·obtain ⟨a,b,ka,kb,C,f,g,E1,W1,rfl,ha,hb,nC,c5,ra,rb,E0',EW,We,hcd,k⟩:=h; rfl
 ·obtain ⟨a,b,ka,kb,C,f,g,E1,W1,rfl,ha,hb,nC,c5,ra,rb,E0',EW,We,hcd,k⟩:=h
  have nd:=sc__law_apart.nd
  refine ⟨_,(@zA4 _ _ _ _ _ (zO8 (zN3 ["_law_name"] ["_law_one","_law_other"] [0,1] (i:=2) nd rfl rfl rfl (by rfl) (zS9 (pv 0)) (fun _ _ _ _=>(zA9 (i:=0) (show List.Nodup (["_law_name","_law_one","_law_other"]:List Str) from by decide) rfl (Or.inl rfl))) (fun _ _ _ _=>zK5) (fun _ _ _ _=>(zB7 G__law_plus hr (by rfl) zB8 (@zA0 _ _ _ _ _ (zF5 (zE2 hr) (pv 1) (pv 0) (fun _ _=>rfl)) (@zA0 _ _ _ _ _ (@zC3 _ _ _ _ _ (@zA0 _ _ _ _ _ (@zB6 _ _ _ _ _ _ _ _ yI6 zA2 (zB4 (zA7 (K:=K) rfl) (zF5 (zE2 hr) (pv 2) (pv 0) (fun _ _=>rfl)) zA2 (fun _ _=>rfl))) (@zA0 _ _ _ _ _ (zB4 (zA7 (K:=K) rfl) (zF5 (zE2 hr) (pv 2) (pv 0) (fun _ _=>rfl)) zA2 (fun _ _=>rfl)) zA3 (by rfl)) (by rfl))) zA3 (by rfl)) (by rfl))))))
   (@zA6 _ _ _ (zC0 (zB7 G__law_sum hr (by rfl) zB8 (@zA0 _ _ _ _ _ (zL9 ["_law_top","_law_bottom"] [] [] rfl (by rfl) (zD5 (K:=K) rfl (pv 2)) (fun _ _ _ _=>(yM6 (K:=K) (n:=2) (by rfl) (by rfl) (zC7 (zA9 (i:=0) (show List.Nodup (["_law_top","_law_bottom"]:List Str) from by decide) rfl (Or.inl rfl) (hf:=Or.inr (by rfl))) (zC7 (zA9 (i:=1) (show List.Nodup (["_law_top","_law_bottom"]:List Str) from by decide) rfl (Or.inl rfl) (hf:=Or.inr (by rfl))) zK4)))) (fun _ _ _ _=>zK5) (fun _ _ _ _=>(@zC3 _ _ _ _ _ (@zA0 _ _ _ _ _ (zC9 yU2 (by rfl) T.z_abs xN5 (@zA0 _ _ _ _ _ (pv 0) zA3 (by rfl))) (@zA0 _ _ _ _ _ (pv 1) zA3 (by rfl)) (by rfl))))) zA3 (by rfl)))))),?_⟩
  have mk:∀ z,z ∈ nms ka ↔ z ∈ C:=fun z=>(ra.iff z).trans all_some
  have nk:(nms ka).Nodup:=zE8 ra.nodup ra.keys
  have lk:(nms ka).length <= 5:=Nat.le_trans (zD8 nk fun z hz=>(mk z).mp hz) c5
  rw [zD2] at lk
  let df:Str->Rat:=fun z=>f z - g z
  have cdd:∀ z ∈ C,Cd E1 (2 * W1) (df z):=fun z hz=>((hcd z hz).1.sub (hcd z hz).2).mono (by omega)
  refine ⟨a,_,ha,rfl,?_⟩
  refine ⟨_,rfl,a,_,rfl,ha,rfl,fun o qs hqs=>fun D hD=>?_⟩
  have hqs:qs = ka.map fun kv=>(kV kv.1,kv.2):=hqs
  subst hqs
  have nDa:D ≠ a:=fun e=>by rw [e,zA1] at hD; cases hD
  have hD0:H D = none:=by rw [upd_ne nDa] at hD; exact hD
  refine zP7 (fun i σ' H'=>∃ (v:Option V) (xs:List V),σ' = [v,some (.ref a),some (.ref b)] /\ H' a = some (.frz o (.dK ka)) /\ (∀ c ob,H c = some ob->c ≠ a->H' c = some ob) /\ H' D = some (.lst xs) /\ Paired (FrV H') xs ((nms (ka.take i)).map df)) ⟨none,[],rfl,by rw [upd_ne nDa.symm,zA1],fun c ob e n=>by rw [upd_ne (zA8 e hD0),upd_ne n]; exact e,zA1,.nil⟩ ?_ ?_ ?_
  ·rintro i σ' H' ⟨_,_,_,h,_⟩
   exact h
  ·rintro i k' w' σ' H' hk ⟨v,xs,rfl,hfa,keep,hd,hX⟩
   obtain ⟨kvi,hki,ek⟩:∃ kvi,ka[i]? = some kvi /\ (kV kvi.1,kvi.2) = (k',w'):=by
    rw [List.getElem?_map] at hk
    cases q:ka[i]? with
    | none=>rw [q] at hk; cases hk
    | some kvi=>rw [q] at hk; exact ⟨kvi,rfl,Option.some.inj hk⟩
   have hi:i < ka.length:=(List.getElem?_eq_some_iff.mp hki).1
   have hval:=zK9 ra.nodup hki
   obtain ⟨z,r,hz,hg,fr,hzm,hnms⟩:=ra.at hki
   obtain ⟨rfl,rfl⟩:=Prod.mk.inj ek
   obtain ⟨k0,w0⟩:=kvi
   have hz:k0 = .inr z:=hz
   subst hz
   have hzC:z ∈ C:=all_some.mp (by rw [hg]; rfl)
   have er:r = f z:=by
    unfold all at hg
    rw [if_pos hzC] at hg
    exact (Option.some.inj hg).symm
   subst er
   have tuk:∀ (c:Addr) (m:List V),H c = some (.tup m)->H' c = some (.tup m):=fun c m e=>keep c _ e (zG3 e ha (by intro z; cases z))
   have fr':FrV H' w0 (f z):=fr.tup tuk
   obtain ⟨wb,ewb,fb0⟩:=rb.has z (g z) (by unfold all; rw [if_pos hzC])
   have fb:FrV H' wb (g z):=fb0.tup tuk
   have dgb:DGet H' b (.str z) (some wb):=by
    by_cases e:b = a
    ·subst e
     rw [ha] at hb
     cases hb
     exact .inl ⟨ka,.inr z,.inr ⟨o,hfa⟩,rfl,ewb.symm⟩
    ·have q:=DGet.k (k:=.inr z) (keep _ _ hb e)
     rw [ewb] at q; exact q
   obtain ⟨c1,rfl,hc1⟩:=id fb
   have bf:=((hcd z hzC).1.bd E0' EW We).mono (show 1500 + 1 <= 3900 by decide)
   have bg:=((hcd z hzC).2.bd E0' EW We).mono (show 1500 + 1 <= 3900 by decide)
   refine ⟨_,rfl,_,rfl,a,w0,rfl,.inl ⟨ka,.inr z,.inr ⟨o,hfa⟩,rfl,hval.symm⟩,_,rfl,_,rfl,b,.ref c1,rfl,dgb,c1,_,_,_,rfl,rfl,SqT.of hc1,rfl,_,_,rfl,rfl,_,rfl,_,rfl,b,.ref c1,rfl,dgb,c1,_,_,_,rfl,rfl,SqT.of hc1,rfl,sz (by simp),fun q1 hq1=>?_⟩
   have u3:=Same.upd (o:=.tup [.int (0 - (g z).num),.int ((g z).den:Nat)]) hq1
   refine ⟨_,_,f z,-(g z),rfl,fr'.same u3,FrV.newOf (yA3 _).1 (yA3 _).2,bf.mono (by decide),bg.neg.mono (by decide),fun w3 H3 s3 f3=>?_⟩
   have s13:=u3.trans s3
   have hd3:=s13 _ _ hd
   have hfa3:=s13 _ _ hfa
   have lx:xs.length <= 5:=by
    rw [hX.length,List.length_map,zD2,List.length_take]; omega
   have tu:=zC8 (o:=.lst (xs ++ [w3])) hd3 (fun _ z=>nomatch z)
   refine ⟨_,hd3,sz (by omega),_,xs ++ [w3],rfl,by rw [upd_ne (zG3 hfa3 hd3 (by intro z; cases z))]; exact hfa3,fun c ob e n=>by rw [upd_ne (zA8 e hD0)]; exact s13 _ _ (keep c ob e n),zA1,?_⟩
   rw [hnms,List.map_append]
   refine Paired.snoc (Paired.mapP hX fun _ _ f=>(f.same s13).tup tu) ?_
   have f3:FrV H3 w3 (f z + -g z):=f3
   rw [<- Rat.sub_eq_add_neg] at f3
   exact f3.tup tu
  ·rintro σ' H' ⟨v,xs,rfl,hfa,keep,hd,hX⟩
   rw [List.length_map,List.take_length] at hX
   refine ⟨o,_,hfa,?_⟩
   have sS:Same H (upd H' a (.dK ka)):=fun c ob e=>by
    by_cases z:c = a
    ·subst z; rw [zA1]; rw [ha] at e; exact e
    ·rw [upd_ne z]; exact keep c ob e z
   have hd2:upd H' a (.dK ka) D = some (.lst xs):=by rw [upd_ne nDa]; exact hd
   have tu:=zC8 (o:=.dK ka) hfa (fun _ z=>nomatch z)
   have hX2:=Paired.mapP hX fun _ _ f=>f.tup tu
   generalize upd H' a (.dK ka) = H2 at *
   have lx:xs.length <= 5:=by rw [hX.length,List.length_map,zD2]; exact lk
   refine ⟨_,rfl,D,rfl,⟨_,SqL.of hd2⟩,fun D2 hD2=>?_⟩
   let rs:List Rat:=(nms ka).map df
   have lrs:rs.length <= 5:=by show ((nms ka).map df).length <= 5; rw [List.length_map,zD2]; exact lk
   refine zJ2 (xs:=xs) (fun i σ' H3=>∃ (v w:Option V) (zs:List V),σ' = [v,w] /\ Same H2 H3 /\ H3 D2 = some (.lst zs) /\ Paired (FrV H3) zs ((rs.take i).map absR)) ⟨none,none,[],rfl,Same.upd hD2,zA1,.nil⟩ ?_ ?_ ?_
   ·rintro i σ' H3 hi ⟨v,w,zs,rfl,s3,h3,hZ⟩
    exact SqL.of (s3 _ _ hd2)
   ·rintro i x σ' H3 hx ⟨v,w,zs,rfl,s3,h3,hZ⟩
    obtain ⟨r,hr,fr⟩:=zC4 hX2 hx
    have fr3:=fr.same s3
    obtain ⟨c,rfl,hc⟩:=id fr3
    refine ⟨c,_,rfl,SqT.of hc,rfl,_,_,rfl,_,_,rfl,rfl,?_⟩
    refine ⟨_,rfl,_,rfl,_,rfl,sz (by simp),fun t ht=>?_⟩
    have u4:=Same.upd (o:=.tup [.int (if r.num < 0 then -r.num else r.num),.int (r.den:Nat)]) ht
    have lz:zs.length <= 5:=by rw [hZ.length,List.length_map,List.length_take]; omega
    have h4:=u4 _ _ h3
    have tu4:=zC8 (o:=.lst (zs ++ [.ref t])) h4 (fun _ z=>nomatch z)
    refine ⟨_,h4,sz (by omega),_,_,zs ++ [.ref t],rfl,(s3.trans u4).updD hD2,zA1,?_⟩
    rw [zC2 hr,List.map_append]
    refine Paired.snoc (Paired.mapP hZ fun _ _ f=>(f.same u4).tup tu4) ?_
    exact (FrV.newOf (r:=absR r) (p:=t) (xN7 r).1 (xN7 r).2).tup tu4
   ·rintro σ' H3 ⟨v,w,zs,rfl,s3,h3,hZ⟩
    rw [show xs.length = rs.length from hX.length,List.take_length] at hZ
    have cdr:∀ r ∈ rs,Cd E1 (2 * W1) r:=fun r hr=>by
     obtain ⟨z,hz,rfl⟩:=List.mem_map.mp hr
     exact cdd z ((mk z).mp hz)
    have w2:2 * W1 <= 2 ^ 1501:=by rw [Nat.pow_succ]; omega
    have e1:rs.map absR = (nms ka).map fun z=>absR (df z):=by show ((nms ka).map df).map absR = _; rw [List.map_map]; rfl
    refine ⟨D2,zs,rs.map absR,rfl,SqL.of h3,hZ,fun r hr=>?_,fun m hm=>?_,fun u H4 s4 f4=>?_⟩
    ·obtain ⟨q,hq,rfl⟩:=List.mem_map.mp hr
     exact ((yP4 (cdr q hq)).bd E0' (by omega) w2).mono (by decide)
    ·rw [e1,<- List.map_take]
     have:=zY1 (l:=(nms ka).take m) (f:=fun z=>absR (df z)) fun z hz=>yP4 (cdd z ((mk z).mp (List.mem_of_mem_take hz)))
     have lt:((nms ka).take m).length <= 8:=by rw [List.length_take,zD2]; omega
     have:=this.mono (Nat.mul_le_mul_right (2 * W1) lt)
     refine (this.bd (s:=3 + 1501) E0' (by omega) ?_).mono (by decide)
     rw [Nat.pow_add]
     exact Nat.mul_le_mul_left _ w2
    rw [e1] at f4
    have e2:sumQ ((nms ka).map fun z=>absR (df z)) = farL C fun z=>f z - g z:=zO5 nk nC mk fun z=>absR (df z)
    rw [e2] at f4
    exact k u H4 (sS.trans (s3.trans s4)) f4
noncomputable abbrev zG8:Stmt:=top 55
theorem sc__law_rounds:zB5 ["_law_house_here","_law_steps_here","_law_totals_now","_law_n","_law_k"] ["_law_house_here","_law_steps_here","_law_totals_now","_law_n"] (zA5 zG8):=⟨rfl,rfl,rfl,by decide +kernel,rfl,by decide +kernel,by decide +kernel⟩
theorem zZ1 {ca:Ca} (D:DefAt K mg "_law_rounds" zG8) (T:Txt K mg ca) (G__law_casks:FnAt P w K mg base CX0 1 "_law_casks" ["_law_house_here","_law_made"] (zU8 K)) (G__law_led:FnAt P w K mg base CX0 4 "_law_led" ["_law_totals","_law_steps_here","_law_brings"] (xG6 K)) (G__law_places:FnAt P w K mg base CX0 1 "_law_places" ["_law_house_here","_law_totals"] (zU7 K)):FnAt P w K mg base CX0 5 "_law_rounds" ["_law_house_here","_law_steps_here","_law_totals_now","_law_n"] (yH0 K):=by
 refine D.ok sc__law_rounds (fun vs H Q E h=>?_) (fun _ _ _ _ _ _ us hl=>match us,hl with | [_,_,_,_],_=>rfl) (fun f cdv A outer s H vs Q E hr h=>?_)
 ·obtain ⟨ah,as,at',xs,ps,ys,ss,kt,f,n,rfl,hh,hat,rt,n6,hcd,k⟩:=h; rfl
 ·obtain ⟨ah,as,at',xs,ps,ys,ss,kt,f,n,rfl,hh,hat,rt,n6,hcd,k⟩:=h
  have nd:=sc__law_rounds.nd
  refine ⟨_,(@zA4 _ _ _ _ _ (zD6 PassesOwn.never rfl (zH3 (by rfl) T.z_range (@zA0 _ _ _ _ _ (pv 3) zA3 (by rfl))) (zA9 (i:=4) nd rfl (Or.inl rfl)) (@zA6 _ _ _ (@zB1 _ _ 2 _ _ _ _ nd rfl (Or.inl rfl) (zB7 G__law_casks hr (by rfl) zB8 (@zA0 _ _ _ _ _ (pv 0) (@zA0 _ _ _ _ _ (zB7 G__law_led hr (by rfl) zB8 (@zA0 _ _ _ _ _ (zB7 G__law_places hr (by rfl) zB8 (@zA0 _ _ _ _ _ (pv 0) (@zA0 _ _ _ _ _ (pv 2) zA3 (by rfl)) (by rfl))) (@zA0 _ _ _ _ _ (pv 1) (@zA0 _ _ _ _ _ zY9 zA3 (by rfl)) (by rfl)) (by rfl))) zA3 (by rfl)) (by rfl))) (by rfl) (Or.inl rfl))))
   (@zA6 _ _ _ (zC0 (pv 2)))),?_⟩
  obtain ⟨hA,hP,ok,c5,hT,hY,hO,h15⟩:=hh
  have l8:(allN ps).length <= 8:=by unfold allN; rw [List.length_map]; exact ok.len
  have hCL:∀ x ∈ ckN ps,x ∈ allN ps:=fun x hx=>zJ7 hx
  have P100:=zL8 hO h15
  refine ⟨_,rfl,_,rfl,by omega,by omega,?_⟩
  refine zH4 (fun i σ H'=>∃ (v4:Option V) (pT:Addr) (kvT:List (Key × V)),σ = [some (.ref ah),some (.ref as),some (.ref pT),some (.int (n:Nat)),v4] /\ Same H H' /\ H' pT = some (.dK kvT) /\ RowAt H' kvT (all (ckN ps) (rndQ (ckN ps) (allN ps) ss f i))) ⟨_,at',kt,rfl,Same.refl _,hat,rt⟩ ?_ ?_
  ·rintro i σ H' hi ⟨v4,pT,kvT,rfl,s7,h7,r7⟩
   have hi:i < n:=by simpa using hi
   have hA7:=s7 _ _ hA
   have hP7:=zB9 hP s7
   have bdT:=xM5 ok.nd l8 hO h15 (yR4 ss i) (yZ9 ss i) (xO8 P100 i) (by omega) (f:=rC (ckN ps) (allN ps) ss f i) (fun y _=>xP0 ok.nd l8 hO h15 hCL hcd i y) true
   refine ⟨_,rfl,_,rfl,_,rfl,ah,pT,xs,ps,kvT,_,rfl,SqL.of hA7,hP7,ok.len,h7,r7,fun p2 H8 kv2 hp2 s8 h8 r8=>?_⟩
   have e8:(fun z=>(all (ckN ps) (rndQ (ckN ps) (allN ps) ss f i) z).getD 0) = rC (ckN ps) (allN ps) ss f i:=by
    funext z
    rw [yF8]; rfl
   rw [e8] at r8
   refine ⟨_,rfl,p2,as,kv2,ys,ss,allN ps,true,rC (ckN ps) (allN ps) ss f i,rfl,h8,ok.nd,l8,r8,SqL.of ((s7.trans s8) _ _ hT),zD0 hY (s7.trans s8),hO,h15,bdT,fun p3 H9 kv3 hp3 s9 h9 r9=>?_⟩
   have s79:=s8.trans s9
   refine ⟨ah,p3,xs,ps,kv3,ledB true ss (rC (ckN ps) (allN ps) ss f i),rfl,SqL.of (s79 _ _ hA7),zB9 hP7 s79,ok.len,h9,r9,fun p4 H10 kv4 hp4 s10 h10 r10=>?_⟩
   exact ⟨_,p4,kv4,rfl,s7.trans (s79.trans s10),h10,r10⟩
  ·rintro σ H' ⟨v4,pT,kvT,rfl,s7,h7,r7⟩
   have em:((n:Nat):Int).toNat = n:=by simp
   rw [em] at r7
   exact ⟨_,rfl,k pT H' kvT s7 h7 r7⟩
noncomputable abbrev yB9:Stmt:=top 56
theorem sc_law:zB5 ["_law_script","_law_house_here","_law_steps_here","_law_names","_law_found","_law_k","_law_share_here","_law_many","_law_one","_law_other","_law_j","_law_n","_law_due","_law_far"] ["_law_script"] (zA5 yB9):=⟨rfl,rfl,rfl,by decide +kernel,rfl,by decide +kernel,by decide +kernel⟩
theorem xU9 {ca:Ca} {f:Addr} {fd:FuncData} (D:Fun K "law" "law" yB9 f fd) (T:Txt K mg ca) (G__law_leaking:FnAt P w K mg base CX0 6 "_law_leaking" ["_law_script"] (yH2 K)) (G_long_run:FnAt P w K mg base CX0 8 "long_run" ["house","steps"] (xL2 K)) (G__law_alike:FnAt P w K mg base CX0 2 "_law_alike" ["_law_found","_law_due"] (yY8)) (G__law_most:FnAt P w K mg base CX0 6 "_law_most" ["_law_house_here","_law_steps_here","_law_names","_law_many"] (yY5 K)) (G__law_whole:FnAt P w K mg base CX0 1 "_law_whole" ["_law_found"] (yM1)) (G__law_cell_at:FnAt P w K mg base CX0 1 "_law_cell_at" ["_law_script","_law_k"] (yY7 K)) (G__law_mixed:FnAt P w K mg base CX0 1 "_law_mixed" ["_law_cell"] (yB6)) (G__law_apart:FnAt P w K mg base CX0 5 "_law_apart" ["_law_one","_law_other"] (yQ7 K)) (G__law_times:FnAt P w K mg base CX0 3 "_law_times" ["_law_one","_law_other"] (sp2 4000 (· * ·))) (G__law_rounds:FnAt P w K mg base CX0 5 "_law_rounds" ["_law_house_here","_law_steps_here","_law_totals_now","_law_n"] (yH0 K)):FnOk P w K mg base CX0 9 f fd ["_law_script"] (spLaw K):=by
 refine D.ok sc_law (fun vs H Q E h=>?_) (fun cdv A outer s H vs Q E hr h=>?_)
 ·obtain ⟨a,ns,rfl,hS,hlen,k⟩:=h; rfl
 ·obtain ⟨a,ns,rfl,hS,hlen,k⟩:=h
  have nd:=sc_law.nd
  refine ⟨_,(@zA4 _ _ _ _ _ (yR6 (zB7 G__law_leaking hr (by rfl) zB8 (@zA0 _ _ _ _ _ (pv 0) zA3 (by rfl))) (xT9 (K:=K) rfl rfl (zC7 (zA9 (i:=1) nd rfl (Or.inl rfl)) (zC7 (zA9 (i:=2) nd rfl (Or.inl rfl)) zK4))))
   (@zA4 _ _ _ _ _ (zN3 ["_law_place"] [] [] (i:=3) nd rfl rfl rfl (by rfl) (zD5 (K:=K) rfl (pv 1)) (fun _ _ _ _=>(zA9 (i:=0) (show List.Nodup (["_law_place"]:List Str) from by decide) rfl (Or.inl rfl))) (fun _ _ _ _=>(zS8 (zC1 zT0 (zB4 (zA7 (K:=K) rfl) (pv 0) zA2 (fun _ _=>rfl)) zF3 (zD3 _)))) (fun _ _ _ _=>(zB4 (zA7 (K:=K) rfl) (pv 0) zA2 (fun _ _=>rfl))))
   (@zA4 _ _ _ _ _ (@zB1 _ _ 4 _ _ _ _ nd rfl (Or.inl rfl) (zB7 G_long_run hr (by rfl) zB8 (@zA0 _ _ _ _ _ (pv 1) (@zA0 _ _ _ _ _ (pv 2) zA3 (by rfl)) (by rfl))) (by rfl) (Or.inl rfl))
   (@zA4 _ _ _ _ _ (zK2 (PW.pt (yI1 (yI2 (zU1 (zC9 (zP1 (K:=K) rfl) (by rfl) T.z_isinstance zJ5 (@zA0 _ _ _ _ _ (pv 4) (@zA0 _ _ _ _ _ (zW8 (v:=.ty "tuple") (by rfl) T.z_tuple yF4 rfl) zA3 (by rfl)) (by rfl))))) (yI1 (zC1 yV7 (zC9 (zF0 (K:=K) rfl) (by rfl) T.z_len PySem.boot_len (@zA0 _ _ _ _ _ (pv 4) zA3 (by rfl))) zA2 (zD3 _)) (yI1 (yI2 (zU1 (zC9 (zP1 (K:=K) rfl) (by rfl) T.z_isinstance zJ5 (@zA0 _ _ _ _ _ (zB4 (zA7 (K:=K) rfl) (pv 4) zA2 (fun _ _=>rfl)) (@zA0 _ _ _ _ _ (zW8 (v:=.ty "tuple") (by rfl) T.z_tuple yF4 rfl) zA3 (by rfl)) (by rfl))))) (yR5 (zC1 yV7 (zC9 (zF0 (K:=K) rfl) (by rfl) T.z_len PySem.boot_len (@zA0 _ _ _ _ _ (zB4 (zA7 (K:=K) rfl) (pv 4) zA2 (fun _ _=>rfl)) zA3 (by rfl))) zA2 (zD3 _))))))) (@zA6 _ _ _ (zC0 zY9)) zE1)
   (@zA4 _ _ _ _ _ (yR6 (zB4 (zA7 (K:=K) rfl) (pv 4) zA2 (fun _ _=>rfl)) (zP9 rfl (zC7 (zA9 (i:=5) nd rfl (Or.inl rfl)) (zC7 (zA9 (i:=6) nd rfl (Or.inl rfl)) zK4))))
   (@zA4 _ _ _ _ _ (zK2 (PW.pt (yI1 (yI2 (zU1 (zB7 G__law_whole hr (by rfl) zB8 (@zA0 _ _ _ _ _ (pv 5) zA3 (by rfl))))) (yI1 (zC1 xH5 (pv 5) zA2 (zD3 _)) (yI1 (zC1 xH6 (pv 5) (zC9 (zF0 (K:=K) rfl) (by rfl) T.z_len PySem.boot_len (@zA0 _ _ _ _ _ (pv 3) zA3 (by rfl))) (zD3 _)) (yR5 (yI2 (zU1 (zB7 G__law_alike hr (by rfl) zB8 (@zA0 _ _ _ _ _ (pv 6) (@zA0 _ _ _ _ _ (zB7 G__law_most hr (by rfl) zB8 (@zA0 _ _ _ _ _ (pv 1) (@zA0 _ _ _ _ _ (pv 2) (@zA0 _ _ _ _ _ (pv 3) (@zA0 _ _ _ _ _ (pv 5) zA3 (by rfl)) (by rfl)) (by rfl)) (by rfl))) zA3 (by rfl)) (by rfl)))))))))) (@zA6 _ _ _ (zC0 zY9)) zE1)
   (@zA4 _ _ _ _ _ (zK2 (zC1 xZ8 (zB4 (zA7 (K:=K) rfl) (pv 6) zA2 (fun _ _=>rfl)) (zB4 (zA7 (K:=K) rfl) (pv 6) zA2 (fun _ _=>rfl)) (zD3 _)) (@zA6 _ _ _ (zC0 zY9)) zE1)
   (@zA4 _ _ _ _ _ (zD6 PassesOwn.never rfl (yI4 (by rfl) T.z_range (@zA0 _ _ _ _ _ zA2 (@zA0 _ _ _ _ _ (pv 5) zA3 (by rfl)) (by rfl))) (zA9 (i:=7) nd rfl (Or.inl rfl)) (@zA6 _ _ _ (zK2 (zC1 (zQ5 (K:=K) rfl hr) (zB7 G__law_most hr (by rfl) zB8 (@zA0 _ _ _ _ _ (pv 1) (@zA0 _ _ _ _ _ (pv 2) (@zA0 _ _ _ _ _ (pv 3) (@zA0 _ _ _ _ _ (pv 7) zA3 (by rfl)) (by rfl)) (by rfl)) (by rfl))) (@zC3 _ _ _ _ _ (@zA0 _ _ _ _ _ zA2 (@zA0 _ _ _ _ _ zA2 zA3 (by rfl)) (by rfl))) (zD3 _)) (@zA6 _ _ _ (zC0 zY9)) zE1)))
   (@zA4 _ _ _ _ _ (@zB1 _ _ 8 _ _ _ _ nd rfl (Or.inl rfl) zF4 (by rfl) (Or.inl rfl))
   (@zA4 _ _ _ _ _ (@zB1 _ _ 9 _ _ _ _ nd rfl (Or.inl rfl) zF4 (by rfl) (Or.inl rfl))
   (@zA4 _ _ _ _ _ (zD6 PassesOwn.never rfl (zH3 (by rfl) T.z_range (@zA0 _ _ _ _ _ (zC9 (zF0 (K:=K) rfl) (by rfl) T.z_len PySem.boot_len (@zA0 _ _ _ _ _ (pv 3) zA3 (by rfl))) zA3 (by rfl))) (zA9 (i:=10) nd rfl (Or.inl rfl)) (@zA4 _ _ _ _ _ (zF1 (zE2 hr) (pv 8) (zB4 (zD4 (K:=K) rfl) (pv 3) (pv 10) (fun _ _=>rfl)) (@zC3 _ _ _ _ _ (@zA0 _ _ _ _ _ (@zB6 _ _ _ _ _ _ _ _ zE0 (zB7 G__law_cell_at hr (by rfl) zB8 (@zA0 _ _ _ _ _ (pv 0) (@zA0 _ _ _ _ _ (@zB6 _ _ _ _ _ _ _ _ zJ1 zA2 (pv 10)) zA3 (by rfl)) (by rfl))) (@zB6 _ _ _ _ _ _ _ _ yI7 zA2 zA2)) (@zA0 _ _ _ _ _ zA2 zA3 (by rfl)) (by rfl))) rfl)
   (@zA6 _ _ _ (zF1 (zE2 hr) (pv 9) (zB4 (zD4 (K:=K) rfl) (pv 3) (pv 10) (fun _ _=>rfl)) (@zC3 _ _ _ _ _ (@zA0 _ _ _ _ _ (@zB6 _ _ _ _ _ _ _ _ zE0 (zB7 G__law_cell_at hr (by rfl) zB8 (@zA0 _ _ _ _ _ (pv 0) (@zA0 _ _ _ _ _ (@zB6 _ _ _ _ _ _ _ _ zJ1 zA2 (pv 10)) zA3 (by rfl)) (by rfl))) (@zB6 _ _ _ _ _ _ _ _ yI7 zA2 zA2)) (@zA0 _ _ _ _ _ zA2 zA3 (by rfl)) (by rfl))) rfl))))
   (@zA4 _ _ _ _ _ (@zB1 _ _ 11 _ _ _ _ nd rfl (Or.inl rfl) (@zB6 _ _ _ _ _ _ _ _ zE0 (zB7 G__law_mixed hr (by rfl) zB8 (@zA0 _ _ _ _ _ (zB7 G__law_cell_at hr (by rfl) zB8 (@zA0 _ _ _ _ _ (pv 0) (@zA0 _ _ _ _ _ zA2 zA3 (by rfl)) (by rfl))) zA3 (by rfl))) zA2) (by rfl) (Or.inl rfl))
   (@zA4 _ _ _ _ _ (@zB1 _ _ 12 _ _ _ _ nd rfl (Or.inl rfl) (zB7 G__law_apart hr (by rfl) zB8 (@zA0 _ _ _ _ _ (pv 8) (@zA0 _ _ _ _ _ (pv 9) zA3 (by rfl)) (by rfl))) (by rfl) (Or.inl rfl))
   (@zA4 _ _ _ _ _ (zD6 PassesOwn.never rfl (zH3 (by rfl) T.z_range (@zA0 _ _ _ _ _ (@zB6 _ _ _ _ _ _ _ _ zD1 (pv 11) (pv 5)) zA3 (by rfl))) (zA9 (i:=10) nd rfl (Or.inl rfl)) (@zA6 _ _ _ (@zB1 _ _ 12 _ _ _ _ nd rfl (Or.inl rfl) (zB7 G__law_times hr (by rfl) zB8 (@zA0 _ _ _ _ _ (pv 12) (@zA0 _ _ _ _ _ (pv 6) zA3 (by rfl)) (by rfl))) (by rfl) (Or.inl rfl))))
   (@zA4 _ _ _ _ _ (@zB1 _ _ 13 _ _ _ _ nd rfl (Or.inl rfl) (zB7 G__law_apart hr (by rfl) zB8 (@zA0 _ _ _ _ _ (zB7 G__law_rounds hr (by rfl) zB8 (@zA0 _ _ _ _ _ (pv 1) (@zA0 _ _ _ _ _ (pv 2) (@zA0 _ _ _ _ _ (pv 8) (@zA0 _ _ _ _ _ (pv 11) zA3 (by rfl)) (by rfl)) (by rfl)) (by rfl))) (@zA0 _ _ _ _ _ (zB7 G__law_rounds hr (by rfl) zB8 (@zA0 _ _ _ _ _ (pv 1) (@zA0 _ _ _ _ _ (pv 2) (@zA0 _ _ _ _ _ (pv 9) (@zA0 _ _ _ _ _ (pv 11) zA3 (by rfl)) (by rfl)) (by rfl)) (by rfl))) zA3 (by rfl)) (by rfl))) (by rfl) (Or.inl rfl))
   (@zA6 _ _ _ (zC0 (yM8 xZ7 (@zB6 _ _ _ _ _ _ _ _ zG5 (zB4 (zA7 (K:=K) rfl) (pv 13) zA2 (fun _ _=>rfl)) (zB4 (zA7 (K:=K) rfl) (pv 12) zA2 (fun _ _=>rfl))) (@zB6 _ _ _ _ _ _ _ _ zG5 (zB4 (zA7 (K:=K) rfl) (pv 12) zA2 (fun _ _=>rfl)) (zB4 (zA7 (K:=K) rfl) (pv 13) zA2 (fun _ _=>rfl))) (zD3 _))))))))))))))))))),?_⟩
  refine ⟨_,rfl,a,ns,rfl,hS,fun p0 H1 ah as xs ps ys ss s1 hp0 hA hP ok hck hc5 hT hY hO h15 hlk=>?_⟩
  refine ⟨p0,_,rfl,SqL.of hp0,rfl,_,_,rfl,_,_,rfl,rfl,?_⟩
  have hOs:∀ s ∈ ss,OkS (allN ps) s:=fun s hs=>(hO s hs).1
  have G:=zE3 ok.nd hOs
  have l8:(allN ps).length <= 8:=by unfold allN; rw [List.length_map]; exact ok.len
  have hCL:∀ x ∈ ckN ps,x ∈ allN ps:=fun x hx=>zJ7 hx
  have SC:=G.sub ok.ck ok.nd hCL
  have P0:=zG4 ss
  have P100:=zL8 hO h15
  have hS1:=s1.seq hS
  have hlenP:xs.length = ps.length:=hP.length
  refine ⟨_,rfl,ah,rfl,⟨_,SqL.of hA⟩,fun pn hpn=>?_⟩
  refine zJ2 (xs:=xs) (fun j σ' H'=>∃ (v:Option V),σ' = [v] /\ Same H1 H' /\ H' pn = some (.lst ((ckN (ps.take j)).map V.str))) ⟨none,rfl,Same.upd hpn,zA1⟩ ?_ ?_ ?_
  ·rintro j σ' H' hj ⟨v,rfl,s2,hd⟩
   exact SqL.of (s2 _ _ hA)
  ·rintro j y σ' H' hy ⟨v,rfl,s2,hd⟩
   obtain ⟨p,hp,pv⟩:=zC4 hP hy
   obtain ⟨b,ys',rfl,hb,e0,e1⟩:=pv.at
   refine ⟨_,rfl,b,_,_,_,rfl,rfl,SqT.of (s2 _ _ hb),e0,rfl,_,rfl,?_⟩
   cases hc:isC p with
   | true =>
    refine zO2 rfl ?_
    refine ⟨_,rfl,b,_,_,_,rfl,rfl,SqT.of (s2 _ _ hb),e1,_,hd,?_,_,rfl,s2.updD hpn,?_⟩
    ·have h1:=yA6 (ps:=ps.take j)
     rw [List.length_take] at h1
     rw [List.length_map]
     have:=ok.len
     exact sz (by omega)
    ·unfold ckN
     rw [zA1,zC2 hp,List.filter_append,List.map_append,List.map_append]
     simp [hc]
   | false =>
    refine zM1 (by decide +kernel) ?_
    refine ⟨_,rfl,s2,?_⟩
    rw [hd]
    unfold ckN
    rw [zC2 hp,List.filter_append]
    simp [hc]
  rintro σ' H10 ⟨v,rfl,s10,hn10⟩
  rw [hlenP,List.take_length] at hn10
  have hP10:=zB9 hP s10
  have hY10:=zD0 hY s10
  have hA10:=s10 _ _ hA
  have hT10:=s10 _ _ hT
  have hS10:=s10.seq hS1
  show Ends.nx _ [some (.ref a),some (.ref ah),some (.ref as),some (.ref pn),none,none,none,none,none,none,none,none,none,none] _
  refine ⟨_,rfl,_,rfl,ah,as,xs,ps,ys,ss,rfl,SqL.of hA10,hP10,ok,hck,hc5,SqL.of hT10,hY10,hO,h15,?_,?_⟩
  ·intro pt H8 l zs2 hpt s8 hl nlp h8 hl8 nz2 mz2 st2 ne2
   exfalso
   cases e:zs2 with
   | nil=>exact ne2 e
   | cons z l =>
    have:=(mz2 z).mp (by rw [e]; exact List.mem_cons_self)
    exact this.2 (hlk z this.1)
  intro _ pt H8 pq pd f r kk kv X hpt s8 h8 hd0 hd8 rX eX bX hq8 fr k1 k2 hle hex hr1 hall
  have hn8:=s8 _ _ hn10
  have hA8:=s8 _ _ hA10
  have hT8:=s8 _ _ hT10
  have hP8:=zB9 hP10 s8
  have hY8:=zD0 hY10 s8
  have hS8:=s8.seq hS10
  have ty:tyS H8 (.ref pt) = some "tuple":=by show tyH (H8 pt) = _; rw [h8]; rfl
  have tyq:tyS H8 (.ref pq) = some "tuple":=by show tyH (H8 pq) = _; rw [hq8]; rfl
  have hh8:∀ {Hx:Hp},Same H8 Hx->HsV K Hx ah as xs ps ys ss:=fun sx=>⟨sx _ _ hA8,zB9 hP8 sx,ok,hc5,sx _ _ hT8,zD0 hY8 sx,hO,h15⟩
  refine ⟨_,rfl,_,_,_,_,rfl,zV5 ty,yJ4 (by decide) (by decide),_,rfl,?_⟩
  refine iteF ?_
  refine ⟨_,rfl,_,_,rfl,.inr ⟨_,SqT.of h8,rfl⟩,rfl,_,rfl,?_⟩
  refine iteF ?_
  refine ⟨_,rfl,pt,_,_,_,rfl,rfl,SqT.of h8,rfl,_,_,_,_,rfl,zV5 tyq,yJ4 (by decide) (by decide),_,rfl,?_⟩
  refine iteF ?_
  refine ⟨_,rfl,pt,_,_,_,rfl,rfl,SqT.of h8,rfl,_,_,rfl,.inr ⟨_,SqT.of hq8,rfl⟩,rfl,_,rfl,?_⟩
  refine iteF ?_
  refine ⟨_,rfl,pt,_,_,_,rfl,rfl,SqT.of h8,rfl,pq,_,rfl,SqT.of hq8,rfl,_,_,rfl,_,_,rfl,rfl,?_⟩
  show Ends.nx _ [some (.ref a),some (.ref ah),some (.ref as),some (.ref pn),some (.ref pt),some (.int (kk:Nat)),some f,none,none,none,none,none,none,none] _
  obtain ⟨xr,hxr,exr⟩:=hex
  have r0:0 <= r:=by rw [<- exr]; exact yB4 SC kk xr hxr
  have er:yE4 (ckN ps) (stay (ckN ps) (back ss) kk) = r:=yS3 r0 hle ⟨xr,hxr,exr⟩
  have k5:kk <= 5:=by omega
  have br:Bd 501 r:=by
   rw [<- exr]
   refine (zQ9 G ok.ck ok.nd hCL kk xr hxr).bd (n:=501) (Nat.pow_pos P0) (Nat.le_refl _) ?_
   rw [Nat.one_mul]
   have h1:zC5 ss ^ kk <= (2 ^ 100) ^ kk:=Nat.pow_le_pow_left P100 kk
   rw [<- Nat.pow_mul] at h1
   exact Nat.lt_of_le_of_lt h1 (Nat.pow_lt_pow_right (by decide) (by omega))
  refine ⟨_,rfl,_,"int",rfl,rfl,_,rfl,?_⟩
  refine iteF ?_
  refine ⟨_,rfl,_,_,rfl,rfl,_,rfl,?_⟩
  refine ite2 (fun q=>absurd (of_decide_eq_true q) (by omega)) (fun _=>?_)
  refine ⟨_,rfl,_,rfl,_,_,rfl,.inl ⟨_,SqL.of hn8,rfl⟩,_,_,rfl,rfl,_,rfl,?_⟩
  rw [List.length_map]
  refine ite2 (fun q=>absurd (of_decide_eq_true q) (by omega)) (fun _=>?_)
  refine ⟨_,rfl,_,rfl,_,rfl,_,rfl,_,rfl,ah,as,pn,xs,ps,ys,ss,kk,rfl,hh8 (Same.refl _),hn8,k5,fun w1 H9 s9 f9=>?_⟩
  rw [er] at f9
  refine ⟨_,_,r,r,rfl,fr.same s9,f9,_,rfl,?_⟩
  rw [decide_eq_true rfl]
  refine iteF ?_
  have fr9:=fr.same s9
  obtain ⟨cs,rfl,hcs⟩:=id fr9
  refine ⟨_,rfl,cs,_,_,_,rfl,rfl,SqT.of hcs,rfl,_,rfl,cs,_,_,_,rfl,rfl,SqT.of hcs,rfl,_,_,rfl,rfl,_,rfl,?_⟩
  have hlt:r.num < (r.den:Int):=by
   have:=(Rat.lt_iff r 1).mp hr1
   simpa using this
  refine ite2 (fun q=>absurd (of_decide_eq_true q) (by omega)) (fun _=>?_)
  show Ends.nx _ [some (.ref a),some (.ref ah),some (.ref as),some (.ref pn),some (.ref pt),some (.int (kk:Nat)),some (.ref cs),none,none,none,none,none,none,none] _
  have hn9:=s9 _ _ hn8
  refine ⟨_,rfl,_,_,rfl,⟨by decide,by decide,by omega,by omega⟩,?_⟩
  refine zH4 (fun i σ H'=>∃ (v7:Option V),σ = [some (.ref a),some (.ref ah),some (.ref as),some (.ref pn),some (.ref pt),some (.int (kk:Nat)),some (.ref cs),v7,none,none,none,none,none,none] /\ Same H9 H') ⟨none,rfl,Same.refl _⟩ ?_ ?_
  ·rintro i σ H' hi ⟨v7,rfl,s11⟩
   have hi:1 + i < kk:=by omega
   refine ⟨_,rfl,_,rfl,_,rfl,_,rfl,ah,as,pn,xs,ps,ys,ss,1 + i,?_,hh8 (s9.trans s11),s11 _ _ hn9,by omega,fun w2 H12 s12 f12=>?_⟩
   ·rw [Int.natCast_add]; rfl
   have e1:yE4 (ckN ps) (stay (ckN ps) (back ss) (1 + i)) = 1:=yS3 (by decide) (fun x hx=>zN7 SC _ x hx) (hall _ hi)
   rw [e1] at f12
   refine ⟨sz (by simp),fun t1 ht1=>?_⟩
   have u1:=Same.upd (o:=.tup [.int 1,.int 1]) ht1
   have rw2:=(f12.same u1).rep (K:=K)
   refine ⟨_,_,rw2,(FrV.newOf (H:=H12) (p:=t1) (t:=1) (b:=1) (r:=1) rfl rfl).rep,zN8 _ _,_,rfl,?_⟩
   rw [PySem.SeqAt.eqv_refl _ rw2.lay]
   refine iteF ?_
   exact ⟨_,rfl,s11.trans (s12.trans u1)⟩
  rintro σ H13 ⟨v7,rfl,s13⟩
  intro p8 hp8
  show Ends.nx _ [some (.ref a),some (.ref ah),some (.ref as),some (.ref pn),some (.ref pt),some (.int (kk:Nat)),some (.ref cs),v7,some (.ref p8),none,none,none,none,none] _
  intro p9 hp9
  have t8:=Same.upd (o:=.dK []) hp8
  have t9:=Same.upd (o:=.dK []) hp9
  have n98:p9 ≠ p8:=fun e=>by rw [e,zA1] at hp9; cases hp9
  have hp93:H13 p9 = none:=by rw [upd_ne n98] at hp9; exact hp9
  have s14:=t8.trans t9
  have h8a:upd (upd H13 p8 (.dK [])) p9 (.dK []) p8 = some (.dK []):=t9 _ _ zA1
  have h9a:upd (upd H13 p8 (.dK [])) p9 (.dK []) p9 = some (.dK []):=zA1
  generalize upd (upd H13 p8 (.dK [])) p9 (.dK []) = H14 at *
  show Ends.nx _ [some (.ref a),some (.ref ah),some (.ref as),some (.ref pn),some (.ref pt),some (.int (kk:Nat)),some (.ref cs),v7,some (.ref p8),some (.ref p9),none,none,none,none] _
  have s813:=s9.trans s13
  have hn13:=s13 _ _ hn9
  have hS13:=s813.seq hS8
  refine ⟨_,rfl,_,_,rfl,.inl ⟨_,SqL.of (s14 _ _ hn13),rfl⟩,_,rfl,by omega,by rw [List.length_map]; omega,?_⟩
  refine zH4 (fun i σ H'=>∃ (v10:Option V) (k8 k9:List (Key × V)) (f8 f9:Str->Rat),σ = [some (.ref a),some (.ref ah),some (.ref as),some (.ref pn),some (.ref pt),some (.int (kk:Nat)),some (.ref cs),v7,some (.ref p8),some (.ref p9),v10,none,none,none] /\ Same H13 H' /\ H' p8 = some (.dK k8) /\ H' p9 = some (.dK k9) /\ RowAt H' k8 (all ((ckN ps).take i) f8) /\ RowAt H' k9 (all ((ckN ps).take i) f9) /\ ∀ z ∈ (ckN ps).take i,Cd 1 (2 ^ 30) (f8 z) /\ Cd 1 (2 ^ 30) (f9 z)) ⟨none,[],[],fun _=>0,fun _=>0,rfl,s14,h8a,h9a,?_,?_,?_⟩ ?_ ?_
  ·exact RowAt.nil _
  ·exact RowAt.nil _
  ·intro z hz; cases hz
  ·rintro i σ H' hi ⟨v10,k8,k9,f8,f9,rfl,s15,g8,g9,r8,r9,hcd⟩
   have hi:i < (ckN ps).length:=by simpa using hi
   obtain ⟨z,hz⟩:∃ z,(ckN ps)[i]? = some z:=⟨_,List.getElem?_eq_getElem hi⟩
   have hat:atI ((ckN ps).map V.str) (0 + (i:Int)) = some (.str z):=by rw [Int.zero_add]; exact yA9 hz
   have hn15:=s15 _ _ hn13
   have hS15:=s15.seq hS13
   have l8':k8.length <= 5:=by
    have:=r8.len' fun y hy=>List.mem_of_mem_take (all_some.mp hy)
    omega
   have l9':k9.length <= 5:=by
    have:=r9.len' fun y hy=>List.mem_of_mem_take (all_some.mp hy)
    omega
   refine ⟨_,rfl,_,rfl,_,_,rfl,rfl,a,ns,_,rfl,hS15,by omega,fun c1=>⟨_,_,rfl,rfl,⟨by decide,by decide,by decide⟩,_,_,rfl,rfl,(by rw [yR8]; show (_:Int) ≠ 0; decide),sz (by simp),fun t1 ht1=>?_⟩⟩
   have u1:=Same.upd (o:=.tup [.int (c1.fmod ((10:Int) ^ (9:Int).toNat)),.int 1]) ht1
   have fr1:FrV (upd H' t1 (.tup [.int (c1.fmod ((10:Int) ^ (9:Int).toNat)),.int 1])) (.ref t1) ((c1.fmod 1000000000:Int):Rat):=FrV.newOf (by rw [yR8]; rfl) rfl
   have g81:=u1 _ _ g8
   refine ⟨_,rfl,_,rfl,_,rfl,pn,_,_,_,rfl,rfl,SqL.of (u1 _ _ hn15),hat,p8,upd _ p8 (.dK (putK k8 (.inr z) (.ref t1))),rfl,DPut.k (k:=.inr z) g81 (sz (by omega)),?_⟩
   have tu1:=zC8 (o:=.dK (putK k8 (.inr z) (.ref t1))) g81 (fun _ z=>nomatch z)
   have r8b:=((r8.same fun v r f=>f.same u1).put (z:=z) fr1).same fun v r f=>f.tup tu1
   have r9b:=(r9.same fun v r f=>f.same u1).same fun v r f=>f.tup tu1
   rw [yU3 hz] at r8b
   have s16:=(s15.trans u1).updD (o:=.dK (putK k8 (.inr z) (.ref t1))) hp8
   have g9b:=u1 _ _ g9
   rw [<- upd_ne (H:=upd H' t1 (.tup [.int (c1.fmod ((10:Int) ^ (9:Int).toNat)),.int 1])) (o:=.dK (putK k8 (.inr z) (.ref t1))) n98] at g9b
   have g8b:=zA1 (H:=upd H' t1 (.tup [.int (c1.fmod ((10:Int) ^ (9:Int).toNat)),.int 1])) (a:=p8) (o:=.dK (putK k8 (.inr z) (.ref t1)))
   generalize upd (upd H' t1 (.tup [.int (c1.fmod ((10:Int) ^ (9:Int).toNat)),.int 1])) p8 (.dK (putK k8 (.inr z) (.ref t1))) = H16 at *
   generalize putK k8 (.inr z) (.ref t1) = k8b at *
   have hn16:=s16 _ _ hn13
   have hS16:=s16.seq hS13
   refine ⟨_,rfl,_,rfl,_,_,rfl,rfl,a,ns,_,rfl,hS16,by omega,fun c2=>⟨_,_,rfl,rfl,⟨by decide,by decide,by decide⟩,_,_,rfl,rfl,(by rw [yR8]; show (_:Int) ≠ 0; decide),sz (by simp),fun t2 ht2=>?_⟩⟩
   have u2:=Same.upd (o:=.tup [.int (c2.fmod ((10:Int) ^ (9:Int).toNat)),.int 1]) ht2
   have fr2:FrV (upd H16 t2 (.tup [.int (c2.fmod ((10:Int) ^ (9:Int).toNat)),.int 1])) (.ref t2) ((c2.fmod 1000000000:Int):Rat):=FrV.newOf (by rw [yR8]; rfl) rfl
   have g92:=u2 _ _ g9b
   refine ⟨_,rfl,_,rfl,_,rfl,pn,_,_,_,rfl,rfl,SqL.of (u2 _ _ hn16),hat,p9,upd _ p9 (.dK (putK k9 (.inr z) (.ref t2))),rfl,DPut.k (k:=.inr z) g92 (sz (by omega)),?_⟩
   have tu2:=zC8 (o:=.dK (putK k9 (.inr z) (.ref t2))) g92 (fun _ z=>nomatch z)
   have r9c:=((r9b.same fun v r f=>f.same u2).put (z:=z) fr2).same fun v r f=>f.tup tu2
   have r8c:=(r8b.same fun v r f=>f.same u2).same fun v r f=>f.tup tu2
   rw [yU3 hz] at r9c
   refine ⟨_,_,_,_,_,rfl,(s16.trans u2).updD hp93,by rw [upd_ne n98.symm]; exact u2 _ _ g8b,zA1,r8c,r9c,fun y hy=>?_⟩
   show Cd 1 (2 ^ 30) (if y = z then _ else f8 y) /\ Cd 1 (2 ^ 30) (if y = z then _ else f9 y)
   by_cases q:y = z
   ·rw [if_pos q,if_pos q]
    exact ⟨xX3 c1,xX3 c2⟩
   ·rw [if_neg q,if_neg q]
    rw [zC2 hz] at hy
    rcases List.mem_append.mp hy with hy | hy
    ·exact hcd y hy
    ·exact absurd (List.mem_singleton.mp hy) q
  rintro σ H15 ⟨v10,k8,k9,f8,f9,rfl,s15,g8,g9,r8,r9,hcd⟩
  have eL:(((ckN ps).map V.str).length:Int).toNat = (ckN ps).length:=by rw [List.length_map]; simp
  rw [eL,List.take_length] at r8 r9 hcd
  have hS15:=s15.seq hS13
  refine ⟨_,rfl,a,ns,24,rfl,hS15,by decide,fun c0=>⟨c0,rfl,fun m m0 m1=>⟨_,_,rfl,rfl,(show (7:Int) ≠ 0 by decide),?_⟩⟩⟩
  have q7:=zE5 (c:=m) (m:=7) (by decide)
  obtain ⟨n0,en⟩:=Int.eq_ofNat_of_zero_le q7.1
  have n6:n0 <= 6:=by omega
  show Ends.nx _ [some (.ref a),some (.ref ah),some (.ref as),some (.ref pn),some (.ref pt),some (.int (kk:Nat)),some (.ref cs),v7,some (.ref p8),some (.ref p9),v10,some (.int (m.fmod 7)),none,none] _
  rw [en]
  refine ⟨_,rfl,_,rfl,p8,p9,k8,k9,ckN ps,f8,f9,1,2 ^ 30,rfl,g8,g9,ok.ck,hc5,r8,r9,by decide,by decide,Nat.pow_le_pow_right (by decide) (by decide),hcd,fun u16 H16 s16 f16=>?_⟩
  show Ends.nx _ [some (.ref a),some (.ref ah),some (.ref as),some (.ref pn),some (.ref pt),some (.int (kk:Nat)),some (.ref cs),v7,some (.ref p8),some (.ref p9),v10,some (.int (n0:Nat)),some u16,none] _
  let d0:Rat:=farL (ckN ps) fun z=>f8 z - f9 z
  have f16:FrV H16 u16 d0:=f16
  have cfar:∀ {E W:Nat} {f g:Str->Rat},(∀ z ∈ ckN ps,Cd E W (f z) /\ Cd E W (g z))->Cd E (16 * W) (farL (ckN ps) fun z=>f z - g z):=fun {E W f g} h=>by
   refine (zY1 (l:=ckN ps) fun z hz=>yP4 (((h z hz).1).sub (h z hz).2)).mono ?_
   have:=Nat.mul_le_mul_right (W + W) hc5
   omega
  have bd0:Bd 40 d0:=((cfar hcd).bd (s:=34) (by decide) (by decide) (by decide)).mono (by decide)
  have k0:(0:Int) < (kk:Nat):=by omega
  obtain ⟨nk,hnk⟩:∃ nk,nk = n0 / kk:=⟨_,rfl⟩
  have ed:((n0:Nat):Int).fdiv ((kk:Nat):Int) = ((nk:Nat):Int):=by
   rw [Int.fdiv_eq_ediv_of_nonneg _ (by omega),hnk]; rfl
  have nk6:nk <= 6:=by rw [hnk]; exact Nat.le_trans (Nat.div_le_self _ _) n6
  refine ⟨_,rfl,_,rfl,_,_,rfl,rfl,⟨by omega,log2_lt (Nat.lt_of_le_of_lt (m:=5) (by omega) (by decide)) (by decide)⟩,_,rfl,by rw [ed]; omega,by rw [ed]; omega,?_⟩
  rw [ed]
  refine zH4 (fun i σ H'=>∃ (v10:Option V) (w12:V),σ = [some (.ref a),some (.ref ah),some (.ref as),some (.ref pn),some (.ref pt),some (.int (kk:Nat)),some (.ref cs),v7,some (.ref p8),some (.ref p9),v10,some (.int (n0:Nat)),some w12,none] /\ Same H16 H' /\ FrV H' w12 (d0 * r ^ i)) ⟨_,u16,rfl,Same.refl _,?_⟩ ?_ ?_
  ·rw [Rat.pow_zero,Rat.mul_one]; exact f16
  ·rintro i σ H' hi ⟨v10,w12,rfl,s17,f17⟩
   have hi:i < nk:=by simpa using hi
   have frx:FrV H' (.ref cs) r:=fr9.same (s13.trans (s15.trans (s16.trans s17)))
   refine ⟨_,rfl,_,rfl,_,_,d0 * r ^ i,r,rfl,f17,frx,(bd0.mul (Bd.powN br (by decide) i)).mono (by omega),br.mono (by decide),fun w H2 s2 f2=>?_⟩
   refine ⟨_,w,rfl,s17.trans s2,?_⟩
   have f2:FrV H2 w (d0 * r ^ i * r):=f2
   rw [Rat.pow_succ,<- Rat.mul_assoc]; exact f2
  rintro σ H17 ⟨v10',w12,rfl,s17,f17⟩
  have e17:((nk:Nat):Int).toNat = nk:=by simp
  rw [e17] at f17
  have s1517:=s16.trans s17
  have s817:=s813.trans (s15.trans s1517)
  have cdr:=fun (f:Str->Rat) (h:∀ z ∈ ckN ps,Cd 1 (2 ^ 30) (f z))=>xT2 ok.nd l8 hO h15 hCL h n0
  have c8:=cdr f8 fun z hz=>(hcd z hz).1
  have c9:=cdr f9 fun z hz=>(hcd z hz).2
  have wle:rW ss n0 <= 2 ^ 1500:=Nat.le_trans (xO8 P100 n0) (Nat.pow_le_pow_right (by decide) (by omega))
  refine ⟨_,rfl,_,rfl,_,rfl,_,rfl,ah,as,p8,xs,ps,ys,ss,k8,f8,n0,rfl,hh8 s817,s1517 _ _ g8,r8.same (fun v r f=>f.same s1517),n6,(fun z hz=>(hcd z hz).1),fun p18 H18 kv18 s18 g18 r18=>?_⟩
  have s1518:=s1517.trans s18
  refine ⟨_,rfl,_,rfl,_,rfl,_,rfl,ah,as,p9,xs,ps,ys,ss,k9,f9,n0,rfl,hh8 (s817.trans s18),s1518 _ _ g9,r9.same (fun v r f=>f.same s1518),n6,(fun z hz=>(hcd z hz).2),fun p19 H19 kv19 s19 g19 r19=>?_⟩
  refine ⟨p18,p19,kv18,kv19,ckN ps,_,_,rE ss n0,rW ss n0,rfl,s19 _ _ g18,g19,ok.ck,hc5,r18.same (fun v r f=>f.same s19),r19,yR4 ss n0,yZ9 ss n0,wle,(fun z hz=>⟨c8 z hz,c9 z hz⟩),fun u20 H20 s20 f20=>?_⟩
  have bfar:=((cfar fun z hz=>⟨c8 z hz,c9 z hz⟩).bd (s:=4 + 1500) (yR4 ss n0) (by have:=yZ9 ss n0; omega) (by rw [Nat.pow_add]; exact Nat.mul_le_mul_left _ wle)).mono (show 4 + 1500 + 1 <= 4000 by decide)
  have efar:(farL (ckN ps) fun z=>rndQ (ckN ps) (allN ps) ss f8 n0 z - rndQ (ckN ps) (allN ps) ss f9 n0 z) = farL (ckN ps) (mass (ckN ps) (back ss) (fun z=>f8 z - f9 z) n0):=zC6 fun z hz=>by
   show absR (_ - _) = _
   rw [yR0 ok.nd ok.ck hCL hOs f8 f9 n0 z hz]
  rw [efar] at f20 bfar
  have hfin:farL (ckN ps) (mass (ckN ps) (back ss) (fun z=>f8 z - f9 z) n0) <= d0 * r ^ nk:=by
   rw [hnk]
   have:=yT5 SC r0 hle (n0 / kk) (n0 % kk) fun z=>f8 z - f9 z
   rw [Nat.mul_comm,Nat.div_add_mod,Rat.mul_comm] at this
   exact this
  have bdue:Bd 4000 (d0 * r ^ nk):=(bd0.mul (Bd.powN br (by decide) nk)).mono (by omega)
  have fdue:=f17.same (s18.trans (s19.trans s20))
  generalize farL (ckN ps) (mass (ckN ps) (back ss) (fun z=>f8 z - f9 z) n0) = far at *
  generalize d0 * r ^ nk = due at *
  obtain ⟨c20,rfl,hc20⟩:=id f20
  obtain ⟨c12,rfl,hc12⟩:=id fdue
  show Ends.nx _ [some (.ref a),some (.ref ah),some (.ref as),some (.ref pn),some (.ref pt),some (.int (kk:Nat)),some (.ref cs),v7,some (.ref p8),some (.ref p9),v10',some (.int (n0:Nat)),some (.ref c12),some (.ref c20)] _
  refine ⟨_,rfl,c20,_,_,_,rfl,rfl,SqT.of hc20,rfl,_,rfl,c12,_,_,_,rfl,rfl,SqT.of hc12,rfl,_,_,rfl,rfl,zE9 4000 bfar.num bdue.den (by decide),_,rfl,c12,_,_,_,rfl,rfl,SqT.of hc12,rfl,_,rfl,c20,_,_,_,rfl,rfl,SqT.of hc20,rfl,_,_,rfl,rfl,zE9 4000 bdue.num bfar.den (by decide),_,_,rfl,rfl,?_⟩
  show Q (V.bl (decide (far.num * ((due.den:Nat):Int) <= due.num * ((far.den:Nat):Int)))) _
  rw [decide_eq_true ((Rat.le_iff far due).mp hfin)]
  exact k _
end
end T48
namespace T48
open PySem L2 Tc
theorem all_mk {l:PySem.W.OpenLaw} {w:World} {K:PySem.W.Frag} {h:Heap} {mg:Str->Option Value} {fa:Addr} (X:K.In h) (G:h.Ns mainGlobals mg) (hfa:mg "law" = some (.ref fa))
  {k_NoNumber:Addr}
  {f0:Addr} {oc0 kV0 dc0 pm0 cd0 ct0:Value} {od0 an0:Option Addr} {sl0:Array (Option Value)}
  {f1:Addr} {oc1 kV1 dc1 pm1 cd1 ct1:Value} {od1 an1:Option Addr} {sl1:Array (Option Value)}
  {f2:Addr} {oc2 kV2 dc2 pm2 cd2 ct2:Value} {od2 an2:Option Addr} {sl2:Array (Option Value)}
  {f3:Addr} {oc3 kV3 dc3 pm3 cd3 ct3:Value} {od3 an3:Option Addr} {sl3:Array (Option Value)}
  {f4:Addr} {oc4 kV4 dc4 pm4 cd4 ct4:Value} {od4 an4:Option Addr} {sl4:Array (Option Value)}
  {f5:Addr} {oc5 kV5 dc5 pm5 cd5 ct5:Value} {od5 an5:Option Addr} {sl5:Array (Option Value)}
  {f6:Addr} {oc6 kV6 dc6 pm6 cd6 ct6:Value} {od6 an6:Option Addr} {sl6:Array (Option Value)}
  {f7:Addr} {oc7 kV7 dc7 pm7 cd7 ct7:Value} {od7 an7:Option Addr} {sl7:Array (Option Value)}
  {f8:Addr} {oc8 kV8 dc8 pm8 cd8 ct8:Value} {od8 an8:Option Addr} {sl8:Array (Option Value)}
  {f9:Addr} {oc9 kV9 dc9 pm9 cd9 ct9:Value} {od9 an9:Option Addr} {sl9:Array (Option Value)}
  {f10:Addr} {oc10 kV10 dc10 pm10 cd10 ct10:Value} {od10 an10:Option Addr} {sl10:Array (Option Value)}
  {f11:Addr} {oc11 kV11 dc11 pm11 cd11 ct11:Value} {od11 an11:Option Addr} {sl11:Array (Option Value)}
  {f12:Addr} {oc12 kV12 dc12 pm12 cd12 ct12:Value} {od12 an12:Option Addr} {sl12:Array (Option Value)}
  {f13:Addr} {oc13 kV13 dc13 pm13 cd13 ct13:Value} {od13 an13:Option Addr} {sl13:Array (Option Value)}
  {f14:Addr} {oc14 kV14 dc14 pm14 cd14 ct14:Value} {od14 an14:Option Addr} {sl14:Array (Option Value)}
  {f15:Addr} {oc15 kV15 dc15 pm15 cd15 ct15:Value} {od15 an15:Option Addr} {sl15:Array (Option Value)}
  {f16:Addr} {oc16 kV16 dc16 pm16 cd16 ct16:Value} {od16 an16:Option Addr} {sl16:Array (Option Value)}
  {f17:Addr} {oc17 kV17 dc17 pm17 cd17 ct17:Value} {od17 an17:Option Addr} {sl17:Array (Option Value)}
  {f18:Addr} {oc18 kV18 dc18 pm18 cd18 ct18:Value} {od18 an18:Option Addr} {sl18:Array (Option Value)}
  {f19:Addr} {oc19 kV19 dc19 pm19 cd19 ct19:Value} {od19 an19:Option Addr} {sl19:Array (Option Value)}
  {f20:Addr} {oc20 kV20 dc20 pm20 cd20 ct20:Value} {od20 an20:Option Addr} {sl20:Array (Option Value)}
  {f21:Addr} {oc21 kV21 dc21 pm21 cd21 ct21:Value} {od21 an21:Option Addr} {sl21:Array (Option Value)}
  {f22:Addr} {oc22 kV22 dc22 pm22 cd22 ct22:Value} {od22 an22:Option Addr} {sl22:Array (Option Value)}
  {f23:Addr} {oc23 kV23 dc23 pm23 cd23 ct23:Value} {od23 an23:Option Addr} {sl23:Array (Option Value)}
  {f24:Addr} {oc24 kV24 dc24 pm24 cd24 ct24:Value} {od24 an24:Option Addr} {sl24:Array (Option Value)}
  {f25:Addr} {oc25 kV25 dc25 pm25 cd25 ct25:Value} {od25 an25:Option Addr} {sl25:Array (Option Value)}
  {f26:Addr} {oc26 kV26 dc26 pm26 cd26 ct26:Value} {od26 an26:Option Addr} {sl26:Array (Option Value)}
  {f27:Addr} {oc27 kV27 dc27 pm27 cd27 ct27:Value} {od27 an27:Option Addr} {sl27:Array (Option Value)}
  {f28:Addr} {oc28 kV28 dc28 pm28 cd28 ct28:Value} {od28 an28:Option Addr} {sl28:Array (Option Value)}
  {f29:Addr} {oc29 kV29 dc29 pm29 cd29 ct29:Value} {od29 an29:Option Addr} {sl29:Array (Option Value)}
  {f30:Addr} {oc30 kV30 dc30 pm30 cd30 ct30:Value} {od30 an30:Option Addr} {sl30:Array (Option Value)}
  {f31:Addr} {oc31 kV31 dc31 pm31 cd31 ct31:Value} {od31 an31:Option Addr} {sl31:Array (Option Value)}
  {f32:Addr} {oc32 kV32 dc32 pm32 cd32 ct32:Value} {od32 an32:Option Addr} {sl32:Array (Option Value)}
  {f33:Addr} {oc33 kV33 dc33 pm33 cd33 ct33:Value} {od33 an33:Option Addr} {sl33:Array (Option Value)}
  {f34:Addr} {oc34 kV34 dc34 pm34 cd34 ct34:Value} {od34 an34:Option Addr} {sl34:Array (Option Value)}
  {f35:Addr} {oc35 kV35 dc35 pm35 cd35 ct35:Value} {od35 an35:Option Addr} {sl35:Array (Option Value)}
  {f36:Addr} {oc36 kV36 dc36 pm36 cd36 ct36:Value} {od36 an36:Option Addr} {sl36:Array (Option Value)}
  {f37:Addr} {oc37 kV37 dc37 pm37 cd37 ct37:Value} {od37 an37:Option Addr} {sl37:Array (Option Value)}
  {f38:Addr} {oc38 kV38 dc38 pm38 cd38 ct38:Value} {od38 an38:Option Addr} {sl38:Array (Option Value)}
  {f39:Addr} {oc39 kV39 dc39 pm39 cd39 ct39:Value} {od39 an39:Option Addr} {sl39:Array (Option Value)}
  {f40:Addr} {oc40 kV40 dc40 pm40 cd40 ct40:Value} {od40 an40:Option Addr} {sl40:Array (Option Value)}
  {f41:Addr} {oc41 kV41 dc41 pm41 cd41 ct41:Value} {od41 an41:Option Addr} {sl41:Array (Option Value)}
  {f42:Addr} {oc42 kV42 dc42 pm42 cd42 ct42:Value} {od42 an42:Option Addr} {sl42:Array (Option Value)}
  {f43:Addr} {oc43 kV43 dc43 pm43 cd43 ct43:Value} {od43 an43:Option Addr} {sl43:Array (Option Value)}
  {f44:Addr} {oc44 kV44 dc44 pm44 cd44 ct44:Value} {od44 an44:Option Addr} {sl44:Array (Option Value)}
  {f45:Addr} {oc45 kV45 dc45 pm45 cd45 ct45:Value} {od45 an45:Option Addr} {sl45:Array (Option Value)}
  {f46:Addr} {oc46 kV46 dc46 pm46 cd46 ct46:Value} {od46 an46:Option Addr} {sl46:Array (Option Value)}
  {f47:Addr} {oc47 kV47 dc47 pm47 cd47 ct47:Value} {od47 an47:Option Addr} {sl47:Array (Option Value)}
  {f48:Addr} {oc48 kV48 dc48 pm48 cd48 ct48:Value} {od48 an48:Option Addr} {sl48:Array (Option Value)}
  (a0:PySem.W.nsIn K mainGlobals "common_divisor" = some (some (.ref f0))) (l0:K.lookup f0 = some ⟨oc0,od0,.func (PySem.W.fnOf "common_divisor" "common_divisor" (zB3 zE6) (zB0 zE6) (zA5 zE6) .none kV0 dc0 pm0 an0 cd0 ct0),sl0⟩) (c0:PySem.W.codeIn K cd0 "common_divisor" = true) (k0:PySem.W.keepIn K (.ref f0) = true)
  (a1:PySem.W.nsIn K mainGlobals "plus" = some (some (.ref f1))) (l1:K.lookup f1 = some ⟨oc1,od1,.func (PySem.W.fnOf "plus" "plus" (zB3 zZ7) (zB0 zZ7) (zA5 zZ7) .none kV1 dc1 pm1 an1 cd1 ct1),sl1⟩) (c1:PySem.W.codeIn K cd1 "plus" = true) (k1:PySem.W.keepIn K (.ref f1) = true)
  (a2:PySem.W.nsIn K mainGlobals "minus" = some (some (.ref f2))) (l2:K.lookup f2 = some ⟨oc2,od2,.func (PySem.W.fnOf "minus" "minus" (zB3 zS6) (zB0 zS6) (zA5 zS6) .none kV2 dc2 pm2 an2 cd2 ct2),sl2⟩) (c2:PySem.W.codeIn K cd2 "minus" = true) (k2:PySem.W.keepIn K (.ref f2) = true)
  (a3:PySem.W.nsIn K mainGlobals "times" = some (some (.ref f3))) (l3:K.lookup f3 = some ⟨oc3,od3,.func (PySem.W.fnOf "times" "times" (zB3 zS4) (zB0 zS4) (zA5 zS4) .none kV3 dc3 pm3 an3 cd3 ct3),sl3⟩) (c3:PySem.W.codeIn K cd3 "times" = true) (k3:PySem.W.keepIn K (.ref f3) = true)
  (a4:PySem.W.nsIn K mainGlobals "over" = some (some (.ref f4))) (l4:K.lookup f4 = some ⟨oc4,od4,.func (PySem.W.fnOf "over" "over" (zB3 zZ8) (zB0 zZ8) (zA5 zZ8) .none kV4 dc4 pm4 an4 cd4 ct4),sl4⟩) (c4:PySem.W.codeIn K cd4 "over" = true) (k4:PySem.W.keepIn K (.ref f4) = true)
  (a5:PySem.W.nsIn K mainGlobals "under" = some (some (.ref f5))) (l5:K.lookup f5 = some ⟨oc5,od5,.func (PySem.W.fnOf "under" "under" (zB3 zS3) (zB0 zS3) (zA5 zS3) .none kV5 dc5 pm5 an5 cd5 ct5),sl5⟩) (c5:PySem.W.codeIn K cd5 "under" = true) (k5:PySem.W.keepIn K (.ref f5) = true)
  (a6:PySem.W.nsIn K mainGlobals "sum_of" = some (some (.ref f6))) (l6:K.lookup f6 = some ⟨oc6,od6,.func (PySem.W.fnOf "sum_of" "sum_of" (zB3 zP3) (zB0 zP3) (zA5 zP3) .none kV6 dc6 pm6 an6 cd6 ct6),sl6⟩) (c6:PySem.W.codeIn K cd6 "sum_of" = true) (k6:PySem.W.keepIn K (.ref f6) = true)
  (a7:PySem.W.nsIn K mainGlobals "less_times" = some (some (.ref f7))) (l7:K.lookup f7 = some ⟨oc7,od7,.func (PySem.W.fnOf "less_times" "less_times" (zB3 zH7) (zB0 zH7) (zA5 zH7) .none kV7 dc7 pm7 an7 cd7 ct7),sl7⟩) (c7:PySem.W.codeIn K cd7 "less_times" = true) (k7:PySem.W.keepIn K (.ref f7) = true)
  (a8:PySem.W.nsIn K mainGlobals "pivoted" = some (some (.ref f8))) (l8:K.lookup f8 = some ⟨oc8,od8,.func (PySem.W.fnOf "pivoted" "pivoted" (zB3 zN1) (zB0 zN1) (zA5 zN1) .none kV8 dc8 pm8 an8 cd8 ct8),sl8⟩) (c8:PySem.W.codeIn K cd8 "pivoted" = true) (k8:PySem.W.keepIn K (.ref f8) = true)
  (a9:PySem.W.nsIn K mainGlobals "solved" = some (some (.ref f9))) (l9:K.lookup f9 = some ⟨oc9,od9,.func (PySem.W.fnOf "solved" "solved" (zB3 zP4) (zB0 zP4) (zA5 zP4) .none kV9 dc9 pm9 an9 cd9 ct9),sl9⟩) (c9:PySem.W.codeIn K cd9 "solved" = true) (k9:PySem.W.keepIn K (.ref f9) = true)
  (a10:PySem.W.nsIn K mainGlobals "unmoved" = some (some (.ref f10))) (l10:K.lookup f10 = some ⟨oc10,od10,.func (PySem.W.fnOf "unmoved" "unmoved" (zB3 zN0) (zB0 zN0) (zA5 zN0) .none kV10 dc10 pm10 an10 cd10 ct10),sl10⟩) (c10:PySem.W.codeIn K cd10 "unmoved" = true) (k10:PySem.W.keepIn K (.ref f10) = true)
  (a11:PySem.W.nsIn K mainGlobals "add_shares" = some (some (.ref f11))) (l11:K.lookup f11 = some ⟨oc11,od11,.func (PySem.W.fnOf "add_shares" "add_shares" (zB3 zH9) (zB0 zH9) (zA5 zH9) .none kV11 dc11 pm11 an11 cd11 ct11),sl11⟩) (c11:PySem.W.codeIn K cd11 "add_shares" = true) (k11:PySem.W.keepIn K (.ref f11) = true)
  (a12:PySem.W.nsIn K mainGlobals "passed" = some (some (.ref f12))) (l12:K.lookup f12 = some ⟨oc12,od12,.func (PySem.W.fnOf "passed" "passed" (zB3 zP5) (zB0 zP5) (zA5 zP5) .none kV12 dc12 pm12 an12 cd12 ct12),sl12⟩) (c12:PySem.W.codeIn K cd12 "passed" = true) (k12:PySem.W.keepIn K (.ref f12) = true)
  (a13:PySem.W.nsIn K mainGlobals "table" = some (some (.ref f13))) (l13:K.lookup f13 = some ⟨oc13,od13,.func (PySem.W.fnOf "table" "table" (zB3 zS5) (zB0 zS5) (zA5 zS5) .none kV13 dc13 pm13 an13 cd13 ct13),sl13⟩) (c13:PySem.W.codeIn K cd13 "table" = true) (k13:PySem.W.keepIn K (.ref f13) = true)
  (a14:PySem.W.nsIn K mainGlobals "brought" = some (some (.ref f14))) (l14:K.lookup f14 = some ⟨oc14,od14,.func (PySem.W.fnOf "brought" "brought" (zB3 zN2) (zB0 zN2) (zA5 zN2) .none kV14 dc14 pm14 an14 cd14 ct14),sl14⟩) (c14:PySem.W.codeIn K cd14 "brought" = true) (k14:PySem.W.keepIn K (.ref f14) = true)
  (a15:PySem.W.nsIn K mainGlobals "names_of" = some (some (.ref f15))) (l15:K.lookup f15 = some ⟨oc15,od15,.func (PySem.W.fnOf "names_of" "names_of" (zB3 zL3) (zB0 zL3) (zA5 zL3) .none kV15 dc15 pm15 an15 cd15 ct15),sl15⟩) (c15:PySem.W.codeIn K cd15 "names_of" = true) (k15:PySem.W.keepIn K (.ref f15) = true)
  (a16:PySem.W.nsIn K mainGlobals "casks_of" = some (some (.ref f16))) (l16:K.lookup f16 = some ⟨oc16,od16,.func (PySem.W.fnOf "casks_of" "casks_of" (zB3 zL5) (zB0 zL5) (zA5 zL5) .none kV16 dc16 pm16 an16 cd16 ct16),sl16⟩) (c16:PySem.W.codeIn K cd16 "casks_of" = true) (k16:PySem.W.keepIn K (.ref f16) = true)
  (a17:PySem.W.nsIn K mainGlobals "only" = some (some (.ref f17))) (l17:K.lookup f17 = some ⟨oc17,od17,.func (PySem.W.fnOf "only" "only" (zB3 zZ9) (zB0 zZ9) (zA5 zZ9) .none kV17 dc17 pm17 an17 cd17 ct17),sl17⟩) (c17:PySem.W.codeIn K cd17 "only" = true) (k17:PySem.W.keepIn K (.ref f17) = true)
  (a18:PySem.W.nsIn K mainGlobals "casks_table" = some (some (.ref f18))) (l18:K.lookup f18 = some ⟨oc18,od18,.func (PySem.W.fnOf "casks_table" "casks_table" (zB3 zG7) (zB0 zG7) (zA5 zG7) .none kV18 dc18 pm18 an18 cd18 ct18),sl18⟩) (c18:PySem.W.codeIn K cd18 "casks_table" = true) (k18:PySem.W.keepIn K (.ref f18) = true)
  (a19:PySem.W.nsIn K mainGlobals "brought_totals" = some (some (.ref f19))) (l19:K.lookup f19 = some ⟨oc19,od19,.func (PySem.W.fnOf "brought_totals" "brought_totals" (zB3 zE7) (zB0 zE7) (zA5 zE7) .none kV19 dc19 pm19 an19 cd19 ct19),sl19⟩) (c19:PySem.W.codeIn K cd19 "brought_totals" = true) (k19:PySem.W.keepIn K (.ref f19) = true)
  (a20:PySem.W.nsIn K mainGlobals "left_alike" = some (some (.ref f20))) (l20:K.lookup f20 = some ⟨oc20,od20,.func (PySem.W.fnOf "left_alike" "left_alike" (zB3 zH8) (zB0 zH8) (zA5 zH8) .none kV20 dc20 pm20 an20 cd20 ct20),sl20⟩) (c20:PySem.W.codeIn K cd20 "left_alike" = true) (k20:PySem.W.keepIn K (.ref f20) = true)
  (a21:PySem.W.nsIn K mainGlobals "closed_casks" = some (some (.ref f21))) (l21:K.lookup f21 = some ⟨oc21,od21,.func (PySem.W.fnOf "closed_casks" "closed_casks" (zB3 zF8) (zB0 zF8) (zA5 zF8) .none kV21 dc21 pm21 an21 cd21 ct21),sl21⟩) (c21:PySem.W.codeIn K cd21 "closed_casks" = true) (k21:PySem.W.keepIn K (.ref f21) = true)
  (a22:PySem.W.nsIn K mainGlobals "nearness" = some (some (.ref f22))) (l22:K.lookup f22 = some ⟨oc22,od22,.func (PySem.W.fnOf "nearness" "nearness" (zB3 zL2) (zB0 zL2) (zA5 zL2) .none kV22 dc22 pm22 an22 cd22 ct22),sl22⟩) (c22:PySem.W.codeIn K cd22 "nearness" = true) (k22:PySem.W.keepIn K (.ref f22) = true)
  (a23:PySem.W.nsIn K mainGlobals "long_run" = some (some (.ref f23))) (l23:K.lookup f23 = some ⟨oc23,od23,.func (PySem.W.fnOf "long_run" "long_run" (zB3 zL4) (zB0 zL4) (zA5 zL4) .none kV23 dc23 pm23 an23 cd23 ct23),sl23⟩) (c23:PySem.W.codeIn K cd23 "long_run" = true) (k23:PySem.W.keepIn K (.ref f23) = true)
  (a24:PySem.W.nsIn K mainGlobals "_law_cell_at" = some (some (.ref f24))) (l24:K.lookup f24 = some ⟨oc24,od24,.func (PySem.W.fnOf "_law_cell_at" "_law_cell_at" (zB3 zG1) (zB0 zG1) (zA5 zG1) .none kV24 dc24 pm24 an24 cd24 ct24),sl24⟩) (c24:PySem.W.codeIn K cd24 "_law_cell_at" = true) (k24:PySem.W.keepIn K (.ref f24) = true)
  (a25:PySem.W.nsIn K mainGlobals "_law_whole" = some (some (.ref f25))) (l25:K.lookup f25 = some ⟨oc25,od25,.func (PySem.W.fnOf "_law_whole" "_law_whole" (zB3 zI0) (zB0 zI0) (zA5 zI0) .none kV25 dc25 pm25 an25 cd25 ct25),sl25⟩) (c25:PySem.W.codeIn K cd25 "_law_whole" = true) (k25:PySem.W.keepIn K (.ref f25) = true)
  (a26:PySem.W.nsIn K mainGlobals "_law_mixed" = some (some (.ref f26))) (l26:K.lookup f26 = some ⟨oc26,od26,.func (PySem.W.fnOf "_law_mixed" "_law_mixed" (zB3 zI6) (zB0 zI6) (zA5 zI6) .none kV26 dc26 pm26 an26 cd26 ct26),sl26⟩) (c26:PySem.W.codeIn K cd26 "_law_mixed" = true) (k26:PySem.W.keepIn K (.ref f26) = true)
  (a27:PySem.W.nsIn K mainGlobals "_law_divisor" = some (some (.ref f27))) (l27:K.lookup f27 = some ⟨oc27,od27,.func (PySem.W.fnOf "_law_divisor" "_law_divisor" (zB3 zG0) (zB0 zG0) (zA5 zG0) .none kV27 dc27 pm27 an27 cd27 ct27),sl27⟩) (c27:PySem.W.codeIn K cd27 "_law_divisor" = true) (k27:PySem.W.keepIn K (.ref f27) = true)
  (a28:PySem.W.nsIn K mainGlobals "_law_lowest" = some (some (.ref f28))) (l28:K.lookup f28 = some ⟨oc28,od28,.func (PySem.W.fnOf "_law_lowest" "_law_lowest" (zB3 zH0) (zB0 zH0) (zA5 zH0) .none kV28 dc28 pm28 an28 cd28 ct28),sl28⟩) (c28:PySem.W.codeIn K cd28 "_law_lowest" = true) (k28:PySem.W.keepIn K (.ref f28) = true)
  (a29:PySem.W.nsIn K mainGlobals "_law_alike" = some (some (.ref f29))) (l29:K.lookup f29 = some ⟨oc29,od29,.func (PySem.W.fnOf "_law_alike" "_law_alike" (zB3 zJ0) (zB0 zJ0) (zA5 zJ0) .none kV29 dc29 pm29 an29 cd29 ct29),sl29⟩) (c29:PySem.W.codeIn K cd29 "_law_alike" = true) (k29:PySem.W.keepIn K (.ref f29) = true)
  (a30:PySem.W.nsIn K mainGlobals "_law_house" = some (some (.ref f30))) (l30:K.lookup f30 = some ⟨oc30,od30,.func (PySem.W.fnOf "_law_house" "_law_house" (zB3 zI7) (zB0 zI7) (zA5 zI7) .none kV30 dc30 pm30 an30 cd30 ct30),sl30⟩) (c30:PySem.W.codeIn K cd30 "_law_house" = true) (k30:PySem.W.keepIn K (.ref f30) = true)
  (a31:PySem.W.nsIn K mainGlobals "_law_share" = some (some (.ref f31))) (l31:K.lookup f31 = some ⟨oc31,od31,.func (PySem.W.fnOf "_law_share" "_law_share" (zB3 zI4) (zB0 zI4) (zA5 zI4) .none kV31 dc31 pm31 an31 cd31 ct31),sl31⟩) (c31:PySem.W.codeIn K cd31 "_law_share" = true) (k31:PySem.W.keepIn K (.ref f31) = true)
  (a32:PySem.W.nsIn K mainGlobals "_law_named" = some (some (.ref f32))) (l32:K.lookup f32 = some ⟨oc32,od32,.func (PySem.W.fnOf "_law_named" "_law_named" (zB3 zI5) (zB0 zI5) (zA5 zI5) .none kV32 dc32 pm32 an32 cd32 ct32),sl32⟩) (c32:PySem.W.codeIn K cd32 "_law_named" = true) (k32:PySem.W.keepIn K (.ref f32) = true)
  (a33:PySem.W.nsIn K mainGlobals "_law_step" = some (some (.ref f33))) (l33:K.lookup f33 = some ⟨oc33,od33,.func (PySem.W.fnOf "_law_step" "_law_step" (zB3 zJ8) (zB0 zJ8) (zA5 zJ8) .none kV33 dc33 pm33 an33 cd33 ct33),sl33⟩) (c33:PySem.W.codeIn K cd33 "_law_step" = true) (k33:PySem.W.keepIn K (.ref f33) = true)
  (a34:PySem.W.nsIn K mainGlobals "_law_steps" = some (some (.ref f34))) (l34:K.lookup f34 = some ⟨oc34,od34,.func (PySem.W.fnOf "_law_steps" "_law_steps" (zB3 zI3) (zB0 zI3) (zA5 zI3) .none kV34 dc34 pm34 an34 cd34 ct34),sl34⟩) (c34:PySem.W.codeIn K cd34 "_law_steps" = true) (k34:PySem.W.keepIn K (.ref f34) = true)
  (a35:PySem.W.nsIn K mainGlobals "_law_plus" = some (some (.ref f35))) (l35:K.lookup f35 = some ⟨oc35,od35,.func (PySem.W.fnOf "_law_plus" "_law_plus" (zB3 zJ9) (zB0 zJ9) (zA5 zJ9) .none kV35 dc35 pm35 an35 cd35 ct35),sl35⟩) (c35:PySem.W.codeIn K cd35 "_law_plus" = true) (k35:PySem.W.keepIn K (.ref f35) = true)
  (a36:PySem.W.nsIn K mainGlobals "_law_times" = some (some (.ref f36))) (l36:K.lookup f36 = some ⟨oc36,od36,.func (PySem.W.fnOf "_law_times" "_law_times" (zB3 zI1) (zB0 zI1) (zA5 zI1) .none kV36 dc36 pm36 an36 cd36 ct36),sl36⟩) (c36:PySem.W.codeIn K cd36 "_law_times" = true) (k36:PySem.W.keepIn K (.ref f36) = true)
  (a37:PySem.W.nsIn K mainGlobals "_law_led" = some (some (.ref f37))) (l37:K.lookup f37 = some ⟨oc37,od37,.func (PySem.W.fnOf "_law_led" "_law_led" (zB3 zL7) (zB0 zL7) (zA5 zL7) .none kV37 dc37 pm37 an37 cd37 ct37),sl37⟩) (c37:PySem.W.codeIn K cd37 "_law_led" = true) (k37:PySem.W.keepIn K (.ref f37) = true)
  (a38:PySem.W.nsIn K mainGlobals "_law_places" = some (some (.ref f38))) (l38:K.lookup f38 = some ⟨oc38,od38,.func (PySem.W.fnOf "_law_places" "_law_places" (zB3 zG9) (zB0 zG9) (zA5 zG9) .none kV38 dc38 pm38 an38 cd38 ct38),sl38⟩) (c38:PySem.W.codeIn K cd38 "_law_places" = true) (k38:PySem.W.keepIn K (.ref f38) = true)
  (a39:PySem.W.nsIn K mainGlobals "_law_casks" = some (some (.ref f39))) (l39:K.lookup f39 = some ⟨oc39,od39,.func (PySem.W.fnOf "_law_casks" "_law_casks" (zB3 zI8) (zB0 zI8) (zA5 zI8) .none kV39 dc39 pm39 an39 cd39 ct39),sl39⟩) (c39:PySem.W.codeIn K cd39 "_law_casks" = true) (k39:PySem.W.keepIn K (.ref f39) = true)
  (a40:PySem.W.nsIn K mainGlobals "_law_table" = some (some (.ref f40))) (l40:K.lookup f40 = some ⟨oc40,od40,.func (PySem.W.fnOf "_law_table" "_law_table" (zB3 zI2) (zB0 zI2) (zA5 zI2) .none kV40 dc40 pm40 an40 cd40 ct40),sl40⟩) (c40:PySem.W.codeIn K cd40 "_law_table" = true) (k40:PySem.W.keepIn K (.ref f40) = true)
  (a41:PySem.W.nsIn K mainGlobals "_law_closed" = some (some (.ref f41))) (l41:K.lookup f41 = some ⟨oc41,od41,.func (PySem.W.fnOf "_law_closed" "_law_closed" (zB3 zH1) (zB0 zH1) (zA5 zH1) .none kV41 dc41 pm41 an41 cd41 ct41),sl41⟩) (c41:PySem.W.codeIn K cd41 "_law_closed" = true) (k41:PySem.W.keepIn K (.ref f41) = true)
  (a42:PySem.W.nsIn K mainGlobals "_law_leaking" = some (some (.ref f42))) (l42:K.lookup f42 = some ⟨oc42,od42,.func (PySem.W.fnOf "_law_leaking" "_law_leaking" (zB3 zF9) (zB0 zF9) (zA5 zF9) .none kV42 dc42 pm42 an42 cd42 ct42),sl42⟩) (c42:PySem.W.codeIn K cd42 "_law_leaking" = true) (k42:PySem.W.keepIn K (.ref f42) = true)
  (a43:PySem.W.nsIn K mainGlobals "_law_sum" = some (some (.ref f43))) (l43:K.lookup f43 = some ⟨oc43,od43,.func (PySem.W.fnOf "_law_sum" "_law_sum" (zB3 zL6) (zB0 zL6) (zA5 zL6) .none kV43 dc43 pm43 an43 cd43 ct43),sl43⟩) (c43:PySem.W.codeIn K cd43 "_law_sum" = true) (k43:PySem.W.keepIn K (.ref f43) = true)
  (a44:PySem.W.nsIn K mainGlobals "_law_left" = some (some (.ref f44))) (l44:K.lookup f44 = some ⟨oc44,od44,.func (PySem.W.fnOf "_law_left" "_law_left" (zB3 zK1) (zB0 zK1) (zA5 zK1) .none kV44 dc44 pm44 an44 cd44 ct44),sl44⟩) (c44:PySem.W.codeIn K cd44 "_law_left" = true) (k44:PySem.W.keepIn K (.ref f44) = true)
  (a45:PySem.W.nsIn K mainGlobals "_law_most" = some (some (.ref f45))) (l45:K.lookup f45 = some ⟨oc45,od45,.func (PySem.W.fnOf "_law_most" "_law_most" (zB3 zK0) (zB0 zK0) (zA5 zK0) .none kV45 dc45 pm45 an45 cd45 ct45),sl45⟩) (c45:PySem.W.codeIn K cd45 "_law_most" = true) (k45:PySem.W.keepIn K (.ref f45) = true)
  (a46:PySem.W.nsIn K mainGlobals "_law_apart" = some (some (.ref f46))) (l46:K.lookup f46 = some ⟨oc46,od46,.func (PySem.W.fnOf "_law_apart" "_law_apart" (zB3 zI9) (zB0 zI9) (zA5 zI9) .none kV46 dc46 pm46 an46 cd46 ct46),sl46⟩) (c46:PySem.W.codeIn K cd46 "_law_apart" = true) (k46:PySem.W.keepIn K (.ref f46) = true)
  (a47:PySem.W.nsIn K mainGlobals "_law_rounds" = some (some (.ref f47))) (l47:K.lookup f47 = some ⟨oc47,od47,.func (PySem.W.fnOf "_law_rounds" "_law_rounds" (zB3 zG8) (zB0 zG8) (zA5 zG8) .none kV47 dc47 pm47 an47 cd47 ct47),sl47⟩) (c47:PySem.W.codeIn K cd47 "_law_rounds" = true) (k47:PySem.W.keepIn K (.ref f47) = true)
  (a48:PySem.W.nsIn K mainGlobals "law" = some (some (.ref f48))) (l48:K.lookup f48 = some ⟨oc48,od48,.func (PySem.W.fnOf "law" "law" (zB3 yB9) (zB0 yB9) (zA5 yB9) .none kV48 dc48 pm48 an48 cd48 ct48),sl48⟩) (c48:PySem.W.codeIn K cd48 "law" = true) (k48:PySem.W.keepIn K (.ref f48) = true)
  (z_abs:PySem.W.nsIn K mainGlobals "abs" = some none)
  (z_any:PySem.W.nsIn K mainGlobals "any" = some none)
  (z_bool:PySem.W.nsIn K mainGlobals "bool" = some none)
  (z_dict:PySem.W.nsIn K mainGlobals "dict" = some none)
  (z_enumerate:PySem.W.nsIn K mainGlobals "enumerate" = some none)
  (z_int:PySem.W.nsIn K mainGlobals "int" = some none)
  (z_isinstance:PySem.W.nsIn K mainGlobals "isinstance" = some none)
  (z_len:PySem.W.nsIn K mainGlobals "len" = some none)
  (z_list:PySem.W.nsIn K mainGlobals "list" = some none)
  (z_range:PySem.W.nsIn K mainGlobals "range" = some none)
  (z_reversed:PySem.W.nsIn K mainGlobals "reversed" = some none)
  (z_sorted:PySem.W.nsIn K mainGlobals "sorted" = some none)
  (z_tuple:PySem.W.nsIn K mainGlobals "tuple" = some none)
  (z_zip:PySem.W.nsIn K mainGlobals "zip" = some none)
  (y_NoNumber:PySem.W.nsIn K mainGlobals "NoNumber" = some (some (.ref k_NoNumber)))
  (e_NoNumber:PySem.W.excIn K k_NoNumber [.type "ValueError",.type "Exception",.type "BaseException",.type "object"] "ValueError.__new__" = true)
  (x_NoNumber:ExcK K k_NoNumber)
  (i_NoNumber_NoNumber:PySem.W.kitOne K (.ref k_NoNumber) (.ref k_NoNumber) = some true)
  (m_NoNumber_NoNumber:PySem.W.exmOne K (.ref k_NoNumber) (.ref k_NoNumber) = some true)
 :∃ fd:FuncData,(∀ (s:Shared) (v:Value),BindsTo s fd ⟨[v],[]⟩ [("_law_script",v)]) /\ ∀ base:Heap,K.In base->base.Ns mainGlobals mg->FnOk l.prog w K mg base CX0 9 fa fd ["_law_script"] (spLaw K):=by
 have T:Txt K mg (⟨k_NoNumber⟩:Ca):=⟨PySem.W.mg_none_of X G z_abs,PySem.W.mg_none_of X G z_any,PySem.W.mg_none_of X G z_bool,PySem.W.mg_none_of X G z_dict,PySem.W.mg_none_of X G z_enumerate,PySem.W.mg_none_of X G z_int,PySem.W.mg_none_of X G z_isinstance,PySem.W.mg_none_of X G z_len,PySem.W.mg_none_of X G z_list,PySem.W.mg_none_of X G z_range,PySem.W.mg_none_of X G z_reversed,PySem.W.mg_none_of X G z_sorted,PySem.W.mg_none_of X G z_tuple,PySem.W.mg_none_of X G z_zip,PySem.W.mg_of X G y_NoNumber,e_NoNumber,x_NoNumber,i_NoNumber_NoNumber,m_NoNumber_NoNumber⟩
 have D_common_divisor:DefAt K mg "common_divisor" zE6:=DefAt.mk' X G a0 l0 c0 k0
 have D_plus:DefAt K mg "plus" zZ7:=DefAt.mk' X G a1 l1 c1 k1
 have D_minus:DefAt K mg "minus" zS6:=DefAt.mk' X G a2 l2 c2 k2
 have D_times:DefAt K mg "times" zS4:=DefAt.mk' X G a3 l3 c3 k3
 have D_over:DefAt K mg "over" zZ8:=DefAt.mk' X G a4 l4 c4 k4
 have D_under:DefAt K mg "under" zS3:=DefAt.mk' X G a5 l5 c5 k5
 have D_sum_of:DefAt K mg "sum_of" zP3:=DefAt.mk' X G a6 l6 c6 k6
 have D_less_times:DefAt K mg "less_times" zH7:=DefAt.mk' X G a7 l7 c7 k7
 have D_pivoted:DefAt K mg "pivoted" zN1:=DefAt.mk' X G a8 l8 c8 k8
 have D_solved:DefAt K mg "solved" zP4:=DefAt.mk' X G a9 l9 c9 k9
 have D_unmoved:DefAt K mg "unmoved" zN0:=DefAt.mk' X G a10 l10 c10 k10
 have D_add_shares:DefAt K mg "add_shares" zH9:=DefAt.mk' X G a11 l11 c11 k11
 have D_passed:DefAt K mg "passed" zP5:=DefAt.mk' X G a12 l12 c12 k12
 have D_table:DefAt K mg "table" zS5:=DefAt.mk' X G a13 l13 c13 k13
 have D_brought:DefAt K mg "brought" zN2:=DefAt.mk' X G a14 l14 c14 k14
 have D_names_of:DefAt K mg "names_of" zL3:=DefAt.mk' X G a15 l15 c15 k15
 have D_casks_of:DefAt K mg "casks_of" zL5:=DefAt.mk' X G a16 l16 c16 k16
 have D_only:DefAt K mg "only" zZ9:=DefAt.mk' X G a17 l17 c17 k17
 have D_casks_table:DefAt K mg "casks_table" zG7:=DefAt.mk' X G a18 l18 c18 k18
 have D_brought_totals:DefAt K mg "brought_totals" zE7:=DefAt.mk' X G a19 l19 c19 k19
 have D_left_alike:DefAt K mg "left_alike" zH8:=DefAt.mk' X G a20 l20 c20 k20
 have D_closed_casks:DefAt K mg "closed_casks" zF8:=DefAt.mk' X G a21 l21 c21 k21
 have D_nearness:DefAt K mg "nearness" zL2:=DefAt.mk' X G a22 l22 c22 k22
 have D_long_run:DefAt K mg "long_run" zL4:=DefAt.mk' X G a23 l23 c23 k23
 have D__law_cell_at:DefAt K mg "_law_cell_at" zG1:=DefAt.mk' X G a24 l24 c24 k24
 have D__law_whole:DefAt K mg "_law_whole" zI0:=DefAt.mk' X G a25 l25 c25 k25
 have D__law_mixed:DefAt K mg "_law_mixed" zI6:=DefAt.mk' X G a26 l26 c26 k26
 have D__law_divisor:DefAt K mg "_law_divisor" zG0:=DefAt.mk' X G a27 l27 c27 k27
 have D__law_lowest:DefAt K mg "_law_lowest" zH0:=DefAt.mk' X G a28 l28 c28 k28
 have D__law_alike:DefAt K mg "_law_alike" zJ0:=DefAt.mk' X G a29 l29 c29 k29
 have D__law_house:DefAt K mg "_law_house" zI7:=DefAt.mk' X G a30 l30 c30 k30
 have D__law_share:DefAt K mg "_law_share" zI4:=DefAt.mk' X G a31 l31 c31 k31
 have D__law_named:DefAt K mg "_law_named" zI5:=DefAt.mk' X G a32 l32 c32 k32
 have D__law_step:DefAt K mg "_law_step" zJ8:=DefAt.mk' X G a33 l33 c33 k33
 have D__law_steps:DefAt K mg "_law_steps" zI3:=DefAt.mk' X G a34 l34 c34 k34
 have D__law_plus:DefAt K mg "_law_plus" zJ9:=DefAt.mk' X G a35 l35 c35 k35
 have D__law_times:DefAt K mg "_law_times" zI1:=DefAt.mk' X G a36 l36 c36 k36
 have D__law_led:DefAt K mg "_law_led" zL7:=DefAt.mk' X G a37 l37 c37 k37
 have D__law_places:DefAt K mg "_law_places" zG9:=DefAt.mk' X G a38 l38 c38 k38
 have D__law_casks:DefAt K mg "_law_casks" zI8:=DefAt.mk' X G a39 l39 c39 k39
 have D__law_table:DefAt K mg "_law_table" zI2:=DefAt.mk' X G a40 l40 c40 k40
 have D__law_closed:DefAt K mg "_law_closed" zH1:=DefAt.mk' X G a41 l41 c41 k41
 have D__law_leaking:DefAt K mg "_law_leaking" zF9:=DefAt.mk' X G a42 l42 c42 k42
 have D__law_sum:DefAt K mg "_law_sum" zL6:=DefAt.mk' X G a43 l43 c43 k43
 have D__law_left:DefAt K mg "_law_left" zK1:=DefAt.mk' X G a44 l44 c44 k44
 have D__law_most:DefAt K mg "_law_most" zK0:=DefAt.mk' X G a45 l45 c45 k45
 have D__law_apart:DefAt K mg "_law_apart" zI9:=DefAt.mk' X G a46 l46 c46 k46
 have D__law_rounds:DefAt K mg "_law_rounds" zG8:=DefAt.mk' X G a47 l47 c47 k47
 have e:=hfa.symm.trans (PySem.W.mg_of X G a48)
 cases e
 refine ⟨PySem.W.fnOf "law" "law" (zB3 yB9) (zB0 yB9) (zA5 yB9) .none kV48 dc48 pm48 an48 cd48 ct48,fun s v=>.of_eq rfl,fun base _ _=>?_⟩
 have G_common_divisor:=zT1 (P:=l.prog) (w:=w) (base:=base) D_common_divisor T
 have G_plus:=xP9 (P:=l.prog) (w:=w) (base:=base) D_plus T G_common_divisor
 have G_minus:=xI0 (P:=l.prog) (w:=w) (base:=base) D_minus T G_plus
 have G_times:=xH8 (P:=l.prog) (w:=w) (base:=base) D_times T G_common_divisor
 have G_over:=xQ0 (P:=l.prog) (w:=w) (base:=base) D_over T G_times
 have G_under:=xH7 (P:=l.prog) (w:=w) (base:=base) D_under T
 have G_sum_of:=xA9 (P:=l.prog) (w:=w) (base:=base) D_sum_of T G_plus
 have G_less_times:=yC7 (P:=l.prog) (w:=w) (base:=base) D_less_times T G_minus G_times
 have G_pivoted:=yW0 (P:=l.prog) (w:=w) (base:=base) D_pivoted T G_over G_less_times
 have G_solved:=xB0 (P:=l.prog) (w:=w) (base:=base) D_solved T G_pivoted
 have G_unmoved:=yV9 (P:=l.prog) (w:=w) (base:=base) D_unmoved T
 have G_add_shares:=yC9 (P:=l.prog) (w:=w) (base:=base) D_add_shares T G_plus G_times
 have G_passed:=xB1 (P:=l.prog) (w:=w) (base:=base) D_passed T G_add_shares G_minus
 have G_table:=xH9 (P:=l.prog) (w:=w) (base:=base) D_table T G_unmoved G_passed
 have G_brought:=yW1 (P:=l.prog) (w:=w) (base:=base) D_brought T G_unmoved G_passed
 have G_names_of:=yN1 (P:=l.prog) (w:=w) (base:=base) D_names_of T
 have G_casks_of:=yN3 (P:=l.prog) (w:=w) (base:=base) D_casks_of T
 have G_only:=xQ1 (P:=l.prog) (w:=w) (base:=base) D_only T
 have G_casks_table:=zZ0 (P:=l.prog) (w:=w) (base:=base) D_casks_table T G_casks_of G_table G_names_of G_only
 have G_brought_totals:=zT2 (P:=l.prog) (w:=w) (base:=base) D_brought_totals T G_casks_of G_brought G_names_of G_only G_plus G_times
 have G_left_alike:=yC8 (P:=l.prog) (w:=w) (base:=base) D_left_alike T G_minus G_solved
 have G_closed_casks:=zX2 (P:=l.prog) (w:=w) (base:=base) D_closed_casks T G_sum_of
 have G_nearness:=yN0 (P:=l.prog) (w:=w) (base:=base) D_nearness T G_sum_of G_times G_under
 have G_long_run:=yN2 (P:=l.prog) (w:=w) (base:=base) D_long_run T G_casks_table G_closed_casks G_nearness G_left_alike G_brought_totals
 have G__law_cell_at:=zX5 (P:=l.prog) (w:=w) (base:=base) D__law_cell_at T
 have G__law_whole:=yD0 (P:=l.prog) (w:=w) (base:=base) D__law_whole T
 have G__law_mixed:=yD6 (P:=l.prog) (w:=w) (base:=base) D__law_mixed T
 have G__law_divisor:=zX4 (P:=l.prog) (w:=w) (base:=base) D__law_divisor T
 have G__law_lowest:=zZ3 (P:=l.prog) (w:=w) (base:=base) D__law_lowest T G__law_divisor
 have G__law_alike:=yE0 (P:=l.prog) (w:=w) (base:=base) D__law_alike T G__law_whole
 have G__law_house:=yD7 (P:=l.prog) (w:=w) (base:=base) D__law_house T
 have G__law_share:=yD4 (P:=l.prog) (w:=w) (base:=base) D__law_share T G__law_lowest
 have G__law_named:=yD5 (P:=l.prog) (w:=w) (base:=base) D__law_named T
 have G__law_step:=yI8 (P:=l.prog) (w:=w) (base:=base) D__law_step T G__law_lowest G__law_share
 have G__law_steps:=yD3 (P:=l.prog) (w:=w) (base:=base) D__law_steps T G__law_named G__law_mixed G__law_step
 have G__law_plus:=yI9 (P:=l.prog) (w:=w) (base:=base) D__law_plus T G__law_lowest
 have G__law_times:=yD1 (P:=l.prog) (w:=w) (base:=base) D__law_times T G__law_lowest
 have G__law_led:=yN5 (P:=l.prog) (w:=w) (base:=base) D__law_led T G__law_times G__law_plus
 have G__law_places:=zZ2 (P:=l.prog) (w:=w) (base:=base) D__law_places T
 have G__law_casks:=yD8 (P:=l.prog) (w:=w) (base:=base) D__law_casks T
 have G__law_table:=yD2 (P:=l.prog) (w:=w) (base:=base) D__law_table T G__law_casks G__law_places G__law_led
 have G__law_closed:=zZ4 (P:=l.prog) (w:=w) (base:=base) D__law_closed T
 have G__law_leaking:=zX3 (P:=l.prog) (w:=w) (base:=base) D__law_leaking T G__law_mixed G__law_cell_at G__law_house G__law_steps G__law_closed G__law_table
 have G__law_sum:=yN4 (P:=l.prog) (w:=w) (base:=base) D__law_sum T G__law_plus
 have G__law_left:=yJ1 (P:=l.prog) (w:=w) (base:=base) D__law_left T G__law_places G__law_casks G__law_led G__law_sum
 have G__law_most:=yJ0 (P:=l.prog) (w:=w) (base:=base) D__law_most T G__law_left
 have G__law_apart:=yD9 (P:=l.prog) (w:=w) (base:=base) D__law_apart T G__law_plus G__law_sum
 have G__law_rounds:=zZ1 (P:=l.prog) (w:=w) (base:=base) D__law_rounds T G__law_casks G__law_led G__law_places
 exact xU9 (xN0 (st:=yB9) l48 c48 k48) T G__law_leaking G_long_run G__law_alike G__law_most G__law_whole G__law_cell_at G__law_mixed G__law_apart G__law_times G__law_rounds
end T48
namespace PySem.W.Fast
def tw1970086017283110558:=0
def tw16860503744494403958:=0
def tw7474215296624572899:=0
def tw9590145979805559577:=0
def tw3037295693551305904:=0
def tw4588654560881940589:=0
def tw13107974118550507520:=0
def tw4528482790698075290:=0
def tw14129638341799148016:=0
def tw3431937222228870727:=0
def tw10370698293604320293:=0
def tw7386551183652764765:=0
def tw910922172147548978:=0
def tw7926244945503710305:=0
def tw3546732281775380780:=0
def tw8440370382347204020:=0
def tw15032734901691216691:=0
def tw13940041588612512546:=0
def tw10537648662819104009:=0
def tw951137669670168846:=0
def tw8478385289981931593:=0
def tw17982963317762931502:=0
def tw10146182552070646949:=0
def tw13129758373678848025:=0
def tw3801950372677201669:=0
def tw2189638778359732842:=0
def tw1999557106046512378:=0
def tw9612722885255795707:=0
def tw9503648321872405301:=0
def tw1589428006878417239:=0
def tw16372523448811120808:=0
def tw2498782407990621533:=0
def tw4526231623731063342:=0
def tw17868925264733085240:=0
def tw3091604083286960578:=0
def tw5524812979394732732:=0
def tw1177205338771466211:=0
def tw3157018484837022587:=0
def tw1423853729923641614:=0
def tw7504557693196875973:=0
def tw5787465565253994401:=0
def tw10584045117730180704:=0
def tw16184837436014595434:=0
def tw9464946349297131915:=0
def tw13512888836163971105:=0
def tw1421908268550425265:=0
def tw13629363758317427802:=0
def tw5342850950554254454:=0
def tw1004885161105623103:=0
def tw5322407596288361030:=0
def tw2462851091973973198:=0
def tw2682853298544766752:=0
def tw15408086529060660128:=0
def tw6847108569858328411:=0
def tw362080035344736079:=0
def tw16891634300390109032:=0
def tw1466530250283615982:=0
def tw5763701513461898631:=0
def tw15367275798967087808:=0
def tw6924493457978919664:=0
def tw8112512009749185600:=0
def tw2735744577682422582:=0
def tw15185440515550259141:=0
def tw13000801012771922089:=0
def tw7948887195945753483:=0
def tw2536458752900182130:=0
def tw7119415856944489789:=0
def tw1879843356938675570:=0
def tw3517003705386241646:=0
def tw1495919165339466440:=0
def tw7090665392993823180:=0
def tw13065796955567308037:=0
def tw11696073092078272548:=0
def tw14828554262477528268:=0
def tw4464344823562506807:=0
def tw11347323303161574569:=0
def tw8647087854514798974:=0
def tw4885247770765767213:=0
def tw1893998596552221580:=0
def tw473809070511830602:=0
def tw1619169723002607664:=0
def tw17982493330361734909:=0
def tw2697467614754391073:=0
def tw1222637114336027679:=0
def tw7489195458510865442:=0
def tw478741656903768090:=0
def tw15143834891043438596:=0
def tw7602257521095571629:=0
def tw18331868244992459264:=0
def tw787378600574756354:=0
def tw3254979456959536250:=0
def tw4382415017352819792:=0
def tw11656777446230480277:=0
def tw3918430368539004280:=0
def tw4106899358110936969:=0
def tw8212384020415611953:=0
def tw14674454158553550816:=0
def tw9076997028697798207:=0
def tw15115140948153841967:=0
def tw3384575085265265875:=0
def tw7028296711582004707:=0
def tw2146113428143917589:=0
def tw9947074611197117983:=0
def tw14049318484243112845:=0
def tw6600445909854986424:=0
def tw452586249225871246:=0
def tw690931111576834399:=0
def tw17242651678126144970:=0
def tw7800117768897097547:=0
def tw17021577004136026907:=0
def tw15220426684380356915:=0
def tw3109206742606187920:=0
def tw7190620065025802530:=0
def tw7543260733188693078:=0
def tw10622705709316697260:=0
def tw10305078202092537195:=0
def tw16219027561178281875:=0
def tw1337135796085663689:=0
def tw17231767897343224754:=0
def tw10545992995539772059:=0
def tw10685514497955279050:=0
def tw17125028854624051544:=0
def tw4546381351482336748:=0
def tw11927261702335219181:=0
def tw15580978431252824991:=0
def tw10056897092314159741:=0
def tw1256375785167806021:=0
def tw15916243066538960698:=0
def tw9824393610103900356:=0
def tw424605704810993199:=0
def tw3698601477269555587:=0
def tw14671294548553572085:=0
def tw12191270818225704420:=0
def tw14393717451942218463:=0
def tw2167519926641047658:=0
def tw9910003875494777387:=0
def tw6116081161885570163:=0
def tw382133918043912966:=0
def tw11903447214351050750:=0
def tw6288730442674152276:=0
def tw7513282036039250181:=0
def tw15626314652494784614:=0
def tw4326446080938221207:=0
def tw3199107621155140017:=0
def tw1824264155829404970:=0
def tw691526878018335972:=0
def tw2675833363195842085:=0
def tw1571022113940030417:=0
def tw3231264839841721765:=0
def tw8124697679581212025:=0
def tw4419173570921057562:=0
def tw10012748292044432035:=0
def tw13205028094426902977:=0
def tw7746238271287355205:=0
def tw1645403525364130480:=0
def tw14217002638543199459:=0
def tw7895127845649236644:=0
def tw635063272736232845:=0
def tw6197902259114147615:=0
def tw1248788067434703556:=0
def tw8204518548986413267:=0
def tw8471562423234663303:=0
def tw9691582999197354459:=0
def tw16540942464288078807:=0
def tw1481232985148435388:=0
def tw2086818701297087842:=0
def tw3527169471677126547:=0
def tw6105904716811113757:=0
def tw3402753924569908365:=0
def tw13977334357111662223:=0
def tw68689011963671960:=0
def tw15659441413575059271:=0
def tw7993559282451051695:=0
def tw10987657308051040539:=0
def tw14026229852436551772:=0
def tw746165833996152794:=0
def tw7875331226353938514:=0
def tw17424488679626237418:=0
def tw13333200025843286149:=0
def tw18207353639234639925:=0
def tw3082257682954902659:=0
def tw17934890719631019717:=0
def tw8645613833830042474:=0
def tw2161756630886576449:=0
def tw11871175611606914838:=0
def tw14864623324602537593:=0
def tw17978264372614154674:=0
def tw3324353135115130056:=0
def tw8725820053304766245:=0
def tw14244722781579092812:=0
def tw16692194337149122017:=0
def tw15870862478573936892:=0
def tw18068904028526833617:=0
def tw12021600976182899169:=0
def tw9213969542929606170:=0
def tw5632677095568009982:=0
def tw5248890981391103050:=0
def tw4737041656891247575:=0
def tw5237674779299618770:=0
def tw8968103583594021440:=0
def tw7262783749413946785:=0
def tw12272766210445010902:=0
def tw9350170946543989878:=0
def tw11334250118362055703:=0
def tw5255264726679972018:=0
def tw18418427527843707254:=0
def tw3894472028042373843:=0
def tw14844319527455386605:=0
def tw4463794719851953248:=0
def tw13394369246368490658:=0
def tw3678712635332425041:=0
def tw593322349837747680:=0
def tw14853223593074252011:=0
def tw15932464775766618716:=0
def tw3639934277865425502:=0
def tw4216380071498130945:=0
def tw9467163683881097094:=0
def tw14875626730649210885:=0
def tw6116988452762942622:=0
def tw1756644840807660805:=0
def tw8554650112122638228:=0
def tw2492851828702586386:=0
def tw14554765462166074920:=0
def tw17116984344216719107:=0
def tw9353014734894467912:=0
def tw15768826715266033028:=0
def tw15850879737125103134:=0
def tw345772844241930918:=0
def tw3546279722673421674:=0
def tw3548019334106232976:=0
def tw6218912778408796860:=0
def tw2107704235148359873:=0
def tw2449472925323141024:=0
def tw8002121956936580082:=0
def tw13522246236151543329:=0
def tw12977189310866842196:=0
def tw4240407355034187703:=0
def tw15529040592564162016:=0
def tw4899054247992169375:=0
def tw752614385558034821:=0
def tw10546195166914035567:=0
def tw9795748852524592917:=0
def tw1154787954816262338:=0
def tw16717670756149635859:=0
def tw16373776479693650339:=0
def tw13854425788119387596:=0
def tw8407020166510168641:=0
def tw9909580460051794093:=0
def tw553371237206217875:=0
def tw11610132459287600296:=0
def tw16722260448158491161:=0
def tw15482029286936101407:=0
def tw5775729109975784234:=0
def tw7697950515295057314:=0
def tw7809706482788630831:=0
def tw14651770050460739123:=0
def tw4684215581225550145:=0
def tw14478601101868004397:=0
def tw12476822612310658919:=0
def tw635318724512065275:=0
def tw16981999389215581236:=0
def tw15206138362742247690:=0
def tw12321159733228720127:=0
def tw12677473814002750698:=0
def tw8286314857288752196:=0
def tw18351035624256368069:=0
def tw8221064676881735298:=0
def tw1672977690544989114:=0
def tw9736694093471610105:=0
def tw7593202810526444979:=0
def tw11353516741223916492:=0
def tw17461373155869039281:=0
def tw14196502692527195426:=0
def tw6318467959731730245:=0
def tw9965929647612617811:=0
def tw14878662075545550914:=0
def tw5030075866178433349:=0
def tw9385780007246223054:=0
def tw5173297959819053845:=0
def tw4548521338531737136:=0
def tw307835001573442815:=0
def tw176510172698880678:=0
def tw247999486316509515:=0
def tw8510021534591207917:=0
def tw8484313782583947793:=0
def tw8482893708486988064:=0
def tw2195978193289284182:=0
def tw16284668498499212747:=0
def tw10279740771728414727:=0
def tw7132788956010768134:=0
def tw4348954677779491643:=0
def tw10817489356390902478:=0
def tw9608761029613433395:=0
def tw3809534987877689740:=0
def tw14835766910261221658:=0
def tw6432247617488527950:=0
def tw6591277328968700134:=0
def tw7471694907478103896:=0
def tw3797087993837348748:=0
def tw5828955925148485162:=0
def tw12982436096350029086:=0
def tw15430642305542238027:=0
def tw3453365913891293877:=0
def tw15128123661678182277:=0
def tw17490081405878915647:=0
def tw3296154400807319918:=0
def tw870775586564673975:=0
def tw17755599146823075501:=0
def tw3045913846278697083:=0
def tw17556732374829209250:=0
def tw7112879472741883449:=0
def tw10775510888845438733:=0
def tw2379788604825391454:=0
def tw206633838309454626:=0
def tw11279345102435731073:=0
def tw15089160655830969022:=0
def tw8674546240529343218:=0
def tw12571989154665307828:=0
def tw13393273296228964232:=0
def tw7557121796976567381:=0
def tw14317221773180158686:=0
end PySem.W.Fast
open PySem PySem.W PyProof.Rows
set_option maxRecDepth 100000 in
set_option maxHeartbeats 0 in
theorem PySem.Challenge.cw_tiercask_k48_whole_bound_of_the_long_run_holds : PySem.Challenge.rw_tiercask_k48_whole_bound_of_the_long_run.Holds := by
 w_on; o_law; k_head; (case hw=>w_witness2)
 k_fill
 refine L2.walk_ofK (l:=PySem.Challenge.rw_tiercask_k48_whole_bound_of_the_long_run) (n:=63) (k:=9) (x:="_law_script") (CX:=L2.CX0) (sp:=Tc.spLaw) rfl (by decide) rfl ⟨rfl,by decide,by decide⟩ (fun w h Y=>PySem.W.kIn_of Y) ?F ?S ?C
 case F =>
  intro w mg fa h KX G hmg
  refine' T48.all_mk KX G hmg ?a0 ?l0 ?c0 ?k0 ?a1 ?l1 ?c1 ?k1 ?a2 ?l2 ?c2 ?k2 ?a3 ?l3 ?c3 ?k3 ?a4 ?l4 ?c4 ?k4 ?a5 ?l5 ?c5 ?k5 ?a6 ?l6 ?c6 ?k6 ?a7 ?l7 ?c7 ?k7 ?a8 ?l8 ?c8 ?k8 ?a9 ?l9 ?c9 ?k9 ?a10 ?l10 ?c10 ?k10 ?a11 ?l11 ?c11 ?k11 ?a12 ?l12 ?c12 ?k12 ?a13 ?l13 ?c13 ?k13 ?a14 ?l14 ?c14 ?k14 ?a15 ?l15 ?c15 ?k15 ?a16 ?l16 ?c16 ?k16 ?a17 ?l17 ?c17 ?k17 ?a18 ?l18 ?c18 ?k18 ?a19 ?l19 ?c19 ?k19 ?a20 ?l20 ?c20 ?k20 ?a21 ?l21 ?c21 ?k21 ?a22 ?l22 ?c22 ?k22 ?a23 ?l23 ?c23 ?k23 ?a24 ?l24 ?c24 ?k24 ?a25 ?l25 ?c25 ?k25 ?a26 ?l26 ?c26 ?k26 ?a27 ?l27 ?c27 ?k27 ?a28 ?l28 ?c28 ?k28 ?a29 ?l29 ?c29 ?k29 ?a30 ?l30 ?c30 ?k30 ?a31 ?l31 ?c31 ?k31 ?a32 ?l32 ?c32 ?k32 ?a33 ?l33 ?c33 ?k33 ?a34 ?l34 ?c34 ?k34 ?a35 ?l35 ?c35 ?k35 ?a36 ?l36 ?c36 ?k36 ?a37 ?l37 ?c37 ?k37 ?a38 ?l38 ?c38 ?k38 ?a39 ?l39 ?c39 ?k39 ?a40 ?l40 ?c40 ?k40 ?a41 ?l41 ?c41 ?k41 ?a42 ?l42 ?c42 ?k42 ?a43 ?l43 ?c43 ?k43 ?a44 ?l44 ?c44 ?k44 ?a45 ?l45 ?c45 ?k45 ?a46 ?l46 ?c46 ?k46 ?a47 ?l47 ?c47 ?k47 ?a48 ?l48 ?c48 ?k48 ?z_abs ?z_any ?z_bool ?z_dict ?z_enumerate ?z_int ?z_isinstance ?z_len ?z_list ?z_range ?z_reversed ?z_sorted ?z_tuple ?z_zip ?y_NoNumber ?e_NoNumber ?x_NoNumber ?i_NoNumber_NoNumber ?m_NoNumber_NoNumber
  (case a0=>k_is); (case l0=>k_is); (case c0=>k_is); (case k0=>k_is); (case a1=>k_is); (case l1=>k_is); (case c1=>k_is); (case k1=>k_is)
  (case a2=>k_is); (case l2=>k_is); (case c2=>k_is); (case k2=>k_is); (case a3=>k_is); (case l3=>k_is); (case c3=>k_is); (case k3=>k_is)
  (case a4=>k_is); (case l4=>k_is); (case c4=>k_is); (case k4=>k_is); (case a5=>k_is); (case l5=>k_is); (case c5=>k_is); (case k5=>k_is)
  (case a6=>k_is); (case l6=>k_is); (case c6=>k_is); (case k6=>k_is); (case a7=>k_is); (case l7=>k_is); (case c7=>k_is); (case k7=>k_is)
  (case a8=>k_is); (case l8=>k_is); (case c8=>k_is); (case k8=>k_is); (case a9=>k_is); (case l9=>k_is); (case c9=>k_is); (case k9=>k_is)
  (case a10=>k_is); (case l10=>k_is); (case c10=>k_is); (case k10=>k_is); (case a11=>k_is); (case l11=>k_is); (case c11=>k_is); (case k11=>k_is)
  (case a12=>k_is); (case l12=>k_is); (case c12=>k_is); (case k12=>k_is); (case a13=>k_is); (case l13=>k_is); (case c13=>k_is); (case k13=>k_is)
  (case a14=>k_is); (case l14=>k_is); (case c14=>k_is); (case k14=>k_is); (case a15=>k_is); (case l15=>k_is); (case c15=>k_is); (case k15=>k_is)
  (case a16=>k_is); (case l16=>k_is); (case c16=>k_is); (case k16=>k_is); (case a17=>k_is); (case l17=>k_is); (case c17=>k_is); (case k17=>k_is)
  (case a18=>k_is); (case l18=>k_is); (case c18=>k_is); (case k18=>k_is); (case a19=>k_is); (case l19=>k_is); (case c19=>k_is); (case k19=>k_is)
  (case a20=>k_is); (case l20=>k_is); (case c20=>k_is); (case k20=>k_is); (case a21=>k_is); (case l21=>k_is); (case c21=>k_is); (case k21=>k_is)
  (case a22=>k_is); (case l22=>k_is); (case c22=>k_is); (case k22=>k_is); (case a23=>k_is); (case l23=>k_is); (case c23=>k_is); (case k23=>k_is)
  (case a24=>k_is); (case l24=>k_is); (case c24=>k_is); (case k24=>k_is); (case a25=>k_is); (case l25=>k_is); (case c25=>k_is); (case k25=>k_is)
  (case a26=>k_is); (case l26=>k_is); (case c26=>k_is); (case k26=>k_is); (case a27=>k_is); (case l27=>k_is); (case c27=>k_is); (case k27=>k_is)
  (case a28=>k_is); (case l28=>k_is); (case c28=>k_is); (case k28=>k_is); (case a29=>k_is); (case l29=>k_is); (case c29=>k_is); (case k29=>k_is)
  (case a30=>k_is); (case l30=>k_is); (case c30=>k_is); (case k30=>k_is); (case a31=>k_is); (case l31=>k_is); (case c31=>k_is); (case k31=>k_is)
  (case a32=>k_is); (case l32=>k_is); (case c32=>k_is); (case k32=>k_is); (case a33=>k_is); (case l33=>k_is); (case c33=>k_is); (case k33=>k_is)
  (case a34=>k_is); (case l34=>k_is); (case c34=>k_is); (case k34=>k_is); (case a35=>k_is); (case l35=>k_is); (case c35=>k_is); (case k35=>k_is)
  (case a36=>k_is); (case l36=>k_is); (case c36=>k_is); (case k36=>k_is); (case a37=>k_is); (case l37=>k_is); (case c37=>k_is); (case k37=>k_is)
  (case a38=>k_is); (case l38=>k_is); (case c38=>k_is); (case k38=>k_is); (case a39=>k_is); (case l39=>k_is); (case c39=>k_is); (case k39=>k_is)
  (case a40=>k_is); (case l40=>k_is); (case c40=>k_is); (case k40=>k_is); (case a41=>k_is); (case l41=>k_is); (case c41=>k_is); (case k41=>k_is)
  (case a42=>k_is); (case l42=>k_is); (case c42=>k_is); (case k42=>k_is); (case a43=>k_is); (case l43=>k_is); (case c43=>k_is); (case k43=>k_is)
  (case a44=>k_is); (case l44=>k_is); (case c44=>k_is); (case k44=>k_is); (case a45=>k_is); (case l45=>k_is); (case c45=>k_is); (case k45=>k_is)
  (case a46=>k_is); (case l46=>k_is); (case c46=>k_is); (case k46=>k_is); (case a47=>k_is); (case l47=>k_is); (case c47=>k_is); (case k47=>k_is)
  (case a48=>k_is); (case l48=>k_is); (case c48=>k_is); (case k48=>k_is); (case z_abs=>k_is); (case z_any=>k_is); (case z_bool=>k_is); (case z_dict=>k_is)
  (case z_enumerate=>k_is); (case z_int=>k_is); (case z_isinstance=>k_is); (case z_len=>k_is); (case z_list=>k_is); (case z_range=>k_is); (case z_reversed=>k_is); (case z_sorted=>k_is)
  (case z_tuple=>k_is); (case z_zip=>k_is); (case y_NoNumber=>k_is)
  (case e_NoNumber=>k_exc)
  (case x_NoNumber=>refine ⟨?_,?_,?_,?_,?_⟩ <;> k_is)
  (case i_NoNumber_NoNumber=>kit_is)
  (case m_NoNumber_NoNumber=>kts_exm)
 case S=>exact fun K H a ns hl hO hS=>⟨a,ns,rfl,hS,hl,fun _=>rfl⟩
 case C=>exact fun H s e s' z=>z

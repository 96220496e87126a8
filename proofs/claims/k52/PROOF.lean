import PyProof.Rows.All
import Wide.All
import OpenK.AllK
import Wide.FinOn
import Lean
import PyProof.EqAt
import PyProof.EqKinds
import PyProof.TupleCall
import PySem.Challenge.RW_tiercask_k52_no_deeds
set_option Elab.async false
set_option linter.all false
set_option maxRecDepth 100000
set_option genSizeOf false
set_option maxHeartbeats 4000000
set_option exponentiation.threshold 100000
namespace L2
open PySem PySem.Spec PyProof.Rows
noncomputable abbrev Key:=Sum Int Str
noncomputable def keyIs:Key->Value->Bool
 | .inl k,v=>Value.isInt k v
 | .inr x,v=>Value.isStrOf x v
noncomputable def keyH (w:World):Key->Int
 | .inl k=>hashInt k
 | .inr x=>hashStr w x
theorem keyIs_shape:∀ {k:Key} {v:Value},keyIs k v = true->(∃ i t,k = Sum.inl i /\ v = Value.int i t) \/ (∃ x t,k = Sum.inr x /\ v = Value.str x t)
 | .inl i,v,h=>by
  obtain ⟨t,e⟩:=Value.isInt_shape (k:=i) (v:=v) h
  exact .inl ⟨i,t,rfl,e⟩
 | .inr x,v,h=>by
  obtain ⟨t,e⟩:=Value.isStrOf_shape (x:=x) (v:=v) h
  exact .inr ⟨x,t,rfl,e⟩
theorem keyIs_int (i:Int) (t:Tok):keyIs (.inl i) (.int i t) = true:=by simp [keyIs,Value.isInt]
theorem keyIs_str (x:Str) (t:Tok):keyIs (.inr x) (.str x t) = true:=by simp [keyIs,Value.isStrOf]
theorem key_ll (a b:Int):decide ((Sum.inl a:Key) = Sum.inl b) = (a == b):=by
 by_cases e:a = b
 ·subst e; simp
 ·have h:¬ (Sum.inl a:Key) = Sum.inl b:=fun q=>e (Sum.inl.inj q)
  rw [decide_eq_false h]
  exact (beq_eq_false_iff_ne.mpr e).symm
theorem key_rr (a b:Str):decide ((Sum.inr a:Key) = Sum.inr b) = decide (a = b):=by
 by_cases e:a = b
 ·subst e; simp
 ·have h:¬ (Sum.inr a:Key) = Sum.inr b:=fun q=>e (Sum.inr.inj q)
  rw [decide_eq_false h,decide_eq_false e]
theorem key_lr (a:Int) (b:Str):decide ((Sum.inl a:Key) = Sum.inr b) = false:=decide_eq_false (fun q=>nomatch q)
theorem key_rl (a:Str) (b:Int):decide ((Sum.inr a:Key) = Sum.inl b) = false:=decide_eq_false (fun q=>nomatch q)
noncomputable def mixKind (prog:Program) (w:World):PySem.KeyKind prog w Key where
 is:=keyIs
 hash:=keyH w
 inj:=fun v a b ha hb=>by
  rcases keyIs_shape ha with ⟨i,t,rfl,rfl⟩ | ⟨x,t,rfl,rfl⟩
  ·rcases keyIs_shape hb with ⟨j,u,rfl,e⟩ | ⟨y,u,rfl,e⟩
   ·injection e with e1 _; rw [e1]
   ·exact nomatch e
  ·rcases keyIs_shape hb with ⟨j,u,rfl,e⟩ | ⟨y,u,rfl,e⟩
   ·exact nomatch e
   ·injection e with e1 _; rw [e1]
 byValue:=fun k v h=>by
  rcases keyIs_shape h with ⟨i,t,rfl,rfl⟩ | ⟨x,t,rfl,rfl⟩ <;> rfl
 pyHash:=fun hv h=>by
  rcases keyIs_shape hv with ⟨i,t,rfl,rfl⟩ | ⟨x,t,rfl,rfl⟩
  ·exact wpAny_pyHash_int h
  ·exact wpAny_pyHash_str h
 eqBool:=fun hu hv h=>by
  rcases keyIs_shape hu with ⟨i,t,rfl,rfl⟩ | ⟨x,t,rfl,rfl⟩
  ·rcases keyIs_shape hv with ⟨j,u,rfl,rfl⟩ | ⟨y,u,rfl,rfl⟩
   ·rw [key_ll] at h; exact wpAny_eqBool_int h
   ·rw [key_lr] at h; exact SeqAt.EqAt.int_str i t y u _ _ _ _ h
  ·rcases keyIs_shape hv with ⟨j,u,rfl,rfl⟩ | ⟨y,u,rfl,rfl⟩
   ·rw [key_rl] at h; exact SeqAt.EqAt.str_int x t j u _ _ _ _ h
   ·rw [key_rr] at h; exact wpAny_eqBool_str h
 «strs»:=fun k x t v h=>by
  rcases keyIs_shape h with ⟨i,u,rfl,e⟩ | ⟨y,u,rfl,e⟩
  ·exact nomatch e
  ·injection e with e1 _
   subst e1
   cases v <;> rfl
theorem mixKind_int (prog:Program) (w:World) (i:Int) (t:Tok):(mixKind prog w).is (.inl i) (.int i t) = true:=keyIs_int i t
theorem mixKind_str (prog:Program) (w:World) (x:Str) (t:Tok):(mixKind prog w).is (.inr x) (.str x t) = true:=keyIs_str x t
end L2
namespace L2
open PySem PySem.Spec PyProof.Rows
inductive V where
 | non | bl (b:Bool) | int (i:Int) | str (x:Str) | byt (b:Array UInt8) | flt (b:UInt64) | ref (a:Addr) | ty (n:String)
 deriving DecidableEq
noncomputable def RelV:V->Value->Prop
 | .non,u=>u = Value.none
 | .bl b,u=>u = Value.bool b
 | .int i,u=>∃ t,u = Value.int i t
 | .str x,u=>∃ t,u = Value.str x t
 | .byt b,u=>∃ t,u = Value.bytes b t
 | .flt b,u=>∃ t,u = Value.float b t
 | .ref a,u=>u = Value.ref a
 | .ty n,u=>u = Value.type n
noncomputable abbrev Vals:List V->List Value->Prop:=Paired RelV
theorem Vals.length {xs:List V} {us:List Value} (r:Vals xs us):xs.length = us.length:=Paired.length r
theorem Vals.get:∀ {xs:List V} {us:List Value} {i:Nat} {x:V},Vals xs us->xs[i]? = some x->∃ u,us[i]? = some u /\ RelV x u
 | _,_,_,_,.nil,e=>by simp at e
 | _,_,0,_,.cons r _,e=>by simp at e; subst e; exact ⟨_,rfl,r⟩
 | _,_,i + 1,x,.cons _ t,e=>by
  obtain ⟨u,h1,h2⟩:=Vals.get (i:=i) (x:=x) t (by simpa using e)
  exact ⟨u,by simpa using h1,h2⟩
theorem Vals.append:∀ {xs ys:List V} {us ws:List Value},Vals xs us->Vals ys ws->Vals (xs ++ ys) (us ++ ws)
 | _,_,_,_,.nil,s=>s
 | _,_,_,_,.cons r t,s=>.cons r (Vals.append t s)
theorem Vals.take:∀ {xs:List V} {us:List Value} (n:Nat),Vals xs us->Vals (xs.take n) (us.take n)
 | _,_,0,_=>.nil
 | _,_,_ + 1,.nil=>.nil
 | _,_,n + 1,.cons r t=>.cons r (Vals.take n t)
theorem Vals.drop:∀ {xs:List V} {us:List Value} (n:Nat),Vals xs us->Vals (xs.drop n) (us.drop n)
 | _,_,0,r=>r
 | _,_,_ + 1,.nil=>.nil
 | _,_,n + 1,.cons _ t=>Vals.drop n t
noncomputable def RelO:Option V->Option Value->Prop
 | some v,some u=>RelV v u
 | none,none=>True
 | _,_=>False
noncomputable def KV {κ:Type}:List (κ × V)->List (κ × Value)->Prop:=Paired fun (p:κ × V) (q:κ × Value)=>p.1 = q.1 /\ RelV p.2 q.2
noncomputable def kV:Key->V
 | .inl i=>.int i
 | .inr x=>.str x
inductive HO where
 | lst (xs:List V)
 | tup (xs:List V)
 | dK (kvs:List (Key × V)) | dT (kvs:List (List Key × V))
 | set (S:Int->Bool) (n:Nat)
 | ins (C dx:Addr) (fs:List (Str × V))
 | own (x:Addr)
 | xd (fs:List (Str × V))
 | met (f x:Addr)
 | rng (lo hi:Int)
 | frz (o:Obj) (u:HO)
 | tbl (ps:Array Value)
 | ext (φ:Heap->Prop)
noncomputable abbrev Hp:=Addr->Option HO
noncomputable def upd (H:Hp) (a:Addr) (o:HO):Hp:=fun b=>if b = a then some o else H b
theorem upd_same {H:Hp} {a:Addr} {o:HO}:upd H a o a = some o:=by unfold upd; rw [if_pos rfl]
theorem upd_ne {H:Hp} {a b:Addr} {o:HO} (h:b ≠ a):upd H a o b = H b:=by unfold upd; rw [if_neg h]
theorem upd_upd {H:Hp} {a:Addr} {o u:HO}:upd (upd H a o) a u = upd H a u:=by
 funext b; unfold upd; split <;> rfl
theorem ne_of {H:Hp} {a b:Addr} {o u:HO} (h:H a = some o) (h':H b = some u) (d:o ≠ u):a ≠ b:=by
 intro e; subst e; rw [h] at h'; exact d (Option.some.inj h')
theorem ne_of_none {H:Hp} {a b:Addr} {o:HO} (h:H a = some o) (h':H b = none):a ≠ b:=by
 intro e; subst e; rw [h] at h'; cases h'
section
variable (P:Program) (w:World)
noncomputable def ObjOk (H:Hp) (h:Heap) (a:Addr):HO->Prop
 | .lst xs=>xs.length <= sizeLine /\ ∃ (its:List Value) (n:Nat),Vals xs its /\ h.get? a = some { cls:=.type "list",data:=.seq its.toArray n }
 | .tup xs=>xs.length <= sizeLine /\ ∃ its:List Value,Vals xs its /\ IsTup h a its.toArray
 | .dK kvs=>kvs.length <= sizeLine /\ (a == sysModules) = false /\ ∃ vs,KV kvs vs /\ h.DictOf (mixKind P w) a vs
 | .dT kvs=>kvs.length <= sizeLine /\ (a == sysModules) = false /\ ∃ xs:List (List Key × Addr × Value),
   Paired (fun (p:List Key × V) (q:List Key × Addr × Value)=>p.1 = q.1 /\ H q.2.1 = some (.tup (p.1.map kV)) /\ RelV p.2 q.2.2) kvs xs /\
   ∃ o es ep,h.get? a = some o /\ o.ExactDict /\ o.data = .dict es ep /\ es.toList = xs.map (entryOfKey (tupleKind (mixKind P w))) /\ (xs.map (·.1)).Nodup
 | .set S n=>h.SetOf (intKind P w) a S n
 | .ins C dx fs=>H dx = some (.own a) /\ fs.length <= 1000 /\ dx ≠ a /\ h.get? a = some (PySem.W.instObj C dx) /\
   ∃ mA,h.Ns1 dx mA /\ (∀ f,RelO (fs.lookup f) (mA f)) /\ PySem.Within mA (fs.map (·.1))
 | .own _=>∃ o,h.get? a = some o
 | .xd fs=>∃ mA,h.Ns1 a mA /\ ∀ f,RelO (fs.lookup f) (mA f)
 | .rng lo hi=>∃ t u v,h.get? a = some { cls:=.type "range",data:=.fields #[.int lo t,.int hi u,.int 1 v] }
 | .frz o u=>h.get? a = some o /\ ObjOk H h a u
 | .tbl ps=>h.get? a = some { cls:=.none,data:=.fields ps }
 | .met f x=>h.get? a = some (PySem.W.methodObj (.ref f) (.ref x))
 | .ext φ=>φ h /\ (∃ o,h.get? a = some o) /\ ∀ h1 h2:Heap,φ h1->(∀ o,h1.get? a = some o->h2.get? a = some o)->φ h2
noncomputable def HOk (H:Hp) (h:Heap):Prop:=∀ a o,H a = some o->ObjOk P w H h a o
end
section
variable {P:Program} {w:World} {H H':Hp} {h h':Heap} {a:Addr} {o:HO}
theorem ObjOk.lt (x:ObjOk P w H h a o):a < h.objs.size:=by
 cases o with
 | lst xs=>obtain ⟨_,_,_,_,e⟩:=x; exact Heap.lt_size e
 | tup xs=>obtain ⟨_,_,_,p⟩:=x; exact p.lt
 | dK kvs=>obtain ⟨_,_,_,_,o,_,_,e,_⟩:=x; exact Heap.lt_size e
 | dT kvs=>obtain ⟨_,_,_,_,o,_,_,e,_⟩:=x; exact Heap.lt_size e
 | set S n=>obtain ⟨o,_,_,_,e,_⟩:=x; exact Heap.lt_size e
 | ins C dx fs=>obtain ⟨_,_,_,e,_⟩:=x; exact Heap.lt_size e
 | own y=>obtain ⟨_,e⟩:=x; exact Heap.lt_size e
 | xd fs=>obtain ⟨_,⟨_,_,_,e,_⟩,_⟩:=x; exact Heap.lt_size e
 | rng lo hi=>obtain ⟨_,_,_,e⟩:=x; exact Heap.lt_size e
 | frz ob u=>obtain ⟨e,_⟩:=x; exact Heap.lt_size e
 | tbl ps=>exact Heap.lt_size (show h.get? a = some _ from x)
 | met f y=>exact Heap.lt_size (show h.get? a = some _ from x)
 | ext φ=>obtain ⟨_,⟨_,e⟩,_⟩:=x; exact Heap.lt_size e
theorem Paired.mapP {α β:Type} {F G:α->β->Prop}:∀ {l₁:List α} {l₂:List β},Paired F l₁ l₂->(∀ a b,F a b->G a b)->Paired G l₁ l₂
 | _,_,.nil,_=>.nil
 | _,_,.cons r t,f=>.cons (f _ _ r) (Paired.mapP t f)
theorem ObjOk.stay (x:ObjOk P w H h a o) (k:∀ b u,(b = a \/ H b = some (.own a))->h.get? b = some u->h'.get? b = some u)
  (ho:∀ b,H b = some (.own a)->H' b = some (.own a)) (ht:∀ b xs,H b = some (.tup xs)->H' b = some (.tup xs)):ObjOk P w H' h' a o:=by
 induction o with
 | lst xs=>obtain ⟨z,its,n,r,e⟩:=x; exact ⟨z,its,n,r,k _ _ (.inl rfl) e⟩
 | tup xs=>obtain ⟨z,its,r,ob,e,c⟩:=x; exact ⟨z,its,r,ob,k _ _ (.inl rfl) e,c⟩
 | dK kvs=>obtain ⟨z,y,vs,r,ob,es,ep,e,c⟩:=x; exact ⟨z,y,vs,r,ob,es,ep,k _ _ (.inl rfl) e,c⟩
 | dT kvs =>
  obtain ⟨z,y,xs,r,ob,es,ep,e,c⟩:=x
  exact ⟨z,y,xs,Paired.mapP r fun p q z=>⟨z.1,ht _ _ z.2.1,z.2.2⟩,ob,es,ep,k _ _ (.inl rfl) e,c⟩
 | set S n=>obtain ⟨ob,es,ep,t,e,c⟩:=x; exact ⟨ob,es,ep,t,k _ _ (.inl rfl) e,c⟩
 | ins C dx fs =>
  obtain ⟨d,z,ne,e,mA,⟨od,es,ep,e2,c⟩,r⟩:=x
  exact ⟨ho _ d,z,ne,k _ _ (.inl rfl) e,mA,⟨od,es,ep,k _ _ (.inr d) e2,c⟩,r⟩
 | own y=>obtain ⟨ob,e⟩:=x; exact ⟨ob,k _ _ (.inl rfl) e⟩
 | xd fs=>obtain ⟨mA,⟨od,es,ep,e,c⟩,r⟩:=x; exact ⟨mA,⟨od,es,ep,k _ _ (.inl rfl) e,c⟩,r⟩
 | rng lo hi=>obtain ⟨t,u,v,e⟩:=x; exact ⟨t,u,v,k _ _ (.inl rfl) e⟩
 | frz ob u ih=>obtain ⟨e,q⟩:=x; exact ⟨k _ _ (.inl rfl) e,ih q⟩
 | tbl ps =>
  have e:h.get? a = some { cls:=.none,data:=.fields ps }:=x
  show h'.get? a = some { cls:=.none,data:=.fields ps }
  exact k a _ (.inl rfl) e
 | met f y =>
  have e:h.get? a = some (PySem.W.methodObj (.ref f) (.ref y)):=x
  show h'.get? a = some (PySem.W.methodObj (.ref f) (.ref y))
  exact k a _ (.inl rfl) e
 | ext φ=>obtain ⟨p,⟨o,e⟩,st⟩:=x; exact ⟨st _ _ p fun o q=>k _ _ (.inl rfl) q,⟨o,k _ _ (.inl rfl) e⟩,st⟩
theorem HOk.lt (x:HOk P w H h) (e:H a = some o):a < h.objs.size:=(x a o e).lt
theorem HOk.fresh (x:HOk P w H h) (e:h.objs.size <= a):H a = none:=by
 cases q:H a with
 | none=>rfl
 | some u=>exact absurd (Nat.lt_of_lt_of_le (x.lt q) e) (Nat.lt_irrefl _)
theorem HOk.kept (x:HOk P w H h) (k:∀ b u,h.get? b = some u->h'.get? b = some u):HOk P w H h':=fun a o e =>
 (x a o e).stay (fun b u _ q=>k b u q) (fun _ q=>q) fun _ _ q=>q
theorem HOk.laid (x:HOk P w H h) (k:∀ b u,h.get? b = some u->h'.get? b = some u) (hp:h.objs.size <= a) (new:ObjOk P w (upd H a o) h' a o):HOk P w (upd H a o) h':=fun b u e=>by
 have hn:=x.fresh hp
 by_cases hb:b = a
 ·subst hb; rw [upd_same] at e; cases e; exact new
 ·rw [upd_ne hb] at e
  exact (x b u e).stay (fun c v _ q=>k c v q) (fun c q=>by rw [upd_ne (ne_of_none q hn)]; exact q) fun c xs q=>by rw [upd_ne (ne_of_none q hn)]; exact q
end
noncomputable def Rd (H:Hp) (a:Addr) (u:HO):Prop:=H a = some u \/ ∃ o,H a = some (.frz o u)
theorem Rd.ok {P:Program} {w:World} {H:Hp} {h:Heap} {a:Addr} {u:HO} (r:Rd H a u) (x:HOk P w H h):ObjOk P w H h a u:=by
 rcases r with r | ⟨o,r⟩
 ·exact x a u r
 ·obtain ⟨_,q⟩:=x a _ r
  exact q
noncomputable def Mut:Option HO->Prop
 | some (.lst _)=>True
 | some (.dK _)=>True
 | some (.dT _)=>True
 | some (.set _ _)=>True
 | some (.ins _ _ _)=>True
 | some (.ext _)=>True
 | _=>False
section
variable {P:Program} {w:World} {H:Hp} {h h':Heap} {x e:Addr} {o':HO}
theorem HOk.write (ok:HOk P w H h) (mu:Mut (H x)) (he:e = x \/ H e = some (.own x)) (k:∀ b u,b ≠ e->h.get? b = some u->h'.get? b = some u) (heo:∃ u,h'.get? e = some u)
  (new:ObjOk P w (upd H x o') h' x o'):HOk P w (upd H x o') h':=fun b u q=>by
 have nown:∀ c y,H c = some (.own y)->c ≠ x:=fun c y r z=>by subst z; rw [r] at mu; exact mu
 have ntup:∀ c xs,H c = some (.tup xs)->c ≠ x:=fun c xs r z=>by subst z; rw [r] at mu; exact mu
 by_cases hb:b = x
 ·subst hb; rw [upd_same] at q; cases q; exact new
 ·rw [upd_ne hb] at q
  by_cases hbe:b = e
  ·have q':H b = some (.own x):=by
    rcases he with z | z
    ·exact absurd (hbe.trans z) hb
    ·rw [hbe]; exact z
   rw [q] at q'; cases q'
   obtain ⟨v,hv⟩:=heo
   exact ⟨v,by rw [hbe]; exact hv⟩
  ·refine (ok b u q).stay (fun c v hc r=>k c v ?_ r) (fun c r=>by rw [upd_ne (nown c b r)]; exact r) fun c xs r=>by rw [upd_ne (ntup c xs r)]; exact r
   rcases hc with rfl | hc
   ·exact hbe
   ·rintro rfl
    rcases he with z | z
    ·exact nown c b hc z
    ·rw [hc] at z; cases z; exact hb rfl
end
structure Un (fs ex:List Addr) (H H':Hp) (h h':Heap):Prop where
 keep:∀ b o,h.get? b = some o->H b = none->b ∉ fs->b ∉ ex->h'.get? b = some o
 slot:∀ b o,h.get? b = some o->H b = none->b ∈ fs->b ∉ ex->∃ sl,h'.get? b = some { o with slots:=sl }
 free:∀ b o,h.get? b = some o->H b = none->b ∉ ex->H' b = none
 there:∀ b o,h.get? b = some o->b ∉ ex->∃ o',h'.get? b = some o'
 tups:∀ b xs,H b = some (.tup xs)->H' b = some (.tup xs)
 frzs:∀ b o u,H b = some (.frz o u)->H' b = some (.frz o u)
 tbls:∀ b ps,H b = some (.tbl ps)->∃ more,H' b = some (.tbl (ps ++ more))
section
variable {fs fs' ex ex':List Addr} {H H1 H2:Hp} {h h1 h2 h':Heap} {a x e:Addr} {o:HO}
theorem Un.any (u:Un fs ex H H1 h h1) {b:Addr} {ob:Obj} (q:h.get? b = some ob) (n:H b = none) (hx:b ∉ ex):∃ sl,h1.get? b = some { ob with slots:=sl }:=by
 by_cases hb:b ∈ fs
 ·exact u.slot b ob q n hb hx
 ·exact ⟨ob.slots,u.keep b ob q n hb hx⟩
theorem Un.kept (k:∀ b u,h.get? b = some u->h'.get? b = some u):Un fs ex H H h h' :=
 ⟨fun b ob q _ _ _=>k b ob q,fun b ob q _ _ _=>⟨ob.slots,k b ob q⟩,fun _ _ _ n _=>n,fun b ob q _=>⟨ob,k b ob q⟩,fun _ _ q=>q,fun _ _ _ q=>q,fun _ ps q=>⟨#[],by rw [q]; simp⟩⟩
theorem Un.refl:Un fs ex H H h h:=Un.kept fun _ _ q=>q
theorem Un.laid (k:∀ b u,h.get? b = some u->h'.get? b = some u) (hp:h.objs.size <= a) (hn:H a = none):Un fs ex H (upd H a o) h h' where
 keep:=fun b u q _ _ _=>k b u q
 slot:=fun b u q _ _ _=>⟨u.slots,k b u q⟩
 free:=fun b u q n _=>by rw [upd_ne (Nat.ne_of_lt (Nat.lt_of_lt_of_le (Heap.lt_size q) hp))]; exact n
 there:=fun b u q _=>⟨u,k b u q⟩
 tups:=fun b xs q=>by rw [upd_ne (ne_of_none q hn)]; exact q
 frzs:=fun b u xs q=>by rw [upd_ne (ne_of_none q hn)]; exact q
 tbls:=fun b ps q=>⟨#[],by rw [upd_ne (ne_of_none q hn),q]; simp⟩
theorem Un.write (mu:Mut (H x)) (he:e = x \/ H e = some (.own x)) (k:∀ b u,b ≠ e->h.get? b = some u->h'.get? b = some u) (heo:∃ u,h'.get? e = some u):Un fs ex H (upd H x o) h h':=by
 have hx:∀ b,H b = none->b ≠ x:=fun b n z=>by subst z; rw [n] at mu; exact mu
 have hb:∀ b,H b = none->b ≠ e:=fun b n z=>by
  subst z
  rcases he with r | r
  ·exact hx b n r
  ·rw [n] at r; cases r
 have hm:∀ b u,H b = some u->¬ Mut (some u)->b ≠ x:=fun b u q nm z=>by subst z; rw [q] at mu; exact nm mu
 refine ⟨fun b u q n _ _=>k b u (hb b n) q,fun b u q n _ _=>⟨u.slots,k b u (hb b n) q⟩,fun b u q n _=>by rw [upd_ne (hx b n)]; exact n,fun b u q _=>?_,
  fun b xs q=>by rw [upd_ne (hm b _ q fun z=>z)]; exact q,fun b u xs q=>by rw [upd_ne (hm b _ q fun z=>z)]; exact q,fun b ps q=>⟨#[],by rw [upd_ne (hm b _ q fun z=>z),q]; simp⟩⟩
 by_cases hbe:b = e
 ·subst hbe; exact heo
 ·exact ⟨u,k b u hbe q⟩
end
noncomputable def trk (h:Heap) (H:Hp):List Addr:=(List.range h.objs.size).filter fun a=>(H a).isSome
noncomputable def hidT (h:Heap) (H:Hp):Heap:=PySem.W.hideAll h (trk h H)
theorem hidT_size (h:Heap) (H:Hp):(hidT h H).objs.size = h.objs.size:=PySem.W.hideAll_size _ _
theorem hidT_get {h:Heap} {H:Hp} {b:Addr} {o:Obj} (e:h.get? b = some o) (n:H b = none):(hidT h H).get? b = some o :=
 PySem.W.hideAll_get _ e fun hm=>by
  have q:(H b).isSome = true:=(List.mem_filter.mp hm).2
  rw [n] at q; simp at q
theorem of_hidT {h:Heap} {H:Hp} {b:Addr} {o:Obj} (e:(hidT h H).get? b = some o):h.get? b = some o /\ H b = none:=by
 have e':h.get? b = some o:=PySem.W.of_hideAll (trk h H) e
 refine ⟨e',?_⟩
 cases q:H b with
 | none=>rfl
 | some x =>
  have hm:b ∈ trk h H:=List.mem_filter.mpr ⟨List.mem_range.mpr (Heap.lt_size e'),by simp [q]⟩
  have z:(hidT h H).get? b = none:=PySem.W.hideAll_none (trk h H) hm
  rw [z] at e; cases e
noncomputable def allNews (g h:Heap) (L:Addr):List (Addr × Obj):=(List.range h.objs.size).filterMap fun a=>if a = L \/ (g.get? a).isSome = true then none else (h.get? a).map fun o=>(a,o)
theorem mem_allNews {g h:Heap} {L a:Addr} {o:Obj} (h1:a ≠ L) (h2:g.get? a = none) (h3:h.get? a = some o):(a,o) ∈ allNews g h L :=
 List.mem_filterMap.mpr ⟨a,List.mem_range.mpr (Heap.lt_size h3),by simp [h1,h2,h3]⟩
theorem of_mem_allNews {g h:Heap} {L:Addr} {p:Addr × Obj} (hp:p ∈ allNews g h L):p.1 ≠ L /\ g.get? p.1 = none /\ h.get? p.1 = some p.2:=by
 obtain ⟨b,_,e⟩:=List.mem_filterMap.mp hp
 split at e
 ·cases e
 ·rename_i hn
  cases q:h.get? b with
  | none=>rw [q] at e; simp at e
  | some u =>
   rw [q] at e
   simp only [Option.map_some,Option.some.injEq] at e
   subst e
   refine ⟨fun z=>hn (.inl z),?_,q⟩
   show g.get? b = none
   cases r:g.get? b with
   | none=>rfl
   | some v=>exact (hn (.inr (by simp [r]))).elim
theorem news_all {g h:Heap} {L:Addr}:News g L h (allNews g h L):=fun p hp=>let ⟨a,b,c⟩:=of_mem_allNews hp; ⟨c,a,b⟩
end L2
namespace L2
open PySem PySem.Spec PyProof.Rows
structure Mod (K:PySem.W.Frag) (mg:Str->Option Value) (base:Heap):Prop where
 kin:K.In base
 glob:base.Ns mainGlobals mg
 blt:∃ mb,base.Ns builtinsNs mb /\ ∀ x:Str,x ≠ "__name__"->mb x = bootBuiltins x
 nolimit:base.NoLimit
set_option genInjectivity false in
structure Cx where
 prog:Program
 w:World
 K:PySem.W.Frag
 mg:Str->Option Value
 base:Heap
 A:Around
 N:List Str
 s₀:Shared
 H₀:Hp
 env:Env
 outer:List Env
 stack:List Env
 ex:List Addr
 fn:Str->Bool
 calm:Bool
 pn:List (Addr × Obj)
 xe:Value->Shared->Prop
noncomputable def frs (l:List Env):List Addr:=l.filterMap (·.frame)
noncomputable abbrev Cx.fs (X:Cx):List Addr:=frs X.outer
noncomputable def Vis (sc:Scope) (x:Str):Prop:=sc.names.lookup x = some .local \/ sc.names.lookup x = some .cell \/ sc.names.lookup x = some .free
noncomputable def Loc (sc:Scope) (x:Str):Prop:=sc.names.lookup x = some .local \/ sc.names.lookup x = some .cell
noncomputable def Look (env:Env) (h:Heap) (m:Str->Option Value) (x:Str) (u:Value):Prop :=
 (env.kindOf x = some .local /\ m x = some u) \/ ((env.kindOf x = some .cell \/ env.kindOf x = some .free) /\ ∃ c,env.cells.lookup x = some c /\ h.IsCell c (some u))
structure Cx.Ok (X:Cx):Prop where
 mod:Mod X.K X.mg X.base
 kind:X.env.scope.kind = .function
 glob:X.env.globals = mainGlobals
 blt:X.env.builtins = builtinsNs
 above:X.s₀.heap.objs.size <= X.env.locals
 inj:∀ x y c,X.env.cells.lookup x = some c->X.env.cells.lookup y = some c->x = y
 has:∀ x,(X.env.kindOf x = some .cell \/ X.env.kindOf x = some .free)->∃ c,X.env.cells.lookup x = some c
 cab:∀ x c,X.fn x = true->X.env.cells.lookup x = some c->X.s₀.heap.objs.size <= c
 hd:X.calm = true->X.A.handled = none
 frames:X.A.frames = some X.stack
 stk:X.stack = X.outer \/ (X.stack = X.env :: X.outer /\ X.env.frame = some X.env.locals)
 exf:∀ b ∈ X.ex,b ≠ X.env.locals /\ ∀ x c,X.env.cells.lookup x = some c->c ≠ b
 bs:∀ b o,X.base.get? b = some o->X.s₀.heap.get? b = some o /\ X.H₀ b = none
 bsz:X.base.objs.size <= X.s₀.heap.objs.size
 noex:∀ b o,X.base.get? b = some o->b ∉ X.ex
 exfs:∀ b ∈ X.ex,b ∉ X.fs
 funs:X.s₀.heap.FunFrames X.base X.outer
 frf:∀ b ∈ X.fs,X.H₀ b = none
structure Inv (X:Cx) (pins:List (Addr × Obj)) (σ:List (Option V)) (H:Hp) (s:Shared):Prop where
 ok:X.Ok
 os:s.os = X.s₀.os
 bare:AllBare s.gens
 base:Un X.fs X.ex X.H₀ H X.s₀.heap s.heap
 loc:∃ m,s.heap.Ns X.env.locals m /\ ∀ (i:Nat) (x:Str) (v:V),X.N[i]? = some x->σ[i]? = some (some v)->Vis X.env.scope x->∃ u,RelV v u /\ Look X.env s.heap m x u
 cell:∀ x c,X.env.cells.lookup x = some c->∃ v,s.heap.IsCell c v
 free:H X.env.locals = none
 freeC:∀ x c,X.env.cells.lookup x = some c->H c = none
 pin:∀ p ∈ X.pn ++ pins,s.heap.get? p.1 = some p.2 /\ H p.1 = none /\ p.1 ≠ X.env.locals /\ p.1 ∉ X.fs /\ ∀ v,p.2.data ≠ .cell v
 hok:HOk X.prog X.w H s.heap
 len:σ.length = X.N.length
section
variable {X:Cx} {pins:List (Addr × Obj)} {σ:List (Option V)} {H H':Hp} {s:Shared} {h':Heap}
theorem Cx.Ok.nofr (ok:X.Ok) {b:Addr} {o:Obj} (e:X.base.get? b = some o):b ∉ X.fs:=fun hb=>by
 have:=(ok.funs.mem hb).1
 rw [e] at this; cases this
theorem Inv.bs (I:Inv X pins σ H s):∀ b o,X.base.get? b = some o->s.heap.get? b = some o /\ H b = none:=fun b o e =>
 ⟨I.base.keep b o (I.ok.bs b o e).1 (I.ok.bs b o e).2 (I.ok.nofr e) (I.ok.noex b o e),I.base.free b o (I.ok.bs b o e).1 (I.ok.bs b o e).2 (I.ok.noex b o e)⟩
theorem Inv.bk (I:Inv X pins σ H s):∀ b o,X.base.get? b = some o->s.heap.get? b = some o:=fun b o e=>(I.bs b o e).1
theorem Inv.mod (I:Inv X pins σ H s):Mod X.K X.mg X.base:=I.ok.mod
theorem Inv.kIn (I:Inv X pins σ H s):X.K.In s.heap:=I.ok.mod.kin.keeps I.bk
theorem Inv.lt (I:Inv X pins σ H s):X.env.locals < s.heap.objs.size:=let ⟨_,hn,_⟩:=I.loc; hn.lt
theorem Inv.sz (I:Inv X pins σ H s):X.s₀.heap.objs.size <= s.heap.objs.size:=Nat.le_trans I.ok.above (Nat.le_of_lt I.lt)
theorem Inv.nofs (I:Inv X pins σ H s) {a:Addr} (h:s.heap.objs.size <= a):a ∉ X.fs:=fun hb=>by
 obtain ⟨_,o,ho,_⟩:=I.ok.funs.mem hb
 exact absurd (Nat.lt_of_lt_of_le (Heap.lt_size ho) (Nat.le_trans I.sz h)) (Nat.lt_irrefl _)
theorem Inv.cne (I:Inv X pins σ H s):∀ x c,X.env.cells.lookup x = some c->c ≠ X.env.locals:=fun x c e z=>by
 obtain ⟨v,o,ho,hd⟩:=I.cell x c e
 obtain ⟨m,⟨o',es,ep,ho',hd',_⟩,_⟩:=I.loc
 rw [z,ho'] at ho; cases ho; rw [hd'] at hd; cases hd
theorem Inv.funs (I:Inv X pins σ H s):s.heap.FunFrames X.base X.outer:=by
 have all:∀ (l:List Env),(∀ b ∈ frs l,b ∈ X.fs)->X.s₀.heap.FunFrames X.base l->s.heap.FunFrames X.base l:=by
  intro l
  induction l with
  | nil=>intro _ _; trivial
  | cons env r ih =>
   intro hs hl
   obtain ⟨hk,⟨L,o,hf,hn,ho,hd⟩,hr⟩:=hl
   have hL:L ∈ X.fs:=hs L (by unfold frs; rw [List.filterMap_cons,hf]; exact List.mem_cons_self)
   obtain ⟨sl,e⟩:=I.base.slot L o ho (I.ok.frf L hL) hL fun z=>I.ok.exfs L z hL
   exact ⟨hk,⟨L,_,hf,hn,e,hd⟩,ih (fun b hb=>hs b (by unfold frs; rw [List.filterMap_cons,hf]; exact List.mem_cons_of_mem _ hb)) hr⟩
 exact all X.outer (fun _ hb=>hb) I.ok.funs
theorem Inv.stack (I:Inv X pins σ H s):s.heap.FunFrames X.base X.stack:=by
 rcases I.ok.stk with e | ⟨e,hf⟩
 ·rw [e]; exact I.funs
 ·rw [e]
  obtain ⟨m,hn,_⟩:=I.loc
  refine .cons (by rw [I.ok.kind]; decide) hf hn ?_ I.funs
  exact Heap.get?_none_of_le (Nat.le_trans I.ok.bsz I.ok.above)
theorem Inv.stkSub (I:Inv X pins σ H s):∀ b ∈ frs X.stack,b ∈ X.env.locals :: X.fs:=fun b hb=>by
 rcases I.ok.stk with e | ⟨e,hf⟩
 ·rw [e] at hb; exact List.mem_cons_of_mem _ hb
 ·rw [e] at hb
  unfold frs at hb
  rw [List.filterMap_cons,hf] at hb
  exact hb
theorem Inv.stkFree (I:Inv X pins σ H s):∀ b ∈ frs X.stack,H b = none:=fun b hb=>by
 rcases List.mem_cons.mp (I.stkSub b hb) with e | hb
 ·rw [e]; exact I.free
 ·obtain ⟨_,o,ho,_⟩:=I.ok.funs.mem hb
  exact I.base.free b o ho (I.ok.frf b hb) fun z=>I.ok.exfs b z hb
theorem Inv.step {g':Array GenState} {t':Nat} {d':Drawn} {ch:List Addr} (I:Inv X pins σ H s)
  (hch:∀ b ∈ ch,(b ∈ X.ex \/ X.s₀.heap.objs.size <= b) /\ b ≠ X.env.locals /\ (∀ x c,X.env.cells.lookup x = some c->c ≠ b) /\ ∀ p ∈ X.pn ++ pins,p.1 ≠ b)
  (keep:∀ b o,b ≠ X.env.locals->b ∉ X.fs->b ∉ ch->s.heap.get? b = some o->H b = none->h'.get? b = some o)
  (slot:∀ b o,b ≠ X.env.locals->b ∈ X.fs->b ∉ ch->s.heap.get? b = some o->H b = none->∃ sl,h'.get? b = some { o with slots:=sl }) (free:∀ b o,b ∉ ch->s.heap.get? b = some o->H b = none->H' b = none)
  (there:∀ b o,b ∉ ch->s.heap.get? b = some o->∃ o',h'.get? b = some o')
  (tups:∀ b xs,H b = some (.tup xs)->H' b = some (.tup xs)) (frzs:∀ b o u,H b = some (.frz o u)->H' b = some (.frz o u)) (tbls:∀ b ps,H b = some (.tbl ps)->∃ more,H' b = some (.tbl (ps ++ more)))
  (ns:∀ m,s.heap.Ns X.env.locals m->h'.Ns X.env.locals m) (hok:HOk X.prog X.w H' h') (hg:AllBare g') :
  Inv X pins σ H' { s with heap:=h',gens:=g',drawn:=d',toks:=t' }:=by
 have neL:∀ b o,X.s₀.heap.get? b = some o->b ≠ X.env.locals:=fun b o e=>Nat.ne_of_lt (Nat.lt_of_lt_of_le (Heap.lt_size e) I.ok.above)
 have neC:∀ b o,X.s₀.heap.get? b = some o->b ∉ X.ex->b ∉ ch:=fun b o e hx hb=>by
  rcases (hch b hb).1 with z | z
  ·exact hx z
  ·exact absurd (Nat.lt_of_lt_of_le (Heap.lt_size e) z) (Nat.lt_irrefl _)
 have cellK:∀ x c,X.env.cells.lookup x = some c->∀ v,s.heap.IsCell c v->h'.IsCell c v:=fun x c e v ⟨o,ho,hd⟩=>by
  have nch:c ∉ ch:=fun z=>(hch c z).2.2.1 x c e rfl
  by_cases hc:c ∈ X.fs
  ·obtain ⟨sl,q⟩:=slot c o (I.cne x c e) hc nch ho (I.freeC x c e)
   exact ⟨_,q,hd⟩
  ·exact ⟨o,keep c o (I.cne x c e) hc nch ho (I.freeC x c e),hd⟩
 refine ⟨I.ok,I.os,hg,⟨fun b o e n hb hx=>?_,fun b o e n hb hx=>?_,fun b o e n hx=>?_,fun b o e hx=>?_,fun b xs e=>tups b xs (I.base.tups b xs e),fun b o xs e=>frzs b o xs (I.base.frzs b o xs e),fun b ps e=>?_⟩,?_,fun x c e=>?_,?_,fun x c e=>?_,fun p hp=>?_,hok,I.len⟩
 ·exact keep b o (neL b o e) hb (neC b o e hx) (I.base.keep b o e n hb hx) (I.base.free b o e n hx)
 ·obtain ⟨sl,e1⟩:=I.base.slot b o e n hb hx
  obtain ⟨sl',e2⟩:=slot b _ (neL b o e) hb (neC b o e hx) e1 (I.base.free b o e n hx)
  exact ⟨sl',e2⟩
 ·obtain ⟨o',e1⟩:=I.base.there b o e hx
  exact free b o' (neC b o e hx) e1 (I.base.free b o e n hx)
 ·obtain ⟨o',e1⟩:=I.base.there b o e hx
  exact there b o' (neC b o e hx) e1
 ·obtain ⟨m1,e1⟩:=I.base.tbls b ps e
  obtain ⟨m2,e2⟩:=tbls b _ e1
  exact ⟨m1 ++ m2,by rw [e2,Array.append_assoc]⟩
 ·obtain ⟨m,hn,hl⟩:=I.loc
  refine ⟨m,ns m hn,fun i x v e1 e2 e3=>?_⟩
  obtain ⟨u,r,l⟩:=hl i x v e1 e2 e3
  refine ⟨u,r,?_⟩
  rcases l with l | ⟨k,c,e,z⟩
  ·exact .inl l
  ·exact .inr ⟨k,c,e,cellK x c e _ z⟩
 ·obtain ⟨v,z⟩:=I.cell x c e
  exact ⟨v,cellK x c e v z⟩
 ·obtain ⟨m,⟨o,_,_,ho,_⟩,_⟩:=I.loc
  exact free _ o (fun z=>(hch _ z).2.1 rfl) ho I.free
 ·obtain ⟨v,o,ho,hd⟩:=I.cell x c e
  exact free c o (fun z=>(hch c z).2.2.1 x c e rfl) ho (I.freeC x c e)
 ·obtain ⟨e,n,ne,nf,d⟩:=I.pin p hp
  have nch:p.1 ∉ ch:=fun z=>(hch p.1 z).2.2.2 p hp rfl
  exact ⟨keep p.1 p.2 ne nf nch e n,free p.1 p.2 nch e n,ne,nf,d⟩
theorem Inv.un {t':Nat} (I:Inv X pins σ H s) (u:Un X.fs [] H H' s.heap h') (hok:HOk X.prog X.w H' h'):Inv X pins σ H' { s with heap:=h',toks:=t' }:=by
 obtain ⟨m,⟨o,es,ep,ho,r⟩,_⟩:=id I.loc
 obtain ⟨sl,hL⟩:=u.any ho I.free (by simp)
 exact I.step (g':=s.gens) (d':=s.drawn) (ch:=[]) (fun _ z=>nomatch z) (fun b o _ hb _ e n=>u.keep b o e n hb (by simp)) (fun b o _ hb _ e n=>u.slot b o e n hb (by simp)) (fun b o _ e n=>u.free b o e n (by simp)) (fun b o _ e=>u.there b o e (by simp)) u.tups u.frzs u.tbls (fun m' hm=>by
  obtain ⟨o',es',ep',ho',r'⟩:=hm
  rw [ho] at ho'; cases ho'
  exact ⟨_,es',ep',hL,r'⟩) hok I.bare
theorem Inv.call {g':Array GenState} {t':Nat} {d':Drawn} {ch:List Addr} (I:Inv X pins σ H s) (u:Un (frs X.stack) ch H H' s.heap h') (hok:HOk X.prog X.w H' h') (hg:AllBare g')
  (hch:∀ b ∈ ch,(b ∈ X.ex \/ X.s₀.heap.objs.size <= b) /\ b ≠ X.env.locals /\ (∀ x c,X.env.cells.lookup x = some c->c ≠ b) /\ ∀ p ∈ X.pn ++ pins,p.1 ≠ b) :
  Inv X pins σ H' { s with heap:=h',gens:=g',drawn:=d',toks:=t' }:=by
 obtain ⟨m,⟨o,es,ep,ho,r⟩,_⟩:=id I.loc
 obtain ⟨sl,hL⟩:=u.any ho I.free fun z=>(hch _ z).2.1 rfl
 exact I.step (ch:=ch) hch (fun b o hL hb hc e n=>u.keep b o e n (fun z=>(List.mem_cons.mp (I.stkSub b z)).elim hL hb) hc) (fun b o _ _ hc e n=>u.any e n hc) (fun b o hc e n=>u.free b o e n hc) (fun b o hc e=>u.there b o e hc) u.tups u.frzs u.tbls (fun m' hm=>by
  obtain ⟨o',es',ep',ho',r'⟩:=hm
  rw [ho] at ho'; cases ho'
  exact ⟨_,es',ep',hL,r'⟩) hok hg
theorem Inv.turned {t':Nat} {it:Addr} (I:Inv X pins σ H s) (k:∀ b o,b ≠ it->s.heap.get? b = some o->h'.get? b = some o) (hn:H it = none) (hL:it ≠ X.env.locals)
  (h1:it ∈ X.ex \/ X.s₀.heap.objs.size <= it) (h2:∀ x c,X.env.cells.lookup x = some c->c ≠ it) (h3:∀ p ∈ X.pn ++ pins,p.1 ≠ it):Inv X pins σ H { s with heap:=h',toks:=t' }:=by
 have nit:∀ b u,H b = some u->b ≠ it:=fun b u e z=>by rw [z,hn] at e; cases e
 refine I.step (g':=s.gens) (d':=s.drawn) (ch:=[it]) (fun b hb=>?_) (fun b o _ _ hc e _=>k b o (fun z=>hc (by simp [z])) e) (fun b o _ _ hc e _=>⟨o.slots,k b o (fun z=>hc (by simp [z])) e⟩) (fun _ _ _ _ n=>n)
  (fun b o hc e=>⟨o,k b o (fun z=>hc (by simp [z])) e⟩) (fun _ _ e=>e) (fun _ _ _ e=>e) (fun b ps e=>⟨#[],by rw [e]; simp⟩) (fun m hm=>?_) (fun b u e=>?_) I.bare
 ·have e:b = it:=by simpa using hb
  subst e
  exact ⟨h1,hL,h2,h3⟩
 ·obtain ⟨o,es,ep,ho,r⟩:=hm
  exact ⟨o,es,ep,k _ o (Ne.symm hL) ho,r⟩
 ·refine (I.hok b u e).stay (fun c v hc q=>k c v ?_ q) (fun _ q=>q) fun _ _ q=>q
  rcases hc with z | z
  ·rw [z]; exact nit b u e
  ·exact nit c _ z
theorem Inv.tok (I:Inv X pins σ H s) (t:Nat):Inv X pins σ H { s with toks:=t }:=I.un (h':=s.heap) (t':=t) Un.refl I.hok
theorem Inv.kept {t':Nat} (I:Inv X pins σ H s) (k:∀ b u,s.heap.get? b = some u->h'.get? b = some u):Inv X pins σ H { s with heap:=h',toks:=t' }:=I.un (Un.kept k) (I.hok.kept k)
theorem Inv.laid {a:Addr} {o:HO} {t':Nat} (I:Inv X pins σ H s) (k:∀ b u,s.heap.get? b = some u->h'.get? b = some u) (hp:s.heap.objs.size <= a) (new:ObjOk X.prog X.w (upd H a o) h' a o) :
  Inv X pins σ (upd H a o) { s with heap:=h',toks:=t' }:=I.un (Un.laid k hp (I.hok.fresh hp)) (I.hok.laid k hp new)
theorem Inv.write {x e:Addr} {o:HO} {t':Nat} (I:Inv X pins σ H s) (mu:Mut (H x)) (he:e = x \/ H e = some (.own x)) (k:∀ b u,b ≠ e->s.heap.get? b = some u->h'.get? b = some u) (heo:∃ u,h'.get? e = some u)
  (new:ObjOk X.prog X.w (upd H x o) h' x o):Inv X pins σ (upd H x o) { s with heap:=h',toks:=t' }:=I.un (Un.write mu he k heo) (I.hok.write mu he k heo new)
theorem Inv.pins_of {pins':List (Addr × Obj)} (I:Inv X pins σ H s) (h:∀ p ∈ pins',s.heap.get? p.1 = some p.2 /\ H p.1 = none /\ p.1 ≠ X.env.locals /\ p.1 ∉ X.fs /\ ∀ v,p.2.data ≠ .cell v):Inv X pins' σ H s :=
 ⟨I.ok,I.os,I.bare,I.base,I.loc,I.cell,I.free,I.freeC,fun p hp=>(List.mem_append.mp hp).elim (fun z=>I.pin p (List.mem_append_left _ z)) (h p),I.hok,I.len⟩
theorem nodup_ix {N:List Str} (hN:N.Nodup) {i j:Nat} {x:Str} (a:N[i]? = some x) (b:N[j]? = some x):i = j:=by
 obtain ⟨h1,e1⟩:=List.getElem?_eq_some_iff.mp a
 obtain ⟨h2,e2⟩:=List.getElem?_eq_some_iff.mp b
 exact (List.getElem_inj hN).mp (e1.trans e2.symm)
theorem store_ok2 {M:Model} {A:Around} {E:Value->Shared->Prop} {i:Nat} {x:Str} {v:V} {u:Value} {Q:Unit->Shared->Prop} (I:Inv X pins σ H s) (hN:X.N.Nodup) (hi:X.N[i]? = some x) (hx:Loc X.env.scope x) (r:RelV v u)
  (h:∀ s',Inv X pins (σ.set i (some v)) H s'->(∃ a,Heap.SameBut a s.heap s'.heap /\ (a = X.env.locals \/ X.env.cells.lookup x = some a))->Q () s') (hf:X.fn x = true \/ X.env.scope.names.lookup x = some .local:=by first | exact .inl rfl | exact .inr rfl | assumption):wpAny M A (storeName X.env x u) Q E s:=by
 obtain ⟨m,hn,hl⟩:=id I.loc
 have hcls:(X.env.scope.kind == .class || (X.env.scope.kind == .module && X.env.locals != X.env.globals)) = false:=by rw [I.ok.kind]; rfl
 have hiσ:i < σ.length:=by rw [I.len]; exact (List.getElem?_eq_some_iff.mp hi).1
 have cne:=I.cne
 have tracked:∀ {a:Addr} {h':Heap},(∃ o,s.heap.get? a = some o /\ H a = none)->Heap.SameBut a s.heap h'->HOk X.prog X.w H h':=fun {a h'} ha hs b ob e=>by
  obtain ⟨_,_,hfree⟩:=ha
  refine (I.hok b ob e).stay (fun c w' hc q=>(hs.2 c ?_).trans q) (fun _ q=>q) fun _ _ q=>q
  rintro rfl
  rcases hc with rfl | hc
  ·rw [hfree] at e; cases e
  ·rw [hfree] at hc; cases hc
 rcases hx with hk | hk
 ·refine wpAny_storeName_local hk hn (fun h' hn' hs=>?_) hcls
  obtain ⟨oL,_,_,hoL,_⟩:=id hn
  refine h _ ⟨I.ok,I.os,I.bare,⟨fun b o e n hb hx=>?_,fun b o e n hb hx=>?_,I.base.free,fun b o e hx=>?_,I.base.tups,I.base.frzs,I.base.tbls⟩,⟨_,hn',fun j y v' e1 e2 e3=>?_⟩,fun y c e=>?_,I.free,I.freeC,fun p hp=>?_,tracked ⟨oL,hoL,I.free⟩ hs,by simpa using I.len⟩ ⟨_,hs,.inl rfl⟩
  ·exact (hs.2 b (Nat.ne_of_lt (Nat.lt_of_lt_of_le (Heap.lt_size e) I.ok.above))).trans (I.base.keep b o e n hb hx)
  ·obtain ⟨sl,e1⟩:=I.base.slot b o e n hb hx
   exact ⟨sl,(hs.2 b (Nat.ne_of_lt (Nat.lt_of_lt_of_le (Heap.lt_size e) I.ok.above))).trans e1⟩
  ·obtain ⟨o',e1⟩:=I.base.there b o e hx
   exact ⟨o',(hs.2 b (Nat.ne_of_lt (Nat.lt_of_lt_of_le (Heap.lt_size e) I.ok.above))).trans e1⟩
  ·by_cases hj:j = i
   ·subst hj
    rw [hi] at e1; cases e1
    rw [List.getElem?_set_self hiσ] at e2
    cases e2
    exact ⟨u,r,.inl ⟨hk,by simp⟩⟩
   ·rw [List.getElem?_set_ne (Ne.symm hj)] at e2
    obtain ⟨u',r',q⟩:=hl j y v' e1 e2 e3
    refine ⟨u',r',?_⟩
    rcases q with ⟨k,e⟩ | ⟨k,c,e,z⟩
    ·refine .inl ⟨k,?_⟩
     have:y ≠ x:=fun e=>hj (nodup_ix hN e1 (e ▸ hi))
     simp [this,e]
    ·exact .inr ⟨k,c,e,z.sameBut hs (cne y c e)⟩
  ·obtain ⟨w',z⟩:=I.cell y c e
   exact ⟨w',z.sameBut hs (cne y c e)⟩
  ·obtain ⟨e,n,ne,nf,d⟩:=I.pin p hp
   exact ⟨(hs.2 p.1 ne).trans e,n,ne,nf,d⟩
 ·have hfn:X.fn x = true:=by
   rcases hf with z | z
   ·exact z
   ·rw [z] at hk; cases hk
  obtain ⟨c,hc⟩:=I.ok.has x (.inl hk)
  obtain ⟨w',z⟩:=I.cell x c hc
  refine wpAny_storeName_cell I.ok.kind hk hc z (fun h' hc' hs=>?_)
  obtain ⟨oc,hoc,hocd⟩:=id z
  refine h { s with heap:=h' } ⟨I.ok,I.os,I.bare,⟨fun b o e n hb hx=>?_,fun b o e n hb hx=>?_,I.base.free,fun b o e hx=>?_,I.base.tups,I.base.frzs,I.base.tbls⟩,⟨m,hn.sameBut hs (Ne.symm (cne x c hc)),fun j y v' e1 e2 e3=>?_⟩,fun y c' e=>?_,I.free,I.freeC,fun p hp=>?_,tracked ⟨oc,hoc,I.freeC x c hc⟩ hs,by simpa using I.len⟩ ⟨c,hs,.inr hc⟩
  ·exact (hs.2 b (Nat.ne_of_lt (Nat.lt_of_lt_of_le (Heap.lt_size e) (I.ok.cab x c hfn hc)))).trans (I.base.keep b o e n hb hx)
  ·obtain ⟨sl,e1⟩:=I.base.slot b o e n hb hx
   exact ⟨sl,(hs.2 b (Nat.ne_of_lt (Nat.lt_of_lt_of_le (Heap.lt_size e) (I.ok.cab x c hfn hc)))).trans e1⟩
  ·obtain ⟨o',e1⟩:=I.base.there b o e hx
   exact ⟨o',(hs.2 b (Nat.ne_of_lt (Nat.lt_of_lt_of_le (Heap.lt_size e) (I.ok.cab x c hfn hc)))).trans e1⟩
  ·by_cases hj:j = i
   ·subst hj
    rw [hi] at e1; cases e1
    rw [List.getElem?_set_self hiσ] at e2
    cases e2
    exact ⟨u,r,.inr ⟨.inl hk,c,hc,hc'⟩⟩
   ·rw [List.getElem?_set_ne (Ne.symm hj)] at e2
    obtain ⟨u',r',q⟩:=hl j y v' e1 e2 e3
    refine ⟨u',r',?_⟩
    rcases q with q | ⟨k,c',e,z'⟩
    ·exact .inl q
    ·refine .inr ⟨k,c',e,z'.sameBut hs ?_⟩
     rintro rfl
     exact hj (nodup_ix hN e1 (I.ok.inj _ _ _ e hc ▸ hi))
  ·by_cases hcc:c' = c
   ·subst hcc; exact ⟨_,hc'⟩
   ·obtain ⟨w2,z2⟩:=I.cell y c' e
    exact ⟨w2,z2.sameBut hs hcc⟩
  ·obtain ⟨e,n,ne,nf,d⟩:=I.pin p hp
   refine ⟨(hs.2 p.1 ?_).trans e,n,ne,nf,d⟩
   intro q
   rw [q,hoc] at e
   have q':oc = p.2:=Option.some.inj e
   exact d w' (by rw [<- q']; exact hocd)
theorem store_ok {M:Model} {A:Around} {E:Value->Shared->Prop} {i:Nat} {x:Str} {v:V} {u:Value} {Q:Unit->Shared->Prop} (I:Inv X pins σ H s) (hN:X.N.Nodup) (hi:X.N[i]? = some x) (hx:Loc X.env.scope x) (r:RelV v u)
  (h:∀ s',Inv X pins (σ.set i (some v)) H s'->Q () s') (hf:X.fn x = true \/ X.env.scope.names.lookup x = some .local:=by first | exact .inl rfl | exact .inr rfl | assumption):wpAny M A (storeName X.env x u) Q E s :=
 store_ok2 I hN hi hx r (fun s' I' _=>h s' I') hf
theorem Inv.call' {s':Shared} {ch:List Addr} (I:Inv X pins σ H s) (ho:s'.os = s.os) (u:Un (frs X.stack) ch H H' s.heap s'.heap) (hok:HOk X.prog X.w H' s'.heap) (hg:AllBare s'.gens)
  (hch:∀ b ∈ ch,(b ∈ X.ex \/ X.s₀.heap.objs.size <= b) /\ b ≠ X.env.locals /\ (∀ x c,X.env.cells.lookup x = some c->c ≠ b) /\ ∀ p ∈ X.pn ++ pins,p.1 ≠ b):Inv X pins σ H' s':=by
 obtain ⟨h',g',d',t',o'⟩:=s'
 have e:o' = s.os:=ho
 subst e
 exact I.call (g':=g') (t':=t') (d':=d') u hok hg hch
end
noncomputable abbrev XK:=Value->Option Addr->Hp->Prop
noncomputable abbrev St:=List (Option V)
noncomputable abbrev VK:=V->Hp->Prop
noncomputable abbrev TE:=St->Hp->VK->Prop
noncomputable abbrev TT:=St->Hp->(Bool->Hp->Prop)->Prop
noncomputable abbrev TA:=St->Hp->(List V->Hp->Prop)->Prop
set_option genInjectivity false in
structure Ends where
 nx:St->Hp->Prop
 rt:VK
 bk:St->Hp->Prop:=fun _ _=>False
 ct:St->Hp->Prop:=fun _ _=>False
noncomputable abbrev TS:=Ends->St->Hp->Prop
noncomputable def EP (X:Cx) (pins:List (Addr × Obj)) (σ:St) (Q:VK) (u:Value) (s':Shared):Prop:=∃ v H',Inv X pins σ H' s' /\ RelV v u /\ Q v H'
noncomputable def TP (X:Cx) (pins:List (Addr × Obj)) (σ:St) (Q:Bool->Hp->Prop) (b:Bool) (s':Shared):Prop:=∃ H',Inv X pins σ H' s' /\ Q b H'
noncomputable def AP (X:Cx) (pins:List (Addr × Obj)) (σ:St) (Q:List V->Hp->Prop) (us:List Value) (s':Shared):Prop:=∃ vs H',Inv X pins σ H' s' /\ Vals vs us /\ Q vs H'
noncomputable def SP (X:Cx) (pins:List (Addr × Obj)) (D:Ends) (f:Flow) (s':Shared):Prop :=
 match f with
 | .next=>∃ σ' H',Inv X pins σ' H' s' /\ D.nx σ' H'
 | .brk=>∃ σ' H',Inv X pins σ' H' s' /\ D.bk σ' H'
 | .cont=>∃ σ' H',Inv X pins σ' H' s' /\ D.ct σ' H'
 | .ret u=>∃ v σ' H',Inv X pins σ' H' s' /\ RelV v u /\ D.rt v H'
noncomputable def PE (X:Cx) (e:Expr) (t:TE):Prop :=
 ∀ (pins:List (Addr × Obj)) (s:Shared) (σ:St) (H:Hp) (Q:VK),Inv X pins σ H s->t σ H Q->wpAny (model X.prog X.w) X.A (eval e X.env) (EP X pins σ Q) X.xe s
noncomputable def PT (X:Cx) (e:Expr) (t:TT):Prop :=
 ∀ (pins:List (Addr × Obj)) (s:Shared) (σ:St) (H:Hp) (Q:Bool->Hp->Prop),Inv X pins σ H s->t σ H Q->wpAny (model X.prog X.w) X.A (isTrue e X.env (eval e X.env)) (TP X pins σ Q) X.xe s
noncomputable def PW (X:Cx) (e:Expr) (t:TT):Prop :=
 ∀ (whole:Sem Value) (pins:List (Addr × Obj)) (s:Shared) (σ:St) (H:Hp) (Q:Bool->Hp->Prop),Inv X pins σ H s->t σ H Q->wpAny (model X.prog X.w) X.A (isTrue e X.env whole) (TP X pins σ Q) X.xe s
theorem PW.pt {X:Cx} {e:Expr} {t:TT} (h:PW X e t):PT X e t:=h _
noncomputable def PA (X:Cx) (es:List Expr) (t:TA):Prop :=
 ∀ (pos:Pos) (pins:List (Addr × Obj)) (s:Shared) (σ:St) (H:Hp) (Q:List V->Hp->Prop),Inv X pins σ H s->t σ H Q->wpAny (model X.prog X.w) X.A (spliced (backTo pos (starEach es X.env))) (AP X pins σ Q) X.xe s
noncomputable def PS (X:Cx) (st:Stmt) (t:TS):Prop :=
 ∀ (pins:List (Addr × Obj)) (s:Shared) (σ:St) (H:Hp) (D:Ends),Inv X pins σ H s->t D σ H->wpAny (model X.prog X.w) X.A (exec st X.env) (SP X pins D) X.xe s
noncomputable def PSs (X:Cx) (st:List Stmt) (t:TS):Prop :=
 ∀ (pins:List (Addr × Obj)) (s:Shared) (σ:St) (H:Hp) (D:Ends),Inv X pins σ H s->t D σ H->wpAny (model X.prog X.w) X.A (execs st X.env) (SP X pins D) X.xe s
theorem thn {α:Type} {t:Sem α} {Q Q':α->Shared->Prop} {M:Model} {A:Around} {E:Value->Shared->Prop} {s:Shared} (h:wpAny M A t Q E s) (hQ:∀ a s,Q a s->Q' a s):wpAny M A t Q' E s:=wpAny_mono h hQ fun _ _ x=>x
end L2
namespace L2
open PySem PySem.Spec PyProof.Rows
section
variable {X:Cx}
noncomputable def tVar (i:Nat):TE:=fun σ H Q=>∃ v,σ[i]? = some (some v) /\ Q v H
noncomputable def tC (v:V):TE:=fun _ H Q=>Q v H
theorem pe_var {i:Nat} {x:Str} {pos:Pos} (hN:X.N[i]? = some x) (hv:Vis X.env.scope x) (hd:(x == ("__debug__":Str)) = false:=by decide) (hcd:(x == ("__classdict__":Str)) = false:=by decide):PE X (.Name x pos) (tVar i):=by
 intro pins s σ H Q I h
 obtain ⟨v,e,h⟩:=h
 obtain ⟨m,hn,hl⟩:=I.loc
 obtain ⟨u,r,l⟩:=hl i x v hN e hv
 have fin:EP X pins σ Q u s:=⟨v,H,I,r,h⟩
 rcases l with ⟨hk,hm⟩ | ⟨hk,c,hc,hcell⟩
 ·exact wpAny_Name (wpAny_loadName_local I.ok.kind hk hn hm fin) hd
 ·rcases hk with hk | hk
  ·exact wpAny_Name (wpAny_loadName_cell I.ok.kind hk hc hcell fin) hd
  ·exact wpAny_Name (wpAny_loadName_free I.ok.kind hk hc hcell fin hcd) hd
theorem pe_int {i j pos}:PE X (.Constant (.int i) j pos) (tC (.int i)):=fun _ _ _ H _ I h=>wpAny_Constant_int ⟨.int i,H,I.tok _,⟨_,rfl⟩,h⟩
theorem pe_bl {b j pos}:PE X (.Constant (.bool b) j pos) (tC (.bl b)):=fun _ _ _ H _ I h=>Constant_bool ⟨.bl b,H,I,rfl,h⟩
theorem pe_non {j pos}:PE X (.Constant .none j pos) (tC .non):=fun _ _ _ H _ I h=>Constant_none ⟨.non,H,I,rfl,h⟩
theorem pe_str {x j pos}:PE X (.Constant (.str x) j pos) (tC (.str x)):=fun _ _ _ H _ I h=>Calls.Constant_str ⟨.str x,H,I.tok _,⟨_,rfl⟩,h⟩
noncomputable def Gl (X:Cx) (x:Str):Prop:=X.env.kindOf x = some .globalImplicit
theorem ld_glob {E:Value->Shared->Prop} {pins:List (Addr × Obj)} {s:Shared} {σ:St} {H:Hp} {x:Str} {u:Value} {pos:Pos} {Q:Value->Shared->Prop} (I:Inv X pins σ H s) (hg:Gl X x) (hm:X.mg x = some u) (h:Q u s)
  (hd:(x == ("__debug__":Str)) = false:=by decide):wpAny (model X.prog X.w) X.A (eval (.Name x pos) X.env) Q E s :=
 Calls.Name_function_global I.ok.kind hg (Calls.loadGlobal_global (by rw [I.ok.glob]; exact I.mod.glob.keeps I.bk) hm h) hd
theorem ld_blt {E:Value->Shared->Prop} {pins:List (Addr × Obj)} {s:Shared} {σ:St} {H:Hp} {x:Str} {u:Value} {pos:Pos} {Q:Value->Shared->Prop} (I:Inv X pins σ H s) (hg:Gl X x) (hm:X.mg x = none) (hv:bootBuiltins x = some u) (h:Q u s)
  (hn:x ≠ "__name__":=by decide) (hd:(x == ("__debug__":Str)) = false:=by decide):wpAny (model X.prog X.w) X.A (eval (.Name x pos) X.env) Q E s:=by
 obtain ⟨mb,h1,h2⟩:=I.mod.blt
 exact Calls.Name_function_global I.ok.kind hg (Calls.loadGlobal_builtin (by rw [I.ok.glob]; exact I.mod.glob.keeps I.bk) hm (by rw [I.ok.blt]; exact h1.keeps I.bk) ((h2 x hn).trans hv) h) hd
theorem pe_glob {x:Str} {v:V} {u:Value} {pos:Pos} (hg:Gl X x) (hm:X.mg x = some u) (r:RelV v u) (hd:(x == ("__debug__":Str)) = false:=by decide):PE X (.Name x pos) (tC v) :=
 fun _ _ _ H _ I h=>ld_glob I hg hm ⟨v,H,I,r,h⟩ hd
theorem pe_bltn {x:Str} {v:V} {u:Value} {pos:Pos} (hg:Gl X x) (hm:X.mg x = none) (hv:bootBuiltins x = some u) (r:RelV v u) (hn:x ≠ "__name__":=by decide) (hd:(x == ("__debug__":Str)) = false:=by decide):PE X (.Name x pos) (tC v) :=
 fun _ _ _ H _ I h=>ld_blt I hg hm hv ⟨v,H,I,r,h⟩ hn hd
variable {a b:Expr} {ta tb:TE} {pos:Pos}
noncomputable def PC (X:Cx) (op:CmpOp) (a b:Expr) (t:TE):Prop :=
 ∀ (pins:List (Addr × Obj)) (s:Shared) (σ:St) (H:Hp) (Q:VK),Inv X pins σ H s->t σ H Q ->
  wpAny (model X.prog X.w) X.A (eval a X.env) (fun v s₁=>wpAny (model X.prog X.w) X.A (eval b X.env) (fun u s₂=>wpAny (model X.prog X.w) X.A (compareOp op v u) (EP X pins σ Q) X.xe s₂) X.xe s₁) X.xe s
noncomputable def tB (t:TE):TT:=fun σ H Q=>t σ H fun x H1=>∃ c,x = .bl c /\ Q c H1
theorem pt_cmp {op:CmpOp} {t:TE} (h:PC X op a b t) (h1:behindInMarks op b = false:=by first | exact nobehind _ (by decide) (by decide) | rfl):PT X (.Compare a [op] [b] pos) (tB t):=by
 intro pins s σ H Q I hw
 refine wpAny_isTrue_Compare1 (thn (h pins s σ H _ I hw) fun v s1 h1=>thn h1 fun u s2 h2=>thn h2 fun c s3 ⟨x,H1,I1,r1,q1⟩=>?_) h1
 obtain ⟨d,rfl,q⟩:=q1
 cases r1
 exact wpAny_truthy_bool ⟨H1,I1,q⟩
theorem pt_val {e:Expr} {t:TE} (h:PE X e t) (he:∀ whole,isTrue e X.env whole = (do let v <- whole; standAt e.pos; holding [v] (truthy v)):=by intro _; rfl):PT X e (tB t):=by
 intro pins s σ H Q I hw
 refine isTrue_plain (thn (h pins s σ H _ I hw) fun v s1 ⟨x,H1,I1,r1,q1⟩=>?_) (he _)
 obtain ⟨d,rfl,q⟩:=q1
 cases r1
 exact wpAny_truthy_bool ⟨H1,I1,q⟩
variable {tA tB':TT} {rest:List Expr}
noncomputable def tAnd (t u:TT):TT:=fun σ H Q=>t σ H fun c H1=>if c = true then u σ H1 Q else Q false H1
noncomputable def tOr (t u:TT):TT:=fun σ H Q=>t σ H fun c H1=>if c = true then Q true H1 else u σ H1 Q
noncomputable def tNot (t:TT):TT:=fun σ H Q=>t σ H fun c H1=>Q (!c) H1
theorem pw_and1 (ha:PT X a tA):PW X (.BoolOp .And [a] pos) tA:=by
 intro wh pins s σ H Q I h
 refine isTrue_and (thn (ha pins s σ H Q I h) fun c s1 e=>?_)
 cases c with
 | true=>exact isTrue_and_nil e
 | false=>exact e
theorem pw_or1 (ha:PT X a tA):PW X (.BoolOp .Or [a] pos) tA:=by
 intro wh pins s σ H Q I h
 refine isTrue_or (thn (ha pins s σ H Q I h) fun c s1 e=>?_)
 cases c with
 | false=>exact isTrue_or_nil e
 | true=>exact e
theorem pw_and (ha:PT X a tA) (hb:PW X (.BoolOp .And (b :: rest) pos) tB'):PW X (.BoolOp .And (a :: b :: rest) pos) (tAnd tA tB'):=by
 intro wh pins s σ H Q I h
 refine isTrue_and (thn (ha pins s σ H _ I h) fun c s1 ⟨H1,I1,q1⟩=>?_)
 cases c with
 | true=>exact hb wh pins s1 σ H1 Q I1 q1
 | false=>exact ⟨H1,I1,q1⟩
theorem pw_or (ha:PT X a tA) (hb:PW X (.BoolOp .Or (b :: rest) pos) tB'):PW X (.BoolOp .Or (a :: b :: rest) pos) (tOr tA tB'):=by
 intro wh pins s σ H Q I h
 refine isTrue_or (thn (ha pins s σ H _ I h) fun c s1 ⟨H1,I1,q1⟩=>?_)
 cases c with
 | true=>exact ⟨H1,I1,q1⟩
 | false=>exact hb wh pins s1 σ H1 Q I1 q1
theorem pt_not (ha:PT X a tA):PT X (.UnaryOp .Not a pos) (tNot tA):=by
 intro pins s σ H Q I h
 exact isTrue_not (ha pins s σ H (fun c H1=>Q (!c) H1) I h)
noncomputable def tAndV (ta tb:TE):TE:=fun σ H Q=>ta σ H fun x H1=>∃ c,x = .bl c /\ if c = true then tb σ H1 Q else Q (.bl false) H1
noncomputable def tOrV (ta tb:TE):TE:=fun σ H Q=>ta σ H fun x H1=>∃ c,x = .bl c /\ if c = true then Q (.bl true) H1 else tb σ H1 Q
noncomputable def tNotV (ta:TE):TE:=fun σ H Q=>ta σ H fun x H1=>∃ c,x = .bl c /\ Q (.bl (!c)) H1
theorem pe_one {op} {t:TE} (h:PE X a t):PE X (.BoolOp op [a] pos) t:=fun pins s σ H Q I hw=>BoolOp_one (h pins s σ H Q I hw)
theorem pe_and (ha:PE X a ta) (hb:PE X (.BoolOp .And (b :: rest) pos) tb):PE X (.BoolOp .And (a :: b :: rest) pos) (tAndV ta tb):=by
 intro pins s σ H Q I h
 refine BoolOp_and (thn (ha pins s σ H _ I h) fun v s1 ⟨x,H1,I1,r1,q1⟩=>?_)
 obtain ⟨c,rfl,q1⟩:=q1
 cases r1
 refine wpAny_truthy_bool ?_
 cases c with
 | true=>exact hb pins s1 σ H1 Q I1 q1
 | false=>exact ⟨.bl false,H1,I1,rfl,q1⟩
theorem pe_or (ha:PE X a ta) (hb:PE X (.BoolOp .Or (b :: rest) pos) tb):PE X (.BoolOp .Or (a :: b :: rest) pos) (tOrV ta tb):=by
 intro pins s σ H Q I h
 refine BoolOp_or (thn (ha pins s σ H _ I h) fun v s1 ⟨x,H1,I1,r1,q1⟩=>?_)
 obtain ⟨c,rfl,q1⟩:=q1
 cases r1
 refine wpAny_truthy_bool ?_
 cases c with
 | false=>exact hb pins s1 σ H1 Q I1 q1
 | true=>exact ⟨.bl true,H1,I1,rfl,q1⟩
theorem pe_not (ha:PE X a ta):PE X (.UnaryOp .Not a pos) (tNotV ta):=by
 intro pins s σ H Q I h
 refine UnaryOp_ (thn (ha pins s σ H _ I h) fun v s1 ⟨x,H1,I1,r1,q1⟩=>?_)
 obtain ⟨c,rfl,q1⟩:=q1
 cases r1
 exact not_of (wpAny_truthy_bool ⟨.bl (!c),H1,I1,rfl,q1⟩)
noncomputable def tIf (t:TT) (ta tb:TE):TE:=fun σ H Q=>t σ H fun c H1=>if c = true then ta σ H1 Q else tb σ H1 Q
theorem pe_ifExp {c:Expr} (hc:PT X c tA) (ha:PE X a ta) (hb:PE X b tb):PE X (.IfExp c a b pos) (tIf tA ta tb):=by
 intro pins s σ H Q I h
 refine wpAny_IfExp (thn (hc pins s σ H _ I h) fun d s1 ⟨H1,I1,q1⟩=>?_)
 cases d with
 | true=>exact ha pins s1 σ H1 Q I1 q1
 | false=>exact hb pins s1 σ H1 Q I1 q1
end
end L2
namespace L2
open PySem PySem.Spec PyProof.Rows
noncomputable def SqL (K:PySem.W.Frag) (H:Hp) (a:Addr) (xs:List V):Prop :=
 Rd H a (.lst xs) \/
  ∃ (o:Obj) (its:Array Value) (n:Nat),K.lookup a = some o /\ o.cls = .type "list" /\ o.dict = none /\ o.data = .seq its n /\ its.size <= sizeLine /\ Vals xs its.toList
noncomputable def SqT (K:PySem.W.Frag) (H:Hp) (a:Addr) (xs:List V):Prop :=
 Rd H a (.tup xs) \/
  ∃ (o:Obj) (its:Array Value) (n:Nat),K.lookup a = some o /\ o.cls = .type "tuple" /\ o.data = .seq its n /\ its.size <= sizeLine /\ Vals xs its.toList
noncomputable def absV:Value->Option V
 | .none=>some .non
 | .bool b=>some (.bl b)
 | .int i _=>some (.int i)
 | .str x _=>some (.str x)
 | .bytes b _=>some (.byt b)
 | .float b _=>some (.flt b)
 | .ref a=>some (.ref a)
 | .type n=>some (.ty n)
 | _=>none
theorem RelV.abs {x:V} {u:Value} (r:RelV x u):absV u = some x:=by
 cases x with
 | non=>cases r; rfl
 | bl _=>cases r; rfl
 | int _=>obtain ⟨t,rfl⟩:=r; rfl
 | str _=>obtain ⟨t,rfl⟩:=r; rfl
 | byt _=>obtain ⟨t,rfl⟩:=r; rfl
 | flt _=>obtain ⟨t,rfl⟩:=r; rfl
 | ref _=>cases r; rfl
 | ty _=>cases r; rfl
theorem RelV.inj {x y:V} {u:Value} (r:RelV x u) (q:RelV y u):x = y:=Option.some.inj (r.abs.symm.trans q.abs)
theorem Vals.inj:∀ {xs ys:List V} {us:List Value},Vals xs us->Vals ys us->xs = ys
 | _,_,_,.nil,.nil=>rfl
 | _,_,_,.cons r t,.cons r' t'=>by rw [r.inj r',Vals.inj t t']
section
variable {X:Cx} {pins:List (Addr × Obj)} {σ:St} {H:Hp} {s:Shared} {a:Addr} {xs ys:List V}
theorem SqL.of {K:PySem.W.Frag} (h:H a = some (.lst xs)):SqL K H a xs:=.inl (.inl h)
theorem SqT.of {K:PySem.W.Frag} (h:H a = some (.tup xs)):SqT K H a xs:=.inl (.inl h)
theorem Inv.list (I:Inv X pins σ H s) (h:SqL X.K H a xs):∃ its:List Value,Vals xs its /\ PlainL s.heap a its.toArray /\ xs.length <= sizeLine:=by
 rcases h with h | ⟨o,its,n,hk,hc,hd,hs,hz,r⟩
 ·obtain ⟨z,its,n,r,e⟩:=h.ok I.hok
  exact ⟨its,r,⟨_,n,e,rfl,rfl,rfl⟩,z⟩
 ·refine ⟨its.toList,r,⟨o,n,I.kIn a o hk,hc,hd,by simpa using hs⟩,?_⟩
  have e:=r.length
  simp only [Array.length_toList] at e
  lia
theorem Inv.tuple (I:Inv X pins σ H s) (h:SqT X.K H a xs):∃ its:List Value,Vals xs its /\ IsTup s.heap a its.toArray /\ xs.length <= sizeLine:=by
 rcases h with h | ⟨o,its,n,hk,hc,hs,hz,r⟩
 ·obtain ⟨z,its,r,p⟩:=h.ok I.hok
  exact ⟨its,r,p,z⟩
 ·refine ⟨its.toList,r,⟨o,I.kIn a o hk,hc,n,by simpa using hs⟩,?_⟩
  have e:=r.length
  simp only [Array.length_toList] at e
  lia
theorem Inv.list_inj (I:Inv X pins σ H s) (h:SqL X.K H a xs) (h':SqL X.K H a ys):xs = ys:=by
 obtain ⟨its,r,⟨o,n,e,_,_,d⟩,_⟩:=I.list h
 obtain ⟨its',r',⟨o',n',e',_,_,d'⟩,_⟩:=I.list h'
 rw [e] at e'; cases e'
 rw [d] at d'
 injection d' with d1 _
 have:its = its':=by simpa using congrArg Array.toList d1
 subst this
 exact r.inj r'
theorem Inv.tuple_inj (I:Inv X pins σ H s) (h:SqT X.K H a xs) (h':SqT X.K H a ys):xs = ys:=by
 obtain ⟨its,r,⟨o,e,_,n,d⟩,_⟩:=I.tuple h
 obtain ⟨its',r',⟨o',e',_,n',d'⟩,_⟩:=I.tuple h'
 rw [e] at e'; cases e'
 rw [d] at d'
 injection d' with d1 _
 have:its = its':=by simpa using congrArg Array.toList d1
 subst this
 exact r.inj r'
end
noncomputable abbrev Cx.wish (X:Cx) (E:Value->Shared->Prop):Cx:={ X with xe:=E }
noncomputable abbrev Cx.nox (X:Cx):Cx:=X.wish fun _ _=>False
theorem Cx.Ok.wish {X:Cx} (ok:X.Ok) (E:Value->Shared->Prop):(X.wish E).Ok :=
 ⟨ok.mod,ok.kind,ok.glob,ok.blt,ok.above,ok.inj,ok.has,ok.cab,ok.hd,ok.frames,ok.stk,ok.exf,ok.bs,ok.bsz,ok.noex,ok.exfs,ok.funs,ok.frf⟩
theorem Cx.Ok.unwish {X:Cx} {E:Value->Shared->Prop} (ok:(X.wish E).Ok):X.Ok :=
 ⟨ok.mod,ok.kind,ok.glob,ok.blt,ok.above,ok.inj,ok.has,ok.cab,ok.hd,ok.frames,ok.stk,ok.exf,ok.bs,ok.bsz,ok.noex,ok.exfs,ok.funs,ok.frf⟩
section
variable {X:Cx} {pins:List (Addr × Obj)} {σ:St} {H:Hp} {s:Shared} {E:Value->Shared->Prop}
theorem Inv.wish (I:Inv X pins σ H s) (E:Value->Shared->Prop):Inv (X.wish E) pins σ H s:=⟨I.ok.wish E,I.os,I.bare,I.base,I.loc,I.cell,I.free,I.freeC,I.pin,I.hok,I.len⟩
theorem Inv.unwish (I:Inv (X.wish E) pins σ H s):Inv X pins σ H s:=⟨I.ok.unwish,I.os,I.bare,I.base,I.loc,I.cell,I.free,I.freeC,I.pin,I.hok,I.len⟩
theorem SP.unwish {D:Ends} {f:Flow} {s':Shared} (h:SP (X.wish E) pins D f s'):SP X pins D f s':=by
 cases f with
 | next=>obtain ⟨σ',H',I,q⟩:=h; exact ⟨σ',H',I.unwish,q⟩
 | brk=>obtain ⟨σ',H',I,q⟩:=h; exact ⟨σ',H',I.unwish,q⟩
 | cont=>obtain ⟨σ',H',I,q⟩:=h; exact ⟨σ',H',I.unwish,q⟩
 | ret u=>obtain ⟨v,σ',H',I,r,q⟩:=h; exact ⟨v,σ',H',I.unwish,r,q⟩
theorem PSs.nox {st:List Stmt} {t:TS} (h:PSs X.nox st t):PSs X st t:=fun pins s σ H D I hw =>
 wpAny_mono (h pins s σ H D (I.wish _) hw) (fun _ _ q=>q.unwish) fun _ _ z=>False.elim z
end
section
variable {X:Cx} {st:Stmt} {rest:List Stmt} {t u:TS} {e:Expr} {te:TE} {pos:Pos}
noncomputable def tNext:TS:=fun D σ H=>D.nx σ H
noncomputable def tSeq (t u:TS):TS:=fun D σ H=>t { D with nx:=u D } σ H
theorem pss_nil:PSs X [] tNext:=fun _ _ σ H _ I h=>wpAny_execs_nil ⟨σ,H,I,h⟩
theorem pss_cons (h1:PS X st t) (h2:PSs X rest u):PSs X (st :: rest) (tSeq t u):=by
 intro pins s σ H D I h
 refine wpAny_execs_cons (thn (h1 pins s σ H { D with nx:=u D } I h) fun f s1 q=>?_)
 cases f with
 | next =>
  obtain ⟨σ',H',I',q⟩:=q
  exact h2 pins s1 σ' H' D I' q
 | ret v=>exact q
 | brk=>exact q
 | cont=>exact q
theorem pss_one (h1:PS X st t):PSs X [st] t:=by
 intro pins s σ H D I h
 refine wpAny_execs_cons (thn (h1 pins s σ H D I h) fun f s1 q=>?_)
 cases f with
 | next=>exact wpAny_execs_nil q
 | ret v=>exact q
 | brk=>exact q
 | cont=>exact q
theorem Inv.quiet {pins:List (Addr × Obj)} {σ:St} {H:Hp} {s:Shared} (I:Inv X pins σ H s):interactive X.env = false:=by simp [interactive,I.ok.kind]
noncomputable def tDrop (te:TE):TS:=fun D σ H=>te σ H fun _ H1=>D.nx σ H1
theorem ps_expr (he:PE X e te) (hs:swapsWith e none pos.line X.env = pure false:=by rfl):PS X (.Expr e pos) (tDrop te):=by
 intro pins s σ H D I h
 exact wpAny_Expr_any (thn (he pins s σ H _ I h) fun v s1 ⟨x,H1,I1,r1,q1⟩=>⟨σ,H1,I1,q1⟩) I.quiet hs
noncomputable def tRet (te:TE):TS:=fun D σ H=>te σ H D.rt
theorem ps_ret (he:PE X e te):PS X (.Return (some e) pos) (tRet te):=by
 intro pins s σ H D I h
 exact wpAny_Return_some (thn (he pins s σ H _ I h) fun v s1 ⟨x,H1,I1,r1,q1⟩=>⟨x,σ,H1,I1,r1,q1⟩)
noncomputable def tIfS (c:TT) (t u:TS):TS:=fun D σ H=>c σ H fun b H1=>if b = true then t D σ H1 else u D σ H1
theorem ps_if {c:Expr} {a b:List Stmt} {tc:TT} (hc:PT X c tc) (ha:PSs X a t) (hb:PSs X b u):PS X (.If c a b pos) (tIfS tc t u):=by
 intro pins s σ H D I h
 refine wpAny_If (thn (hc pins s σ H _ I h) fun d s1 ⟨H1,I1,q1⟩=>?_)
 cases d with
 | true=>exact ha pins s1 σ H1 D I1 q1
 | false=>exact hb pins s1 σ H1 D I1 q1
noncomputable def tNever:TS:=fun _ _ _=>False
theorem ps_never:PS X st tNever:=fun _ _ _ _ _ _ h=>h.elim
theorem pss_never {sts:List Stmt}:PSs X sts tNever:=fun _ _ _ _ _ _ h=>h.elim
end
noncomputable abbrev TG:=V->St->Hp->(St->Hp->Prop)->Prop
noncomputable abbrev TGs:=List V->St->Hp->(St->Hp->Prop)->Prop
noncomputable def PG (X:Cx) (target:Expr) (t:TG):Prop :=
 ∀ (pins:List (Addr × Obj)) (s:Shared) (σ:St) (H:Hp) (v:V) (u:Value) (Q:St->Hp->Prop),Inv X pins σ H s->RelV v u->t v σ H Q ->
  wpAny (model X.prog X.w) X.A (assign target X.env u) (fun _ s'=>∃ σ' H',Inv X pins σ' H' s' /\ Q σ' H') X.xe s
noncomputable def PGs (X:Cx) (ts:List Expr) (t:TGs):Prop :=
 ∀ (pins:List (Addr × Obj)) (s:Shared) (σ:St) (H:Hp) (vs:List V) (us:List Value) (Q:St->Hp->Prop),Inv X pins σ H s->Vals vs us->t vs σ H Q ->
  wpAny (model X.prog X.w) X.A (assignInOrder ((assignEach ts X.env).map (·.2)) us) (fun _ s'=>∃ σ' H',Inv X pins σ' H' s' /\ Q σ' H') X.xe s
noncomputable abbrev TIp:=V->V->Hp->VK->Prop
noncomputable def PIp (X:Cx) (op:Operator) (t:TIp):Prop :=
 ∀ (pins:List (Addr × Obj)) (s:Shared) (σ:St) (H:Hp) (x y:V) (v u:Value) (Q:VK),Inv X pins σ H s->RelV x v->RelV y u->t x y H Q ->
  wpAny (model X.prog X.w) X.A (inplaceOp op v u) (EP X pins σ Q) X.xe s
section
variable {X:Cx} {pos:Pos}
noncomputable def gName (i:Nat):TG:=fun v σ H Q=>Q (σ.set i (some v)) H
theorem pg_name {i:Nat} {x:Str} (hN:X.N.Nodup) (hi:X.N[i]? = some x) (hx:Loc X.env.scope x) (hf:X.fn x = true \/ X.env.scope.names.lookup x = some .local:=by first | exact .inl rfl | exact .inr rfl | assumption):PG X (.Name x pos) (gName i):=by
 intro pins s σ H v u Q I r h
 exact wpAny_assign_Name (store_ok I hN hi hx r (fun s' I'=>⟨_,H,I',h⟩) hf)
noncomputable def gNil:TGs:=fun vs σ H Q=>vs = [] /\ Q σ H
noncomputable def gCons (t:TG) (u:TGs):TGs:=fun vs σ H Q=>∃ v r,vs = v :: r /\ t v σ H fun σ' H'=>u r σ' H' Q
theorem pgs_nil:PGs X [] gNil:=by
 intro pins s σ H vs us Q I r h
 obtain ⟨e,h⟩:=h
 subst e
 cases r
 exact assignInOrder_nil ⟨σ,H,I,h⟩
theorem pgs_cons {e:Expr} {es:List Expr} {t:TG} {u:TGs} (h1:PG X e t) (h2:PGs X es u)
  (hs:(assignEach (e :: es) X.env).map (·.2) = assign e X.env :: (assignEach es X.env).map (·.2):=by rfl):PGs X (e :: es) (gCons t u):=by
 intro pins s σ H vs us Q I r h
 obtain ⟨v,vr,e1,h⟩:=h
 subst e1
 cases r with
 | cons r rr =>
  rw [hs]
  refine assignInOrder_cons (thn (h1 pins s σ H _ _ _ I r h) fun _ s1 ⟨σ1,H1,I1,q1⟩=>?_)
  exact h2 pins s1 σ1 H1 _ _ Q I1 rr q1
noncomputable def gTup (K:PySem.W.Frag) (n:Nat) (t:TGs):TG:=fun v σ H Q=>∃ a xs,v = .ref a /\ SqT K H a xs /\ xs.length = n /\ t xs σ H Q
theorem pg_tup {es:List Expr} {k:Nat} {t:TGs} {n:Nat} (hc:X.calm = true) (h:PGs X es t)
  (hn:(assignEach es X.env).length = n:=by rfl) (hst:(assignEach es X.env).findIdx? (·.1) = none:=by rfl):PG X (.Tuple es k pos) (gTup X.K n t):=by
 intro pins s σ H v u Q I r hw
 obtain ⟨a,xs,e1,hq,hl,hw⟩:=hw
 subst e1
 cases r
 obtain ⟨its,rv,ht,hz⟩:=I.tuple hq
 refine assign_Tuple_tuple (I.ok.hd hc) ht (by simp [hn,<- hl,rv.length]) hst fun h' hx=>?_
 have I1:Inv X pins σ H { s with heap:=h' }:=I.kept (t':=s.toks) fun b o e=>hx b o (Nat.ne_of_lt (Heap.lt_size e)) e
 exact h pins _ σ H xs _ Q I1 (by simpa using rv) hw
noncomputable def tAsg (te:TE) (g:TG):TS:=fun D σ H=>te σ H fun x H1=>g x σ H1 D.nx
theorem ps_set {i:Nat} {x:Str} {e:Expr} {te:TE} {pos':Pos} (hN:X.N.Nodup) (hi:X.N[i]? = some x) (hx:Loc X.env.scope x) (he:PE X e te) (hs:swapsWith e (some (.Name x pos')) pos.line X.env = pure false:=by rfl) (hf:X.fn x = true \/ X.env.scope.names.lookup x = some .local:=by first | exact .inl rfl | exact .inr rfl | assumption) :
  PS X (.Assign [.Name x pos'] e pos) (tAsg te (gName i)):=by
 intro pins s σ H D I h
 refine wpAny_Assign_Name (thn (he pins s σ H _ I h) fun v s1 ⟨y,H1,I1,r1,q1⟩=>?_) hs
 exact store_ok I1 hN hi hx r1 (fun s2 I2=>⟨_,H1,I2,q1⟩) hf
noncomputable def tPar (i j:Nat) (ta:TA):TS:=fun D σ H=>ta σ H fun vs H1=>∃ v w,vs = [v,w] /\ D.nx ((σ.set i (some v)).set j (some w)) H1
theorem ps_par {i j:Nat} {x y:Str} {a b:Expr} {ta:TA} {px py pt:Pos} {kt k2 pt2} (hc:X.calm = true) (hN:X.N.Nodup) (hi:X.N[i]? = some x) (hj:X.N[j]? = some y) (hij:i ≠ j)
  (hx:X.env.scope.names.lookup x = some .local) (hy:X.env.scope.names.lookup y = some .local) (ha:PA X [a,b] ta)
  (hw:swappedStores [.Tuple [.Name x px,.Name y py] kt pt] (.Tuple [a,b] k2 pt2) X.env = pure (some [x,y]))
  (hs:swapsWithSole [.Tuple [.Name x px,.Name y py] kt pt] (.Tuple [a,b] k2 pt2) pos.line X.env = pure false:=by rfl) :
  PS X (.Assign [.Tuple [.Name x px,.Name y py] kt pt] (.Tuple [a,b] k2 pt2) pos) (tPar i j ta):=by
 intro pins s σ H D I h
 rw [exec_Assign_arm]
 refine wpAny_bind (wpAny_standAt ?_)
 rw [hs]
 refine wpAny_bind (wpAny_pure ?_)
 rw [if_neg (by decide)]
 refine wpAny_bind (Tuple_ (thn (ha _ pins s σ H _ I h) fun us s1 ⟨vs,H1,I1,r1,q1⟩=>?_))
 obtain ⟨v,w,e1,q1⟩:=q1
 subst e1
 obtain ⟨u1,u2,rfl,rv,rw'⟩:∃ u1 u2,us = [u1,u2] /\ RelV v u1 /\ RelV w u2:=by
  cases r1 with
  | cons p q =>
   cases q with
   | cons p' q' =>
    cases q'
    exact ⟨_,_,rfl,p,p'⟩
 refine wpAny_newObj_type ?_ (by show 2 <= sizeLine; decide)
 have I2:Inv X pins σ H1 { s1 with heap:=s1.heap.push { cls:=.type "tuple",data:=.seq [u1,u2].toArray } }:=I1.kept (t':=s1.toks) fun b o e=>Heap.get?_push_of_some _ e
 rw [hw]
 refine wpAny_bind (wpAny_pure ?_)
 show wpAny (model X.prog X.w) X.A (do rule "assign.swapped-stores"; let items <- unpackItems (.ref s1.heap.objs.size) 2 none; assignInOrder [fun v=>bindName X.env y v,fun v=>bindName X.env x v] items.reverse; pure Flow.next) _ _ _
 refine wpAny_bind (wpAny_rule (wpAny_bind (unpackItems_tuple (items:=#[u1,u2]) (I.ok.hd hc) (IsTup.new s1.heap _) fun h' hx'=>?_)))
 have I3:=I2.kept (h':=h') (t':=s1.toks) fun b o e=>hx' b o (Nat.ne_of_lt (Heap.lt_size e)) e
 show wpAny _ _ (assignInOrder [fun v=>bindName X.env y v,fun v=>bindName X.env x v] [u2,u1] >>= fun _=>pure Flow.next) _ _ _
 refine wpAny_bind (assignInOrder_cons (wpAny_bindName (store_ok I3 hN hj (.inl hy) rw' (fun s2 I4=>?_) (.inr hy))))
 refine assignInOrder_cons (wpAny_bindName (store_ok I4 hN hi (.inl hx) rv (fun s3 I5=>assignInOrder_nil (wpAny_pure ?_)) (.inr hx)))
 rw [List.set_comm _ _ (Ne.symm hij)] at I5
 exact ⟨_,H1,I5,q1⟩
noncomputable def tAug (i:Nat) (te:TE) (ti:TIp):TS:=fun D σ H=>∃ x,σ[i]? = some (some x) /\ te σ H fun y H1=>ti x y H1 fun z H2=>D.nx (σ.set i (some z)) H2
theorem ps_aug {i:Nat} {x:Str} {e:Expr} {te:TE} {op:Operator} {ti:TIp} {pos':Pos} (hN:X.N.Nodup) (hi:X.N[i]? = some x) (hx:Loc X.env.scope x) (he:PE X e te) (ho:PIp X op ti) (hf:X.fn x = true \/ X.env.scope.names.lookup x = some .local:=by first | exact .inl rfl | exact .inr rfl | assumption) :
  PS X (.AugAssign (.Name x pos') op e pos) (tAug i te ti):=by
 intro pins s σ H D I h
 obtain ⟨v,e1,h⟩:=h
 obtain ⟨m,hn,hl⟩:=I.loc
 have vis:Vis X.env.scope x:=by rcases hx with k | k; exact .inl k; exact .inr (.inl k)
 obtain ⟨u,r,l⟩:=hl i x v hi e1 vis
 refine wpAny_AugAssign_Name ?_
 have go:wpAny (model X.prog X.w) X.A (eval e X.env) (fun w s₂=>wpAny (model X.prog X.w) X.A (inplaceOp op u w) (fun r s₃=>wpAny (model X.prog X.w) X.A (storeName X.env x r) (fun _=>SP X pins D .next) X.xe s₃) X.xe s₂) X.xe s:=by
  refine thn (he pins s σ H _ I h) fun w s1 ⟨y,H1,I1,r1,q1⟩=>?_
  refine thn (ho pins s1 σ H1 v y u w _ I1 r r1 q1) fun z s2 ⟨zv,H2,I2,r2,q2⟩=>?_
  exact store_ok I2 hN hi hx r2 (fun s3 I3=>⟨_,H2,I3,q2⟩) hf
 rcases l with ⟨hk,hm⟩ | ⟨hk,c,hc,hcell⟩
 ·exact wpAny_loadName_local I.ok.kind hk hn hm go
 ·rcases hk with hk | hk
  ·exact wpAny_loadName_cell I.ok.kind hk hc hcell go
  ·rcases hx with k | k
   ·have:X.env.scope.names.lookup x = some .free:=hk
    rw [k] at this; cases this
   ·have:X.env.scope.names.lookup x = some .free:=hk
    rw [k] at this; cases this
noncomputable def ipI (f:Int->Int->Int):TIp:=fun x y H Q=>∃ i j,x = .int i /\ y = .int j /\ Q (.int (f i j)) H
theorem ip_add:PIp X .Add (ipI fun i j=>i + j):=by
 intro pins s σ H x y v u Q I r1 r2 h
 obtain ⟨i,j,e1,e2,q⟩:=h
 subst e1; subst e2
 obtain ⟨t,rfl⟩:=r1
 obtain ⟨t',rfl⟩:=r2
 exact iadd_int ⟨.int _,H,I.tok _,⟨_,rfl⟩,q⟩
end
section
variable {X:Cx} {pos:Pos}
noncomputable def tWhile (c:TT) (tb:TS):TS:=fun D σ H=>∃ W:Nat->St->Hp->Prop,(∃ m,W m σ H) /\ ∀ m σ H,W m σ H ->
 c σ H fun b H1=>if b = true then ∃ N:St->Hp->Prop,(∀ σ' H',N σ' H'->∃ m',m' < m /\ W m' σ' H') /\ tb { D with nx:=N,ct:=N,bk:=D.nx } σ H1 else D.nx σ H1
theorem ps_while {c:Expr} {body:List Stmt} {tc:TT} {tb:TS} (hp:PassesOwn (model X.prog X.w) X.A X.env X.xe) (hc:PT X c tc) (hb:PSs X body tb):PS X (.While c body [] pos) (tWhile tc tb):=by
 intro pins s σ H D I h
 obtain ⟨W,⟨m0,w0⟩,turn⟩:=h
 refine wpAny_While (codeAny_whileLoop (fun n s'=>∃ σ' H',Inv X pins σ' H' s' /\ W n σ' H') ?_ m0 ⟨σ,H,I,w0⟩)
 rintro n s1 ⟨σ1,H1,I1,w1⟩
 refine wpAny_passesOwn hp (thn (hc pins s1 σ1 H1 _ I1 (turn n σ1 H1 w1)) fun b s2 ⟨H2,I2,q2⟩=>?_)
 cases b with
 | true =>
  obtain ⟨N,hN,q2⟩:=q2
  rw [if_pos rfl]
  refine wpAny_passesOwn hp (thn (hb pins s2 σ1 H2 _ I2 q2) fun f s3 q3=>?_)
  cases f with
  | next =>
   obtain ⟨σ3,H3,I3,n3⟩:=q3
   obtain ⟨m',hm,w3⟩:=hN σ3 H3 n3
   exact ⟨m',hm,σ3,H3,I3,w3⟩
  | cont =>
   obtain ⟨σ3,H3,I3,n3⟩:=q3
   obtain ⟨m',hm,w3⟩:=hN σ3 H3 n3
   exact ⟨m',hm,σ3,H3,I3,w3⟩
  | brk=>exact q3
  | ret v=>exact q3
 | false =>
  rw [if_neg Bool.false_ne_true]
  exact wpAny_execs_nil ⟨σ1,H2,I2,q2⟩
end
set_option genInjectivity false in
structure It where
 go:Nat->Hp->Prop
 yld:Nat->Hp->V->Hp->Prop
 stop:Nat->Hp->Prop
noncomputable def FpOk (X:Cx) (pins:List (Addr × Obj)) (H:Hp) (b:Addr):Prop :=
 H b = none /\ b ≠ X.env.locals /\ b ∉ X.fs /\ (b ∈ X.ex \/ X.s₀.heap.objs.size <= b) /\ (∀ x c,X.env.cells.lookup x = some c->c ≠ b) /\ ∀ p ∈ X.pn ++ pins,p.1 ≠ b
theorem Inv.fpOk {X:Cx} {pins:List (Addr × Obj)} {σ:St} {H H':Hp} {s:Shared} {b:Addr} (I:Inv X pins σ H s) (hb:s.heap.objs.size <= b) (hn:H' b = none):FpOk X pins H' b:=by
 refine ⟨hn,Nat.ne_of_gt (Nat.lt_of_lt_of_le I.lt hb),I.nofs hb,.inr (Nat.le_trans I.sz hb),fun x c e z=>?_,fun p hp z=>?_⟩
 ·obtain ⟨v,q⟩:=I.cell x c e
  exact absurd (Nat.lt_of_lt_of_le q.lt (by rw [z]; exact hb)) (Nat.lt_irrefl _)
 ·exact absurd (Nat.lt_of_lt_of_le (Heap.lt_size (I.pin p hp).1) (by rw [z]; exact hb)) (Nat.lt_irrefl _)
structure Turn (P:Program) (w:World) (K:PySem.W.Frag) (tg:Expr) (J:It) (fp:List Addr) (it:Addr) (tn:Nat->Heap->Prop):Prop where
 mem:it ∈ fp
 obj:∀ i h,tn i h->∀ b ∈ fp,∃ o,h.get? b = some o /\ ∀ v,o.data ≠ .cell v
 keep:∀ i h h',tn i h->(∀ b ∈ fp,∀ o,h.get? b = some o->h'.get? b = some o)->tn i h'
 item:∀ (X:Cx),X.prog = P->X.w = w->X.K = K->X.calm = true->∀ (i:Nat) (pins:List (Addr × Obj)) (s:Shared) (σ:St) (H:Hp) (E:Value->Shared->Prop),Inv X pins σ H s->(∀ b ∈ fp,FpOk X pins H b)->tn i s.heap->J.go i H ->
  wpAny (model P w) X.A (pyNext (.ref it)) (fun r s1=>∃ u,r = some u /\
   wpAny (model P w) X.A (letOwnedTupleGo tg (.ref it) u) (fun _ s2=>∃ x H',Inv X pins σ H' s2 /\ RelV x u /\ J.yld i H x H' /\ tn (i + 1) s2.heap /\ ∀ b ∈ fp,H' b = none) E s1) E s
 done:∀ (X:Cx),X.prog = P->X.w = w->X.K = K->X.calm = true->∀ (i:Nat) (pins:List (Addr × Obj)) (s:Shared) (σ:St) (H:Hp) (E:Value->Shared->Prop),Inv X pins σ H s->(∀ b ∈ fp,FpOk X pins H b)->tn i s.heap->J.stop i H ->
  wpAny (model P w) X.A (pyNext (.ref it)) (fun r s1=>r = none /\ Inv X pins σ H s1) E s
 self:∀ (A:Around) (i:Nat) (s:Shared) (Q:Value->Shared->Prop) (E:Value->Shared->Prop),tn i s.heap->Q (.ref it) s->wpAny (model P w) A (pyIter (.ref it)) Q E s
noncomputable abbrev TI:=St->Hp->(It->Hp->Prop)->Prop
noncomputable def PIE (X:Cx) (pins:List (Addr × Obj)) (σ:St) (tg:Expr) (R:It->Hp->Prop) (itv:Value) (s2:Shared):Prop :=
 ∃ (it:Addr) (fp:List Addr) (tn:Nat->Heap->Prop) (J:It) (H':Hp),itv = .ref it /\ Inv X pins σ H' s2 /\ Turn X.prog X.w X.K tg J fp it tn /\ tn 0 s2.heap /\ (∀ b ∈ fp,FpOk X pins H' b) /\ R J H'
noncomputable def PI (X:Cx) (tg iter:Expr) (wi:TI):Prop :=
 ∀ (pins:List (Addr × Obj)) (s:Shared) (σ:St) (H:Hp) (R:It->Hp->Prop),Inv X pins σ H s->wi σ H R ->
  wpAny (model X.prog X.w) X.A (eval iter X.env) (fun v s1=>wpAny (model X.prog X.w) X.A (pyIter v) (PIE X pins σ tg R) X.xe s1) X.xe s
theorem go_of {M:Model} {A:Around} {E:Value->Shared->Prop} {s:Shared} {tg:Expr} {it:Addr} {u:Value} {o:Obj} {n:String} {vs:Array Value} {Q:Unit->Shared->Prop} (ho:s.heap.get? it = some o) (hc:o.cls = .type n) (hd:o.data = .fields vs)
    (hn:["enumerate","zip","dict_itemiterator","dict_reverseitemiterator","odict_iterator","itertools.zip_longest","itertools.pairwise"].contains n = false) (hQ:Q () s):wpAny M A (letOwnedTupleGo tg (.ref it) u) Q E s:=by
  unfold letOwnedTupleGo
  cases tg <;> first
    | exact wpAny_pure hQ
    | (cases u <;> first
        | exact wpAny_pure hQ
        | (refine wpAny_bind (wpAny_load ho ?_)
           rw [hc,hd]
           show wpAny M A (if (["enumerate","zip","dict_itemiterator","dict_reverseitemiterator","odict_iterator","itertools.zip_longest","itertools.pairwise"].contains n && vs[0]? == some (rawInt _)) = true then _ else _) Q E s
           rw [if_neg (by intro h; rw [hn,Bool.false_and] at h; cases h)]
           exact wpAny_pure hQ))
noncomputable def Itl (K:PySem.W.Frag) (a:Addr):It :=
 ⟨fun i H=>∃ xs x,SqL K H a xs /\ xs[i]? = some x,fun i H x H'=>H' = H /\ ∀ xs,SqL K H a xs->xs[i]? = some x,fun i H=>∃ xs,SqL K H a xs /\ xs.length <= i⟩
noncomputable def Itt (K:PySem.W.Frag) (a:Addr):It :=
 ⟨fun i H=>∃ xs x,SqT K H a xs /\ xs[i]? = some x,fun i H x H'=>H' = H /\ ∀ xs,SqT K H a xs->xs[i]? = some x,fun i H=>∃ xs,SqT K H a xs /\ xs.length <= i⟩
noncomputable def Itr (lo:Int) (n:Nat):It:=⟨fun i _=>i < n,fun i H x H'=>H' = H /\ x = .int (lo + i),fun i _=>n <= i⟩
theorem turn_list {P:Program} {w:World} {K:PySem.W.Frag} {tg:Expr} (a it:Addr):Turn P w K tg (Itl K a) [it] it (fun i h=>h.IsListIter it a i) where
 mem:=by simp
 obj:=fun i h st b hb=>by
  have e:b = it:=by simpa using hb
  subst e
  obtain ⟨o,e,c,d⟩:=st
  exact ⟨o,e,fun v z=>by rw [d] at z; cases z⟩
 keep:=fun i h h' st k=>st.at fun o e=>k it (by simp) o e
 item:=by
  intro X hP hw hK hc i pins s σ H E I hf st hg
  subst hP hw hK
  obtain ⟨xs,x,hq,hx⟩:=hg
  obtain ⟨its,rv,p,hz⟩:=I.list hq
  obtain ⟨u,hu,ru⟩:=rv.get hx
  obtain ⟨f0,f1,f2,f3,f4,f5⟩:=hf it (by simp)
  refine wpAny_pyNext_list_item st p.isList (x:=u) (by simpa using hu) fun h' st' sb=>?_
  have I1:Inv X pins σ H { s with heap:=h' }:=I.turned (t':=s.toks) (fun b o hb e=>(sb.2 b hb).trans e) f0 f1 f3 f4 f5
  obtain ⟨o,e,c,d⟩:=id st'
  exact ⟨u,rfl,go_of (s:={ s with heap:=h' }) e c d (by decide) ⟨x,H,I1,ru,⟨rfl,fun ys hy=>by rw [I.list_inj hy hq]; exact hx⟩,st',fun b hb=>(hf b hb).1⟩⟩
 done:=by
  intro X hP hw hK hc i pins s σ H E I hf st hg
  subst hP hw hK
  obtain ⟨xs,hq,hx⟩:=hg
  obtain ⟨its,rv,p,hz⟩:=I.list hq
  obtain ⟨f0,f1,f2,f3,f4,f5⟩:=hf it (by simp)
  have hl:=rv.length
  exact wpAny_pyNext_list_end (I.ok.hd hc) st p.isList (by simp; lia) fun h' eb=>⟨rfl,I.turned (t':=s.toks) (fun b o hb e=>eb b o hb e) f0 f1 f3 f4 f5⟩
 self:=fun _ _ _ _ _ st h=>wpAny_pyIter_listiter st h
theorem turn_tuple {P:Program} {w:World} {K:PySem.W.Frag} {tg:Expr} (a it:Addr):Turn P w K tg (Itt K a) [it] it (fun i h=>h.IsTupleIter it a i) where
 mem:=by simp
 obj:=fun i h st b hb=>by
  have e:b = it:=by simpa using hb
  subst e
  obtain ⟨o,e,c,d⟩:=st
  exact ⟨o,e,fun v z=>by rw [d] at z; cases z⟩
 keep:=fun i h h' st k=>st.at fun o e=>k it (by simp) o e
 item:=by
  intro X hP hw hK hc i pins s σ H E I hf st hg
  subst hP hw hK
  obtain ⟨xs,x,hq,hx⟩:=hg
  obtain ⟨its,rv,p,hz⟩:=I.tuple hq
  obtain ⟨u,hu,ru⟩:=rv.get hx
  obtain ⟨f0,f1,f2,f3,f4,f5⟩:=hf it (by simp)
  refine wpAny_pyNext_tuple_item st (show s.heap.IsTuple a its.toArray from p) (x:=u) (by simpa using hu) fun h' st' sb=>?_
  have I1:Inv X pins σ H { s with heap:=h' }:=I.turned (t':=s.toks) (fun b o hb e=>(sb.2 b hb).trans e) f0 f1 f3 f4 f5
  obtain ⟨o,e,c,d⟩:=id st'
  exact ⟨u,rfl,go_of (s:={ s with heap:=h' }) e c d (by decide) ⟨x,H,I1,ru,⟨rfl,fun ys hy=>by rw [I.tuple_inj hy hq]; exact hx⟩,st',fun b hb=>(hf b hb).1⟩⟩
 done:=by
  intro X hP hw hK hc i pins s σ H E I hf st hg
  subst hP hw hK
  obtain ⟨xs,hq,hx⟩:=hg
  obtain ⟨its,rv,p,hz⟩:=I.tuple hq
  obtain ⟨f0,f1,f2,f3,f4,f5⟩:=hf it (by simp)
  have hl:=rv.length
  exact wpAny_pyNext_tuple_end (I.ok.hd hc) st (show s.heap.IsTuple a its.toArray from p) (by simp; lia) fun h' eb=>⟨rfl,I.turned (t':=s.toks) (fun b o hb e=>eb b o hb e) f0 f1 f3 f4 f5⟩
 self:=fun _ _ _ _ _ st h=>wpAny_pyIter_tupleiter st h
theorem turn_range {P:Program} {w:World} {K:PySem.W.Frag} {tg:Expr} (it:Addr) (lo:Int) (n:Nat):Turn P w K tg (Itr lo n) [it] it (fun i h=>IsRangeIter h it (lo + (i:Nat) * 1) ((n:Int) - (i:Nat)) 1) where
 mem:=by simp
 obj:=fun i h st b hb=>by
  have e:b = it:=by simpa using hb
  subst e
  exact ⟨_,st,fun v z=>by
   have z':Data.fields _ = Data.cell v:=z
   cases z'⟩
 keep:=fun i h h' st k=>k it (by simp) _ st
 item:=by
  intro X hP hw hK hc i pins s σ H E I hf st hg
  subst hP hw hK
  obtain ⟨f0,f1,f2,f3,f4,f5⟩:=hf it (by simp)
  have W:=Walks.range (prog:=X.prog) (w:=X.w) (I.ok.hd hc) it lo 1 n
  refine W.item i s _ _ hg st fun v h' tk hv st' kk=>?_
  obtain ⟨t,rfl⟩:=hv
  have I1:Inv X pins σ H { s with heap:=h',toks:=tk }:=I.turned (fun b o hb e=>kk b o (by simpa using hb) e) f0 f1 f3 f4 f5
  refine ⟨_,rfl,go_of (s:={ s with heap:=h',toks:=tk }) (n:="range_iterator") st' rfl rfl (by decide) ⟨.int (lo + i),H,I1,⟨t,?_⟩,⟨rfl,rfl⟩,st',fun b hb=>(hf b hb).1⟩⟩
  rw [Int.mul_one]
 done:=by
  intro X hP hw hK hc i pins s σ H E I hf st hg
  subst hP hw hK
  obtain ⟨f0,f1,f2,f3,f4,f5⟩:=hf it (by simp)
  exact wpAny_pyNext_range_end (I.ok.hd hc) st (by have:n <= i:=hg; lia) fun h' eb=>⟨rfl,I.turned (t':=s.toks) (fun b o hb e=>eb b o hb e) f0 f1 f3 f4 f5⟩
 self:=fun _ _ _ _ _ st h=>wpAny_pyIter_rangeiter st h
end L2
namespace L2
open PySem PySem.Spec PyProof.Rows
section
variable {X:Cx} {tg:Expr}
noncomputable def iList (K:PySem.W.Frag) (tl:TE):TI:=fun σ H R=>tl σ H fun x H1=>∃ a,x = .ref a /\ (∃ xs,SqL K H1 a xs) /\ R (Itl K a) H1
noncomputable def iTup (K:PySem.W.Frag) (tl:TE):TI:=fun σ H R=>tl σ H fun x H1=>∃ a,x = .ref a /\ (∃ xs,SqT K H1 a xs) /\ R (Itt K a) H1
theorem pi_list {l:Expr} {tl:TE} (hl:PE X l tl):PI X tg l (iList X.K tl):=by
 intro pins s σ H R I h
 refine thn (hl pins s σ H _ I h) fun v s1 ⟨x,H1,I1,r1,q1⟩=>?_
 obtain ⟨a,e,⟨xs,hq⟩,q⟩:=q1
 subst e
 cases r1
 obtain ⟨its,rv,p,hz⟩:=I1.list hq
 refine wpAny_pyIter_list p.isList ?_
 refine ⟨s1.heap.objs.size,[s1.heap.objs.size],_,_,H1,rfl,I1.kept (t':=s1.toks) fun b o e=>Heap.get?_push_of_some _ e,turn_list a _,⟨_,Heap.get?_push_size _ rfl,rfl,rfl⟩,fun b hb=>?_,q⟩
 have e:b = s1.heap.objs.size:=by simpa using hb
 subst e
 exact I1.fpOk (Nat.le_refl _) (I1.hok.fresh (Nat.le_refl _))
theorem pi_tup {l:Expr} {tl:TE} (hl:PE X l tl):PI X tg l (iTup X.K tl):=by
 intro pins s σ H R I h
 refine thn (hl pins s σ H _ I h) fun v s1 ⟨x,H1,I1,r1,q1⟩=>?_
 obtain ⟨a,e,⟨xs,hq⟩,q⟩:=q1
 subst e
 cases r1
 obtain ⟨its,rv,p,hz⟩:=I1.tuple hq
 refine wpAny_pyIter_tuple (show s1.heap.IsTuple a its.toArray from p) ?_
 refine ⟨s1.heap.objs.size,[s1.heap.objs.size],_,_,H1,rfl,I1.kept (t':=s1.toks) fun b o e=>Heap.get?_push_of_some _ e,turn_tuple a _,⟨_,Heap.get?_push_size _ rfl,rfl,rfl⟩,fun b hb=>?_,q⟩
 have e:b = s1.heap.objs.size:=by simpa using hb
 subst e
 exact I1.fpOk (Nat.le_refl _) (I1.hok.fresh (Nat.le_refl _))
theorem range_it {pins:List (Addr × Obj)} {σ:St} {H:Hp} {s:Shared} {R:It->Hp->Prop} {E:Value->Shared->Prop} {lo hi:Int} {t u v:Tok} {tk:Nat} (I:Inv X pins σ H s) (h1:-(2 ^ 62) <= lo) (h2:lo < 2 ^ 62) (h3:-(2 ^ 62) <= hi) (h4:hi < 2 ^ 62)
  (q:R (Itr lo (hi - lo).toNat) H):wpAny (model X.prog X.w) X.A (pyIter (.ref s.heap.objs.size)) (PIE X pins σ tg R) E { s with heap:=s.heap.push { cls:=.type "range",data:=.fields #[.int lo t,.int hi u,.int 1 v] },toks:=tk }:=by
 refine wpAny_pyIter_range (IsRange.new ..) (small_one h1 h2 h3 h4) ?_
 have I1:Inv X pins σ H { s with heap:=s.heap.push { cls:=.type "range",data:=.fields #[.int lo t,.int hi u,.int 1 v] },toks:=tk }:=I.kept fun b o e=>Heap.get?_push_of_some _ e
 refine ⟨(s.heap.push { cls:=.type "range",data:=.fields #[.int lo t,.int hi u,.int 1 v] }).objs.size,[(s.heap.push { cls:=.type "range",data:=.fields #[.int lo t,.int hi u,.int 1 v] }).objs.size],_,_,H,rfl,
  I1.kept (t':=tk) fun b o e=>Heap.get?_push_of_some _ e,turn_range _ lo (hi - lo).toNat,?_,fun b hb=>?_,q⟩
 ·have e1:lo + ((0:Nat):Int) * 1 = lo:=by simp
  have e2:(((hi - lo).toNat:Nat):Int) - ((0:Nat):Int) = Builtin.Range.rangeSize lo hi 1:=by rw [rangeSize_one]; split <;> lia
  show IsRangeIter _ _ (lo + ((0:Nat):Int) * 1) ((((hi - lo).toNat:Nat):Int) - ((0:Nat):Int)) 1
  rw [e1,e2]
  exact Heap.get?_push_size _ rfl
 ·have e:b = (s.heap.push { cls:=.type "range",data:=.fields #[.int lo t,.int hi u,.int 1 v] }).objs.size:=by simpa using hb
  subst e
  exact I1.fpOk (Nat.le_refl _) (I1.hok.fresh (Nat.le_refl _))
noncomputable def iRng1 (ta:TA):TI:=fun σ H R=>ta σ H fun vs H1=>∃ j:Int,vs = [.int j] /\ -(2 ^ 62) <= j /\ j < 2 ^ 62 /\ R (Itr 0 j.toNat) H1
theorem pi_range1 {a:Expr} {ta:TA} {p pos:Pos} (hg:Gl X "range") (hm:X.mg "range" = none) (ha:PA X [a] ta) (hs:starEach [a] X.env = [(false,eval a X.env)]:=by rfl):PI X tg (.Call (.Name "range" p) [a] [] pos) (iRng1 ta):=by
 intro pins s σ H R I h
 refine Call_ (ld_blt I hg hm boot_range (PyProof.Rows.callWith_type1 (thn (ha pos pins s σ H _ I h) fun us s1 ⟨vs,H1,I1,r1,q1⟩=>?_) hs rfl))
 obtain ⟨j,e,q1,q2,q⟩:=q1
 subst e
 cases r1 with
 | cons r rr =>
  cases rr
  obtain ⟨t,rfl⟩:=r
  exact call_range_1 (range_it I1 (by lia) (by lia) q1 q2 (by simpa using q))
noncomputable def tFor (wi:TI) (g:TG) (tb:TS):TS:=fun D σ H=>wi σ H fun J H1=>∃ W:Nat->Nat->St->Hp->Prop,(∃ m,W 0 m σ H1) /\ ∀ i m σ H,W i m σ H ->
 (J.stop i H /\ D.nx σ H) \/ (J.go i H /\ ∃ N:St->Hp->Prop,(∀ σ' H',N σ' H'->∃ m',m' < m /\ W (i + 1) m' σ' H') /\ ∀ x H',J.yld i H x H'->g x σ H' fun σ2 H2=>tb { D with nx:=N,ct:=N,bk:=D.nx } σ2 H2)
noncomputable def pinsAt (fp:List Addr) (h:Heap):List (Addr × Obj):=fp.filterMap fun b=>(h.get? b).map fun o=>(b,o)
theorem mem_pinsAt {fp:List Addr} {h:Heap} {b:Addr} {o:Obj} (hb:b ∈ fp) (e:h.get? b = some o):(b,o) ∈ pinsAt fp h:=List.mem_filterMap.mpr ⟨b,hb,by rw [e]; rfl⟩
theorem of_pinsAt {fp:List Addr} {h:Heap} {p:Addr × Obj} (hp:p ∈ pinsAt fp h):p.1 ∈ fp /\ h.get? p.1 = some p.2:=by
 obtain ⟨b,hb,e⟩:=List.mem_filterMap.mp hp
 cases q:h.get? b with
 | none=>rw [q] at e; cases e
 | some o =>
  rw [q] at e
  have e':(b,o) = p:=Option.some.inj e
  subst e'
  exact ⟨hb,q⟩
theorem Inv.pinned {pins:List (Addr × Obj)} {σ:St} {H:Hp} {s:Shared} {fp:List Addr} (I:Inv X pins σ H s) (hf:∀ b ∈ fp,FpOk X pins H b) (ho:∀ b ∈ fp,∃ o,s.heap.get? b = some o /\ ∀ v,o.data ≠ .cell v):Inv X (pins ++ pinsAt fp s.heap) σ H s :=
 I.pins_of fun p hp=>(List.mem_append.mp hp).elim (fun z=>I.pin p (List.mem_append_right _ z)) fun z=>by
  obtain ⟨hb,e⟩:=of_pinsAt z
  obtain ⟨f0,f1,f2,_⟩:=hf p.1 hb
  obtain ⟨o,e',d⟩:=ho p.1 hb
  rw [e] at e'; cases e'
  exact ⟨e,f0,f1,f2,d⟩
theorem Inv.unpinned {pins pl:List (Addr × Obj)} {σ:St} {H:Hp} {s:Shared} (I:Inv X (pins ++ pl) σ H s):Inv X pins σ H s:=I.pins_of fun p hp=>I.pin p (List.mem_append_right _ (List.mem_append_left _ hp))
theorem ps_for {iter:Expr} {body:List Stmt} {wi:TI} {g:TG} {tb:TS} {pos:Pos} (hp:PassesOwn (model X.prog X.w) X.A X.env X.xe) (hc:X.calm = true) (hi:PI X tg iter wi) (hg:PG X tg g) (hb:PSs X body tb)
  (hs:∀ x,foldedSetIterable iter X.env x = pure x:=by intro _; rfl):PS X (.For tg iter body [] pos) (tFor wi g tb):=by
 intro pins s σ H D I h
 refine wpAny_For (thn (hi pins s σ H _ I h) fun v s1 h1=>thn h1 fun itv s2 h2=>?_) hs
 obtain ⟨it,fp,tn,J,H2,e,I2,T,st2,f2,W,⟨m0,w0⟩,turn⟩:=h2
 subst e
 have stat:∀ {H':Hp},(∀ b ∈ fp,H' b = none)->∀ b ∈ fp,FpOk X pins H' b:=fun hn b hb=>⟨hn b hb,(f2 b hb).2⟩
 refine codeAny_forLoop_any (fun n s'=>∃ i σ' H',Inv X pins σ' H' s' /\ tn i s'.heap /\ (∀ b ∈ fp,H' b = none) /\ W i n σ' H') ?_ m0 ⟨0,σ,H2,I2,st2,fun b hb=>(f2 b hb).1,w0⟩
 rintro n s3 ⟨i,σ3,H3,I3,st3,fr3,w3⟩
 rcases turn i n σ3 H3 w3 with ⟨stop,qn⟩ | ⟨go,N,hN,step⟩
 ·refine wpAny_passesOwn hp (thn (T.done X rfl rfl rfl hc i pins s3 σ3 H3 X.xe I3 (stat fr3) st3 stop) fun r s4 ⟨hr,I4⟩=>?_)
  subst hr
  exact wpAny_execs_nil ⟨σ3,H3,I4,qn⟩
 ·refine wpAny_passesOwn hp (thn (T.item X rfl rfl rfl hc i pins s3 σ3 H3 X.xe I3 (stat fr3) st3 go) fun r s4 ⟨u,hr,h4⟩=>?_)
  subst hr
  refine wpAny_passesOwn hp (thn h4 fun _ s5 ⟨x,H5,I5,r5,y5,st5,fr5⟩=>?_)
  have I5':=I5.pinned (stat fr5) (T.obj _ _ st5)
  refine wpAny_passesOwn hp (thn (hg _ s5 σ3 H5 x u _ I5' r5 (step x H5 y5)) fun _ s6 ⟨σ6,H6,I6,q6⟩=>?_)
  refine wpAny_passesOwn hp (thn (hb _ s6 σ6 H6 _ I6 q6) fun f s7 q7=>?_)
  have again:∀ {σ7:St} {H7:Hp},Inv X (pins ++ pinsAt fp s5.heap) σ7 H7 s7->N σ7 H7->∃ m,m < n /\ ∃ i σ' H',Inv X pins σ' H' s7 /\ tn i s7.heap /\ (∀ b ∈ fp,H' b = none) /\ W i m σ' H':=fun {σ7 H7} I7 n7=>by
   obtain ⟨m',hm,w7⟩:=hN σ7 H7 n7
   refine ⟨m',hm,i + 1,σ7,H7,I7.unpinned,T.keep _ _ _ st5 fun b hb o e=>(I7.pin (b,o) (List.mem_append_right _ (List.mem_append_right _ (mem_pinsAt hb e)))).1,fun b hb=>?_,w7⟩
   obtain ⟨o,e,d⟩:=T.obj _ _ st5 b hb
   exact (I7.pin (b,o) (List.mem_append_right _ (List.mem_append_right _ (mem_pinsAt hb e)))).2.1
  cases f with
  | next=>obtain ⟨σ7,H7,I7,n7⟩:=q7; exact again I7 n7
  | cont=>obtain ⟨σ7,H7,I7,n7⟩:=q7; exact again I7 n7
  | brk=>obtain ⟨σ7,H7,I7,q7⟩:=q7; exact ⟨σ7,H7,I7.unpinned,q7⟩
  | ret v=>obtain ⟨x7,σ7,H7,I7,r7,q7⟩:=q7; exact ⟨x7,σ7,H7,I7.unpinned,r7,q7⟩
end
theorem for_list {K:PySem.W.Frag} {a:Addr} {xs:List V} {g:TG} {tb:TS} {D:Ends} {σ:St} {H:Hp} (Pv:Nat->St->Hp->Prop) (h0:Pv 0 σ H) (hl:∀ i σ H,i <= xs.length->Pv i σ H->SqL K H a xs)
  (hs:∀ i x σ H,xs[i]? = some x->Pv i σ H->g x σ H fun σ2 H2=>tb { D with nx:=Pv (i + 1),ct:=Pv (i + 1),bk:=D.nx } σ2 H2) (hd:∀ σ H,Pv xs.length σ H->D.nx σ H) :
  ∃ W:Nat->Nat->St->Hp->Prop,(∃ m,W 0 m σ H) /\ ∀ i m σ H,W i m σ H ->
   ((Itl K a).stop i H /\ D.nx σ H) \/ ((Itl K a).go i H /\ ∃ N:St->Hp->Prop,(∀ σ' H',N σ' H'->∃ m',m' < m /\ W (i + 1) m' σ' H') /\ ∀ x H',(Itl K a).yld i H x H'->g x σ H' fun σ2 H2=>tb { D with nx:=N,ct:=N,bk:=D.nx } σ2 H2):=by
 refine ⟨fun i m σ H=>m = xs.length - i /\ i <= xs.length /\ Pv i σ H,⟨xs.length,by simp,Nat.zero_le _,h0⟩,?_⟩
 rintro i m σ H ⟨rfl,hi,p⟩
 have q:=hl i σ H hi p
 by_cases hlt:i < xs.length
 ·refine .inr ⟨⟨xs,xs[i],q,by simp [hlt]⟩,Pv (i + 1),fun σ' H' p'=>⟨xs.length - (i + 1),by lia,rfl,hlt,p'⟩,fun x H' y=>?_⟩
  obtain ⟨e,y⟩:=y
  subst e
  exact hs i x σ _ (y xs q) p
 ·have e:i = xs.length:=by lia
  subst e
  exact .inl ⟨⟨xs,q,Nat.le_refl _⟩,hd σ H p⟩
theorem for_range {lo:Int} {n:Nat} {g:TG} {tb:TS} {D:Ends} {σ:St} {H:Hp} (Pv:Nat->St->Hp->Prop) (h0:Pv 0 σ H)
  (hs:∀ i σ H,i < n->Pv i σ H->g (.int (lo + i)) σ H fun σ2 H2=>tb { D with nx:=Pv (i + 1),ct:=Pv (i + 1),bk:=D.nx } σ2 H2) (hd:∀ σ H,Pv n σ H->D.nx σ H) :
  ∃ W:Nat->Nat->St->Hp->Prop,(∃ m,W 0 m σ H) /\ ∀ i m σ H,W i m σ H ->
   ((Itr lo n).stop i H /\ D.nx σ H) \/ ((Itr lo n).go i H /\ ∃ N:St->Hp->Prop,(∀ σ' H',N σ' H'->∃ m',m' < m /\ W (i + 1) m' σ' H') /\ ∀ x H',(Itr lo n).yld i H x H'->g x σ H' fun σ2 H2=>tb { D with nx:=N,ct:=N,bk:=D.nx } σ2 H2):=by
 refine ⟨fun i m σ H=>m = n - i /\ i <= n /\ Pv i σ H,⟨n,by simp,Nat.zero_le _,h0⟩,?_⟩
 rintro i m σ H ⟨rfl,hi,p⟩
 by_cases hlt:i < n
 ·refine .inr ⟨hlt,Pv (i + 1),fun σ' H' p'=>⟨n - (i + 1),by lia,rfl,hlt,p'⟩,fun x H' y=>?_⟩
  obtain ⟨e,y⟩:=y
  subst e y
  exact hs i σ _ hlt p
 ·have e:i = n:=by lia
  subst e
  exact .inl ⟨Nat.le_refl _,hd σ H p⟩
theorem while_by {c:TT} {tb:TS} {D:Ends} {σ:St} {H:Hp} (Pv:St->Hp->Prop) (μ:St->Hp->Nat) (h0:Pv σ H)
  (hs:∀ σ H,Pv σ H->c σ H fun b H1=>if b = true then tb { D with nx:=fun σ' H'=>Pv σ' H' /\ μ σ' H' < μ σ H,ct:=fun σ' H'=>Pv σ' H' /\ μ σ' H' < μ σ H,bk:=D.nx } σ H1 else D.nx σ H1)
  (mono:∀ σ H Q Q',(∀ b H1,Q b H1->Q' b H1)->c σ H Q->c σ H Q'):tWhile c tb D σ H:=by
 refine ⟨fun m σ H=>m = μ σ H /\ Pv σ H,⟨_,rfl,h0⟩,?_⟩
 rintro m σ H ⟨rfl,p⟩
 refine mono σ H _ _ (fun b H1 q=>?_) (hs σ H p)
 cases b with
 | true=>exact ⟨_,fun σ' H' ⟨p',l⟩=>⟨_,l,rfl,p'⟩,q⟩
 | false=>exact q
end L2
namespace L2
open PySem PySem.Spec PyProof.Rows
noncomputable abbrev R2:=V->V->Hp->VK->Prop
noncomputable def OpR (X:Cx) (f:Value->Value->Sem Value) (r:R2):Prop :=
 ∀ (pins:List (Addr × Obj)) (s:Shared) (σ:St) (H:Hp) (x y:V) (v u:Value) (Q:VK),Inv X pins σ H s->RelV x v->RelV y u->r x y H Q ->
  wpAny (model X.prog X.w) X.A (f v u) (EP X pins σ Q) X.xe s
noncomputable def UnR (X:Cx) (f:Value->Sem Value) (r:V->Hp->VK->Prop):Prop :=
 ∀ (pins:List (Addr × Obj)) (s:Shared) (σ:St) (H:Hp) (x:V) (v:Value) (Q:VK),Inv X pins σ H s->RelV x v->r x H Q ->
  wpAny (model X.prog X.w) X.A (f v) (EP X pins σ Q) X.xe s
noncomputable def CallR (X:Cx) (f:Value) (r:List V->Hp->VK->Prop):Prop :=
 ∀ (pins:List (Addr × Obj)) (s:Shared) (σ:St) (H:Hp) (xs:List V) (us:List Value) (Q:VK),Inv X pins σ H s->Vals xs us->r xs H Q ->
  wpAny (model X.prog X.w) X.A (call f us) (EP X pins σ Q) X.xe s
noncomputable def tOp (r:R2) (ta tb:TE):TE:=fun σ H Q=>ta σ H fun x H1=>tb σ H1 fun y H2=>r x y H2 Q
noncomputable def tUn (r:V->Hp->VK->Prop) (ta:TE):TE:=fun σ H Q=>ta σ H fun x H1=>r x H1 Q
noncomputable def rI (C:Int->Int->Prop) (g:Int->Int->V):R2:=fun x y H Q=>∃ i j,x = .int i /\ y = .int j /\ C i j /\ Q (g i j) H
noncomputable def rI0 (g:Int->Int->V):R2:=fun x y H Q=>∃ i j,x = .int i /\ y = .int j /\ Q (g i j) H
noncomputable def rU (g:Int->V):V->Hp->VK->Prop:=fun x H Q=>∃ i,x = .int i /\ Q (g i) H
section
variable {X:Cx} {a b c:Expr} {ta tb tc:TE} {pos:Pos}
theorem binT (ha:PE X a ta) (hb:PE X b tb) {pins:List (Addr × Obj)} {s:Shared} {σ:St} {H:Hp} {R:V->V->Hp->Prop} (I:Inv X pins σ H s)
  (h:ta σ H fun x H1=>tb σ H1 fun y H2=>R x y H2) {Q:Value->Shared->Prop} {f:Value->Value->Sem Value}
  (hf:∀ v u s2 x y H2,Inv X pins σ H2 s2->RelV x v->RelV y u->R x y H2->wpAny (model X.prog X.w) X.A (f v u) Q X.xe s2) :
  wpAny (model X.prog X.w) X.A (eval a X.env) (fun v s₁=>wpAny (model X.prog X.w) X.A (eval b X.env) (fun u s₂=>wpAny (model X.prog X.w) X.A (f v u) Q X.xe s₂) X.xe s₁) X.xe s:=by
 refine thn (ha pins s σ H _ I h) fun v s1 ⟨x,H1,I1,r1,q1⟩=>?_
 refine thn (hb pins s1 σ H1 _ I1 q1) fun u s2 ⟨y,H2,I2,r2,q2⟩=>?_
 exact hf v u s2 x y H2 I2 r1 r2 q2
theorem pe_op {op:Operator} {r:R2} (ho:OpR X (binaryOp op) r) (ha:PE X a ta) (hb:PE X b tb):PE X (.BinOp a op b pos) (tOp r ta tb):=by
 intro pins s σ H Q I h
 exact wpAny_BinOp (binT ha hb I h fun v u s2 x y H2 I2 rx ry q=>ho pins s2 σ H2 x y v u Q I2 rx ry q)
theorem pe_un {op:UnaryOp} {r:V->Hp->VK->Prop} (ho:UnR X (unaryOp op) r) (ha:PE X a ta):PE X (.UnaryOp op a pos) (tUn r ta):=by
 intro pins s σ H Q I h
 exact UnaryOp_ (thn (ha pins s σ H _ I h) fun v s1 ⟨x,H1,I1,r1,q1⟩=>ho pins s1 σ H1 x v Q I1 r1 q1)
theorem opI {f:Value->Value->Sem Value} {C:Int->Int->Prop} {g:Int->Int->Int}
  (rule:∀ (i j:Int) (t u:Tok) (s:Shared) (Q:Value->Shared->Prop) (E:Value->Shared->Prop),C i j->Q (.int (g i j) s.toks) { s with toks:=s.toks + 1 }->wpAny (model X.prog X.w) X.A (f (.int i t) (.int j u)) Q E s) :
  OpR X f (rI C fun i j=>.int (g i j)):=by
 intro pins s σ H x y v u Q I rx ry h
 obtain ⟨i,j,rfl,rfl,hc,q⟩:=h
 obtain ⟨t,rfl⟩:=rx
 obtain ⟨t',rfl⟩:=ry
 exact rule i j t t' s _ _ hc ⟨.int (g i j),H,I.tok _,⟨_,rfl⟩,q⟩
theorem opI0 {f:Value->Value->Sem Value} {g:Int->Int->Int}
  (rule:∀ (i j:Int) (t u:Tok) (s:Shared) (Q:Value->Shared->Prop) (E:Value->Shared->Prop),Q (.int (g i j) s.toks) { s with toks:=s.toks + 1 }->wpAny (model X.prog X.w) X.A (f (.int i t) (.int j u)) Q E s) :
  OpR X f (rI0 fun i j=>.int (g i j)):=by
 intro pins s σ H x y v u Q I rx ry h
 obtain ⟨i,j,rfl,rfl,q⟩:=h
 obtain ⟨t,rfl⟩:=rx
 obtain ⟨t',rfl⟩:=ry
 exact rule i j t t' s _ _ ⟨.int (g i j),H,I.tok _,⟨_,rfl⟩,q⟩
theorem opB0 {f:Value->Value->Sem Value} {g:Int->Int->Bool}
  (rule:∀ (i j:Int) (t u:Tok) (s:Shared) (Q:Value->Shared->Prop) (E:Value->Shared->Prop),Q (.bool (g i j)) s->wpAny (model X.prog X.w) X.A (f (.int i t) (.int j u)) Q E s) :
  OpR X f (rI0 fun i j=>.bl (g i j)):=by
 intro pins s σ H x y v u Q I rx ry h
 obtain ⟨i,j,rfl,rfl,q⟩:=h
 obtain ⟨t,rfl⟩:=rx
 obtain ⟨t',rfl⟩:=ry
 exact rule i j t t' s _ _ ⟨.bl (g i j),H,I,rfl,q⟩
noncomputable def CPow (i j:Int):Prop:=0 <= j /\ j <= 1000000 /\ i.natAbs < 2 ^ 64
theorem op_add:OpR X (binaryOp .Add) (rI0 fun i j=>.int (i + j)):=opI0 fun _ _ _ _ _ _ _ q=>add_int q
theorem op_sub:OpR X (binaryOp .Sub) (rI0 fun i j=>.int (i - j)):=opI0 fun _ _ _ _ _ _ _ q=>sub_int q
theorem op_modN:OpR X (binaryOp .Mod) (rI (fun _ j=>j ≠ 0) fun i j=>.int (i.fmod j)):=opI fun _ _ _ _ _ _ _ hc q=>mod_int' hc q
theorem op_pow:OpR X (binaryOp .Pow) (rI CPow fun i j=>.int (i ^ j.toNat)):=opI fun _ _ _ _ _ _ _ hc q=>pow_int_small hc.1 hc.2.1 hc.2.2 q
theorem unI {f:Value->Sem Value} {g:Int->Int}
  (rule:∀ (i:Int) (t:Tok) (s:Shared) (Q:Value->Shared->Prop) (E:Value->Shared->Prop),Q (.int (g i) s.toks) { s with toks:=s.toks + 1 }->wpAny (model X.prog X.w) X.A (f (.int i t)) Q E s) :
  UnR X f (rU fun i=>.int (g i)):=by
 intro pins s σ H x v Q I rx h
 obtain ⟨i,rfl,q⟩:=h
 obtain ⟨t,rfl⟩:=rx
 exact rule i t s _ _ ⟨.int (g i),H,I.tok _,⟨_,rfl⟩,q⟩
theorem un_neg:UnR X (unaryOp .USub) (rU fun i=>.int (-i)):=unI fun _ _ _ _ _ q=>neg_int q
end
noncomputable def scal:V->V->Bool
 | .non,.non=>true | .non,.int _=>true | .int _,.non=>true | .non,.bl _=>true | .bl _,.non=>true | .non,.str _=>true | .str _,.non=>true
 | .int _,.int _=>true | .bl _,.bl _=>true | .str _,.str _=>true | .byt _,.byt _=>true
 | .int _,.str _=>true | .str _,.int _=>true | .bl _,.str _=>true | .str _,.bl _=>true
 | _,_=>false
noncomputable def rEq:R2:=fun x y H Q=>scal x y = true /\ Q (.bl (decide (x = y))) H
noncomputable def rNe:R2:=fun x y H Q=>scal x y = true /\ Q (.bl (!decide (x = y))) H
theorem dec_int {i j:Int}:decide (V.int i = V.int j) = (i == j):=by
 rw [Bool.eq_iff_iff]
 simp
theorem dec_bl {i j:Bool}:decide (V.bl i = V.bl j) = (i == j):=by
 rw [Bool.eq_iff_iff]
 simp
theorem dec_str {i j:Str}:decide (V.str i = V.str j) = (i == j):=by
 rw [Bool.eq_iff_iff]
 simp
theorem dec_byt {i j:Array UInt8}:decide (V.byt i = V.byt j) = (i.toList == j.toList):=by
 rw [Bool.eq_iff_iff]
 cases i
 cases j
 simp
section
variable {X:Cx} {a b c:Expr} {ta tb tc:TE} {pos:Pos}
theorem fin_bl {pins:List (Addr × Obj)} {σ:St} {H:Hp} {s:Shared} {Q:VK} {k k':Bool} (I:Inv X pins σ H s) (q:Q (.bl k) H) (e:k = k'):EP X pins σ Q (.bool k') s:=by
 subst e
 exact ⟨.bl k,H,I,rfl,q⟩
theorem op_eq:OpR X (compareOp .Eq) rEq:=by
 intro pins s σ H x y v u Q I rx ry h
 obtain ⟨hs,q⟩:=h
 cases x with
 | non =>
  cases rx
  cases y with
  | non=>cases ry; exact PySem.EqNone.eq_none_none (fin_bl I q (by simp))
  | bl j=>cases ry; exact PySem.EqNone.eq_none_bool (fin_bl I q (by simp))
  | int j=>obtain ⟨t',rfl⟩:=ry; exact PySem.EqNone.eq_none_int (fin_bl I q (by simp))
  | str j=>obtain ⟨t',rfl⟩:=ry; exact PySem.EqNone.eq_none_str (fin_bl I q (by simp))
  | _=>exact absurd (show false = true from hs) Bool.false_ne_true
 | bl i =>
  cases rx
  cases y with
  | non=>cases ry; exact PySem.EqNone.eq_bool_none (fin_bl I q (by simp))
  | bl j=>cases ry; exact eq_bool (fin_bl I q dec_bl)
  | str j=>obtain ⟨t',rfl⟩:=ry; exact PySem.EqMixed.eq_bool_str (fin_bl I q (by simp))
  | _=>exact absurd (show false = true from hs) Bool.false_ne_true
 | int i =>
  obtain ⟨t,rfl⟩:=rx
  cases y with
  | non=>cases ry; exact PySem.EqNone.eq_int_none (fin_bl I q (by simp))
  | int j=>obtain ⟨t',rfl⟩:=ry; exact eq_int (fin_bl I q dec_int)
  | str j=>obtain ⟨t',rfl⟩:=ry; exact PySem.EqMixed.eq_int_str (fin_bl I q (by simp))
  | _=>exact absurd (show false = true from hs) Bool.false_ne_true
 | str i =>
  obtain ⟨t,rfl⟩:=rx
  cases y with
  | non=>cases ry; exact PySem.EqNone.eq_str_none (fin_bl I q (by simp))
  | bl j=>cases ry; exact PySem.EqMixed.eq_str_bool (fin_bl I q (by simp))
  | int j=>obtain ⟨t',rfl⟩:=ry; exact PySem.EqMixed.eq_str_int (fin_bl I q (by simp))
  | str j=>obtain ⟨t',rfl⟩:=ry; exact eq_str (fin_bl I q dec_str)
  | _=>exact absurd (show false = true from hs) Bool.false_ne_true
 | byt i =>
  obtain ⟨t,rfl⟩:=rx
  cases y with
  | byt j=>obtain ⟨t',rfl⟩:=ry; exact PySem.W.eq_bytes (fin_bl I q dec_byt)
  | _=>exact absurd (show false = true from hs) Bool.false_ne_true
 | _=>cases y <;> exact absurd (show false = true from hs) Bool.false_ne_true
theorem op_ne:OpR X (compareOp .NotEq) rNe:=by
 intro pins s σ H x y v u Q I rx ry h
 obtain ⟨hs,q⟩:=h
 cases x with
 | non =>
  cases rx
  cases y with
  | non=>cases ry; exact PySem.EqNone.ne_none_none (fin_bl I q (by simp))
  | bl j=>cases ry; exact PySem.EqNone.ne_none_bool (fin_bl I q (by simp))
  | int j=>obtain ⟨t',rfl⟩:=ry; exact PySem.EqNone.ne_none_int (fin_bl I q (by simp))
  | str j=>obtain ⟨t',rfl⟩:=ry; exact PySem.EqNone.ne_none_str (fin_bl I q (by simp))
  | _=>exact absurd (show false = true from hs) Bool.false_ne_true
 | bl i =>
  cases rx
  cases y with
  | non=>cases ry; exact PySem.EqNone.ne_bool_none (fin_bl I q (by simp))
  | bl j=>cases ry; exact ne_bool (fin_bl I q (congrArg not dec_bl))
  | str j=>obtain ⟨t',rfl⟩:=ry; exact PySem.EqMixed.ne_bool_str (fin_bl I q (by simp))
  | _=>exact absurd (show false = true from hs) Bool.false_ne_true
 | int i =>
  obtain ⟨t,rfl⟩:=rx
  cases y with
  | non=>cases ry; exact PySem.EqNone.ne_int_none (fin_bl I q (by simp))
  | int j=>obtain ⟨t',rfl⟩:=ry; exact ne_int (fin_bl I q (congrArg not dec_int))
  | str j=>obtain ⟨t',rfl⟩:=ry; exact PySem.EqMixed.ne_int_str (fin_bl I q (by simp))
  | _=>exact absurd (show false = true from hs) Bool.false_ne_true
 | str i =>
  obtain ⟨t,rfl⟩:=rx
  cases y with
  | non=>cases ry; exact PySem.EqNone.ne_str_none (fin_bl I q (by simp))
  | bl j=>cases ry; exact PySem.EqMixed.ne_str_bool (fin_bl I q (by simp))
  | int j=>obtain ⟨t',rfl⟩:=ry; exact PySem.EqMixed.ne_str_int (fin_bl I q (by simp))
  | str j=>obtain ⟨t',rfl⟩:=ry; exact ne_str (fin_bl I q (congrArg not dec_str))
  | _=>exact absurd (show false = true from hs) Bool.false_ne_true
 | byt i =>
  obtain ⟨t,rfl⟩:=rx
  cases y with
  | byt j=>obtain ⟨t',rfl⟩:=ry; exact PySem.W.ne_bytes (fin_bl I q (congrArg not dec_byt))
  | _=>exact absurd (show false = true from hs) Bool.false_ne_true
 | _=>cases y <;> exact absurd (show false = true from hs) Bool.false_ne_true
theorem op_lt:OpR X (compareOp .Lt) (rI0 fun i j=>.bl (decide (i < j))):=opB0 fun _ _ _ _ _ _ _ q=>lt_int q
theorem op_gt:OpR X (compareOp .Gt) (rI0 fun i j=>.bl (decide (j < i))):=opB0 fun _ _ _ _ _ _ _ q=>gt_int q
theorem op_ge:OpR X (compareOp .GtE) (rI0 fun i j=>.bl (decide (j <= i))):=opB0 fun _ _ _ _ _ _ _ q=>ge_int q
theorem op_in_str:OpR X (compareOp .In) (fun x y H Q=>∃ i j,x = .str i /\ y = .str j /\ Q (.bl (!(Builtin.Str.occurrences j i 0 j.length 1).isEmpty)) H):=by
 intro pins s σ H x y v u Q I rx ry h
 obtain ⟨i,j,rfl,rfl,q⟩:=h
 obtain ⟨t,rfl⟩:=rx
 obtain ⟨t',rfl⟩:=ry
 exact in_str (fin_bl I q rfl)
theorem op_isN:OpR X (compareOp .Is) (fun x y H Q=>y = .non /\ Q (.bl (decide (x = .non))) H):=by
 intro pins s σ H x y v u Q I rx ry h
 obtain ⟨rfl,q⟩:=h
 cases ry
 refine is_none_gen (fin_bl I q ?_)
 cases x <;> first
  | (cases rx; rfl)
  | (obtain ⟨t,rfl⟩:=rx; rfl)
theorem nomark (b:Expr) {op:CmpOp} (h:op ≠ .In:=by decide) (h2:op ≠ .NotIn:=by decide):behindInMarks op b = false:=by
 have e1:(op == CmpOp.In) = false:=by cases op <;> first | rfl | exact absurd rfl h
 have e2:(op == CmpOp.NotIn) = false:=by cases op <;> first | rfl | exact absurd rfl h2
 cases b <;> simp [behindInMarks,e1,e2]
theorem pe_cmpR {op:CmpOp} {r:R2} (ho:OpR X (compareOp op) r) (ha:PE X a ta) (hb:PE X b tb) (hm:behindInMarks op b = false):PE X (.Compare a [op] [b] pos) (tOp r ta tb):=by
 intro pins s σ H Q I h
 exact wpAny_Compare1 (binT ha hb I h fun v u s2 x y H2 I2 rx ry q=>ho pins s2 σ H2 x y v u Q I2 rx ry q) hm
noncomputable def tTest (t:TE):TT:=fun σ H Q=>t σ H fun x H'=>∃ k,x = .bl k /\ Q k H'
theorem pt_cmpR {op:CmpOp} {r:R2} (ho:OpR X (compareOp op) r) (ha:PE X a ta) (hb:PE X b tb) (hm:behindInMarks op b = false):PT X (.Compare a [op] [b] pos) (tTest (tOp r ta tb)):=by
 intro pins s σ H Q I h
 refine wpAny_isTrue_Compare1 (thn (ha pins s σ H _ I h) fun v s1 ⟨x,H1,I1,r1,q1⟩=>thn (hb pins s1 σ H1 _ I1 q1) fun u s2 ⟨y,H2,I2,r2,q2⟩ =>
  thn (ho pins s2 σ H2 x y v u _ I2 r1 r2 q2) fun c s3 ⟨z,H3,I3,r3,k,e,q3⟩=>?_) hm
 subst e
 cases r3
 exact wpAny_truthy_bool ⟨H3,I3,q3⟩
theorem line63:(sizeLine:Nat) < 2 ^ 63:=by rw [sizeLine_eq]; decide
theorem op_add_str:OpR X (binaryOp .Add) (fun x y H Q=>∃ i j,x = .str i /\ y = .str j /\ i.length + j.length <= sizeLine /\ Q (.str (i ++ j)) H):=by
 intro pins s σ H x y v u Q I rx ry h
 obtain ⟨i,j,rfl,rfl,hz,q⟩:=h
 obtain ⟨t,rfl⟩:=rx
 obtain ⟨t',rfl⟩:=ry
 exact add_str (fun t' tk=>⟨.str (i ++ j),H,I.tok _,⟨_,rfl⟩,q⟩) hz
theorem vals1 {x:V} {us:List Value} (r:Vals [x] us):∃ u,us = [u] /\ RelV x u:=by
 cases r with
 | cons r1 r2=>cases r2; exact ⟨_,rfl,r1⟩
theorem vals2 {x y:V} {us:List Value} (r:Vals [x,y] us):∃ u w',us = [u,w'] /\ RelV x u /\ RelV y w':=by
 cases r with
 | cons r1 r2 =>
  cases r2 with
  | cons r3 r4=>cases r4; exact ⟨_,_,rfl,r1,r3⟩
theorem call_abs:CallR X (.builtin "abs") (fun xs H Q=>∃ i,xs = [.int i] /\ Q (.int (if i < 0 then -i else i)) H):=by
 intro pins s σ H xs us Q I r h
 obtain ⟨i,rfl,q⟩:=h
 obtain ⟨u,rfl,t,rfl⟩:=vals1 r
 exact call_abs_int fun u tk=>⟨.int (if i < 0 then -i else i),H,I.tok _,⟨_,rfl⟩,q⟩
theorem call_int1:CallR X (.type "int") (fun xs H Q=>(∃ i,xs = [.int i] /\ Q (.int i) H) \/ ∃ k,xs = [.bl k] /\ Q (.int (if k then 1 else 0)) H):=by
 intro pins s σ H xs us Q I r h
 rcases h with ⟨i,rfl,q⟩ | ⟨k,rfl,q⟩
 ·obtain ⟨u,rfl,t,rfl⟩:=vals1 r
  exact call_int_int ⟨.int i,H,I,⟨_,rfl⟩,q⟩
 ·obtain ⟨u,rfl,r1⟩:=vals1 r
  cases r1
  exact call_int_bool ⟨.int (if k then 1 else 0),H,I.tok _,⟨_,rfl⟩,q⟩
noncomputable def LenV (K:PySem.W.Frag) (x:V) (H:Hp) (n:Nat):Prop :=
 match x with
 | .str y=>y.length <= sizeLine /\ n = y.length
 | .byt y=>y.size <= sizeLine /\ n = y.size
 | .ref p=>(∃ xs,SqL K H p xs /\ n = xs.length) \/ ∃ xs,SqT K H p xs /\ n = xs.length
 | _=>False
theorem call_len:CallR X (.builtin "len") (fun xs H Q=>∃ x n,xs = [x] /\ LenV X.K x H n /\ Q (.int n) H):=by
 intro pins s σ H xs us Q I r h
 obtain ⟨x,n,rfl,e,q⟩:=h
 obtain ⟨u,rfl,rx⟩:=vals1 r
 have hl:=line63
 have hs:sizeLine = 16777216:=sizeLine_eq
 cases x with
 | str y =>
  obtain ⟨t,rfl⟩:=rx
  obtain ⟨hy,e'⟩:y.length <= sizeLine /\ n = y.length:=e
  subst e'
  exact len_str (by lia) ⟨.int _,H,I.tok _,⟨_,rfl⟩,q⟩
 | byt y =>
  obtain ⟨t,rfl⟩:=rx
  obtain ⟨hy,e'⟩:y.size <= sizeLine /\ n = y.size:=e
  subst e'
  exact PySem.W.len_bytes (by lia) ⟨.int _,H,I.tok _,⟨_,rfl⟩,q⟩
 | ref p =>
  cases rx
  have e':(∃ xs,SqL X.K H p xs /\ n = xs.length) \/ ∃ xs,SqT X.K H p xs /\ n = xs.length:=e
  rcases e' with ⟨xs,hx,e'⟩ | ⟨xs,hx,e'⟩
  ·subst e'
   obtain ⟨its,r',pl,hz⟩:=I.list hx
   have hlen:=r'.length
   exact Calls.call_len_list pl.isList (by simp only [List.size_toArray]; lia) ⟨.int xs.length,H,I.tok _,⟨_,by simp only [List.size_toArray]; rw [hlen]⟩,q⟩
  ·subst e'
   obtain ⟨its,r',pl,hz⟩:=I.tuple hx
   have hlen:=r'.length
   exact len_tuple pl (by simp only [List.size_toArray]; lia) ⟨.int xs.length,H,I.tok _,⟨_,by simp only [List.size_toArray]; rw [hlen]⟩,q⟩
 | _=>exact (show False from e).elim
end
end L2
namespace L2
open PySem PySem.Spec PyProof.Rows
structure ObjM (h:Heap) (x dx C:Addr) (mA:Str->Option Value):Prop where
 obj:h.get? x = some (PySem.W.instObj C dx)
 ns:h.Ns1 dx mA
 ne:dx ≠ x
theorem lookIn_ns {h:Heap} {dx:Addr} {mA:Str->Option Value} (n:h.Ns1 dx mA):∃ od,h.get? dx = some od /\ ∀ name,PySem.W.lookIn name od = some (mA name):=by
 obtain ⟨o,es,ep,ho,hd,hk,_,hm⟩:=n
 refine ⟨o,ho,fun name=>?_⟩
 have e:=hm name
 unfold nsFind findBy at e
 rw [<- Array.find?_toList] at e
 unfold PySem.W.lookIn
 rw [hd]
 dsimp only
 split
 ·rename_i y q
  rw [q] at e
  exact congrArg some e
 ·rename_i q
  rw [q] at e
  have a:es.toList.any (·.refKey) = false:=by
   rw [List.any_eq_false]
   intro y hy
   obtain ⟨z,t,hkey⟩:=hk y (Array.mem_toList_iff.mp hy)
   simp [DictEntry.refKey,hkey]
  have a':¬ es.toList.any (·.refKey) = true:=by rw [a]; exact Bool.false_ne_true
  rw [if_neg a']
  exact congrArg some e
theorem ObjM.look {h:Heap} {x dx C:Addr} {mA:Str->Option Value} (I:ObjM h x dx C mA):∃ od,PySem.W.InstAt h x (PySem.W.instObj C dx) C (some od) /\ ∀ name,PySem.W.lookIn name od = some (mA name) :=
 let ⟨od,ho,hl⟩:=lookIn_ns I.ns
 ⟨od,⟨I.obj,rfl,rfl,ho⟩,hl⟩
section
variable {prog:Program} {w:World} {A:Around} {E:Value->Shared->Prop} {s:Shared} {K:PySem.W.Frag} {x dx C f:Addr} {mA:Str->Option Value} {name:Str} {v:Value}
theorem get_map {expr:Bool} {Q:Value->Shared->Prop} (X:K.In s.heap) (I:ObjM s.heap x dx C mA) (hg:PySem.W.plainGet K C name = true) (hh:PySem.W.hasDictIn K C = true)
  (ha:PySem.W.findIn K (.ref C) name = some none) (hv:mA name = some v) (hv':PySem.W.handedIn v = true) (h:Q v { s with toks:=s.toks + 1 }) :
  wpAny (model prog w) A (getAttr (.ref x) name expr) Q E s:=by
 obtain ⟨od,J,hl⟩:=I.look
 exact PySem.W.get_value X J (PySem.W.plainGet_of hg).1 (PySem.W.findObj_own hh ha rfl (by rw [hl,hv])) hv' h
theorem get_meth {pl:Sem Bool} {Q:Value × List Value->Shared->Prop} (X:K.In s.heap) (I:ObjM s.heap x dx C mA) (hg:PySem.W.plainGet K C name = true)
  (hf:PySem.W.findIn K (.ref C) name = some (some (.ref f))) (ht:PySem.W.isFn K (.ref f) = true) (hv:mA name = none) (h:Q (.ref f,[.ref x]) s) :
  wpAny (model prog w) A (getMethod (.ref x) name pl) Q E s:=by
 obtain ⟨od,J,hl⟩:=I.look
 exact PySem.W.method_fn X J (PySem.W.plainGet_of hg).1 (PySem.W.plainGet_of hg).2 hf (beq_iff_eq.mp ht) (by show (PySem.W.lookIn name od).map (·.isSome) = some false; rw [hl,hv]; rfl) h
theorem set_map {ns:List Str} {Q:Unit->Shared->Prop} (X:K.In s.heap) (I:ObjM s.heap x dx C mA)
  (hs:PySem.W.findIn K (.ref C) "__setattr__" = some (some (.builtin "object.__setattr__"))) (hp:PySem.W.plainOver K C = true) (ht:PySem.W.takerIn K C name = some none) (hh:PySem.W.hasDictIn K C = true)
  (hw:PySem.Within mA ns) (hsz:ns.length <= sizeLine)
  (h:∀ h',ObjM h' x dx C (fun y=>if y = name then some v else mA y)->Heap.SameBut dx s.heap h'->Q () { s with heap:=h',toks:=s.toks + 2 }) :
  wpAny (model prog w) A (setAttr (.ref x) name v) Q E s:=by
 obtain ⟨od,J,hl⟩:=I.look
 refine PySem.W.set_plain X J hs (PySem.W.osa_open (s:={ s with toks:=s.toks + 1 }) (r:=none) X J hp ht fun b=>?_)
 obtain ⟨cd,hc,hd'⟩:=PySem.W.any_some hh
 have hx:s.heap.get? x = some ⟨.ref C,some dx,.plain,#[]⟩:=I.obj
 refine wpAny_bind (wpAny_pure (wpAny_bind (wpAny_bind (wpAny_loadPart hx (wpAny_bind (PySem.W.Looks.here (s:={ s with toks:=s.toks + 1 }) (PySem.W.looks_clsIn X hc) ?_))))))
 rw [hd']
 refine wpAny_pure (a:=some dx) (wpAny_bind (wpAny_pure (wpAny_bind ?_)))
 refine wpAny_nsSet1 (s:={ s with toks:=s.toks + 1 }) I.ns fun h' hn2 hs2=>?_
 obtain ⟨oD,esD,epD,hoD,hdD,hcD⟩:=hn2.count (PySem.Within.cons name v hw)
 refine wpAny_bind (wpAny_lookBehind hoD (by rw [hdD]; exact pastItsLine_dict (Nat.le_trans hcD (by rw [List.length_cons]; lia))) ?_)
 exact wpAny_pure (h _ ⟨(hs2.2 _ (Ne.symm I.ne)).trans I.obj,hn2,I.ne⟩ hs2)
theorem make_map {R:Result->Shared->Prop} {vs:List Value} {kw:List (Str × Value)} (X:K.In s.heap) (hm:PySem.W.makesIn K C = true)
  (hi:PySem.W.findIn K (.ref C) "__init__" = some (some (.ref f))) (hf:PySem.W.typeIn K (.ref f) = some (.type "function"))
  (h:codeAny (model prog w) (A.under (.builtin "type.__call__" ⟨.ref C :: vs,kw⟩)) (.call (.ref f) ⟨.ref (s.heap.objs.size + 1) :: vs,kw⟩) (PySem.W.InitBack (s.heap.objs.size + 1) R)
   { s with heap:=(s.heap.push PySem.W.emptyDict).push (PySem.W.instObj C s.heap.objs.size) }) :
  codeAny (model prog w) A (.call (.ref C) ⟨vs,kw⟩) R s:=by
 obtain ⟨hh,g,d,t,os⟩:=s
 exact PySem.W.make_core (PySem.W.makes_of X hm) (PySem.W.looks_findIn X hi) (fun self=>PySem.W.bind_fn X self hf) (.inl rfl) h
end
noncomputable def putF (f:Str) (v:V):List (Str × V)->List (Str × V)
 | []=>[(f,v)]
 | (g,x) :: r=>if g = f then (g,v) :: r else (g,x) :: putF f v r
theorem lookup_putF (f g:Str) (v:V):∀ fs:List (Str × V),(putF f v fs).lookup g = if g = f then some v else fs.lookup g
 | []=>by
  show List.lookup g [(f,v)] = _
  by_cases h:g = f
  ·have hb:(g == f) = true:=beq_iff_eq.mpr h
   simp only [List.lookup,hb,if_pos h]
  ·have hb:(g == f) = false:=beq_eq_false_iff_ne.mpr h
   simp only [List.lookup,hb,if_neg h]
 | (k,x) :: r=>by
  have ih:=lookup_putF f g v r
  rw [show putF f v ((k,x) :: r) = (if k = f then (k,v) :: r else (k,x) :: putF f v r) from rfl]
  by_cases hk:k = f
  ·rw [if_pos hk]
   by_cases h:g = k
   ·have hb:(g == k) = true:=beq_iff_eq.mpr h
    simp only [List.lookup,hb,if_pos (h.trans hk)]
   ·have hb:(g == k) = false:=beq_eq_false_iff_ne.mpr h
    simp only [List.lookup,hb,if_neg (fun e:g = f=>h (e.trans hk.symm))]
  ·rw [if_neg hk]
   by_cases h:g = k
   ·have hb:(g == k) = true:=beq_iff_eq.mpr h
    simp only [List.lookup,hb,if_neg (fun e:g = f=>hk (h.symm.trans e))]
   ·have hb:(g == k) = false:=beq_eq_false_iff_ne.mpr h
    simp only [List.lookup,hb]
    exact ih
theorem keys_putF (f:Str) (v:V):∀ fs:List (Str × V),f ∈ (putF f v fs).map (·.1) /\ ∀ g,g ∈ fs.map (·.1)->g ∈ (putF f v fs).map (·.1)
 | []=>⟨by simp [putF],fun g h=>by simp at h⟩
 | (k,x) :: r=>by
  obtain ⟨i1,i2⟩:=keys_putF f v r
  rw [show putF f v ((k,x) :: r) = (if k = f then (k,v) :: r else (k,x) :: putF f v r) from rfl]
  by_cases hk:k = f
  ·rw [if_pos hk]
   subst hk
   exact ⟨by simp,fun g h=>by simpa using h⟩
  ·rw [if_neg hk]
   refine ⟨?_,fun g h=>?_⟩
   ·rw [List.map_cons]
    exact List.mem_cons_of_mem _ i1
   ·rw [List.map_cons] at h ⊢
    rcases List.mem_cons.mp h with e | e
    ·exact List.mem_cons.mpr (.inl e)
    ·exact List.mem_cons_of_mem _ (i2 g e)
theorem length_putF (f:Str) (v:V):∀ fs:List (Str × V),(putF f v fs).length <= fs.length + 1
 | []=>by simp [putF]
 | (k,x) :: r=>by
  have ih:=length_putF f v r
  rw [show putF f v ((k,x) :: r) = (if k = f then (k,v) :: r else (k,x) :: putF f v r) from rfl]
  by_cases hk:k = f
  ·rw [if_pos hk,List.length_cons,List.length_cons]; lia
  ·rw [if_neg hk,List.length_cons,List.length_cons]; lia
theorem RelO.some_of {v:V} {o:Option Value} (r:RelO (some v) o):∃ u,o = some u /\ RelV v u:=by
 cases o with
 | none=>exact (show False from r).elim
 | some u=>exact ⟨u,rfl,r⟩
theorem RelO.none_of {o:Option Value} (r:RelO none o):o = none:=by
 cases o with
 | none=>rfl
 | some u=>exact (show False from r).elim
theorem handed_of {v:V} {u:Value} (r:RelV v u):PySem.W.handedIn u = true:=by
 cases v with
 | non=>cases (show u = Value.none from r); rfl
 | bl b=>cases (show u = Value.bool b from r); rfl
 | int i=>obtain ⟨t,e⟩:=(show ∃ t,u = Value.int i t from r); cases e; rfl
 | str x=>obtain ⟨t,e⟩:=(show ∃ t,u = Value.str x t from r); cases e; rfl
 | byt b=>obtain ⟨t,e⟩:=(show ∃ t,u = Value.bytes b t from r); cases e; rfl
 | flt b=>obtain ⟨t,e⟩:=(show ∃ t,u = Value.float b t from r); cases e; rfl
 | ref a=>cases (show u = Value.ref a from r); rfl
 | ty n=>cases (show u = Value.type n from r); rfl
section
variable {P:Program} {w:World} {H H':Hp} {h h':Heap} {a C dx:Addr} {fs fs':List (Str × V)}
theorem ins_get (hok:HOk P w H h) (e:H a = some (.ins C dx fs)):∃ mA,ObjM h a dx C mA /\ (∀ f,RelO (fs.lookup f) (mA f)) /\ PySem.Within mA (fs.map (·.1)) /\ fs.length <= 1000 /\ H dx = some (.own a):=by
 obtain ⟨d,z,ne,ob,mA,n,r,q⟩:=(show ObjOk P w H h a (.ins C dx fs) from hok a _ e)
 exact ⟨mA,⟨ob,n,ne⟩,r,q,z,d⟩
end
structure Cls (K:PySem.W.Frag) (C:Addr):Prop where
 pg:PySem.W.plainGet K C Str.empty = true
 hd:PySem.W.hasDictIn K C = true
 po:PySem.W.plainOver K C = true
 sa:PySem.W.findIn K (.ref C) "__setattr__" = some (some (.builtin "object.__setattr__"))
theorem Cls.get {K:PySem.W.Frag} {C:Addr} (c:Cls K C) (f:Str):PySem.W.plainGet K C f = true:=c.pg
noncomputable def NoAttr (K:PySem.W.Frag) (C:Addr) (f:Str):Prop:=PySem.W.findIn K (.ref C) f = some none
theorem NoAttr.taker {K:PySem.W.Frag} {C:Addr} {f:Str} (n:NoAttr K C f):PySem.W.takerIn K C f = some none:=by
 unfold PySem.W.takerIn
 rw [show PySem.W.findIn K (.ref C) f = some none from n]
 rfl
structure Meth (K:PySem.W.Frag) (C:Addr) (m:Str) (f:Addr):Prop where
 at_:PySem.W.findIn K (.ref C) m = some (some (.ref f))
 fn:PySem.W.isFn K (.ref f) = true
 kp:PySem.W.keepIn K (.ref f) = true
section
variable {X:Cx} {pins:List (Addr × Obj)} {σ:St} {H:Hp} {s:Shared} {a C dx:Addr} {fs:List (Str × V)} {f:Str} {v:V} {A:Around} {E:Value->Shared->Prop}
theorem getattr_ok {b:Bool} {Q:Value->Shared->Prop} (I:Inv X pins σ H s) (e:H a = some (.ins C dx fs)) (c:Cls X.K C) (n:NoAttr X.K C f) (l:fs.lookup f = some v)
  (h:∀ u s',Inv X pins σ H s'->RelV v u->Q u s'):wpAny (model X.prog X.w) A (getAttr (.ref a) f b) Q E s:=by
 obtain ⟨mA,O,r,_,_,_⟩:=ins_get I.hok e
 obtain ⟨u,hu,ru⟩:=RelO.some_of (v:=v) (o:=mA f) (by rw [<- l]; exact r f)
 exact get_map I.kIn O (c.get f) c.hd n hu (handed_of ru) (h u _ (I.tok _) ru)
theorem getmeth_ok {m:Str} {g:Addr} {pl:Sem Bool} {Q:Value × List Value->Shared->Prop} (I:Inv X pins σ H s) (e:H a = some (.ins C dx fs)) (c:Cls X.K C) (k:Meth X.K C m g) (l:fs.lookup m = none)
  (h:Q (.ref g,[.ref a]) s):wpAny (model X.prog X.w) A (getMethod (.ref a) m pl) Q E s:=by
 obtain ⟨mA,O,r,_,_,_⟩:=ins_get I.hok e
 have hn:mA m = none:=RelO.none_of (by rw [<- l]; exact r m)
 exact get_meth I.kIn O (c.get m) k.at_ k.fn hn h
theorem setattr_ok {y:V} {u:Value} {Q:Unit->Shared->Prop} (I:Inv X pins σ H s) (e:H a = some (.ins C dx fs)) (c:Cls X.K C) (n:NoAttr X.K C f) (hl:fs.length < 1000) (ry:RelV y u)
  (h:∀ s',Inv X pins σ (upd H a (.ins C dx (putF f y fs))) s'->Q () s'):wpAny (model X.prog X.w) A (setAttr (.ref a) f u) Q E s:=by
 obtain ⟨mA,O,r,wi,_,ho⟩:=ins_get I.hok e
 have hz:(fs.map (·.1)).length <= sizeLine:=by rw [List.length_map,sizeLine_eq]; lia
 refine set_map I.kIn O c.sa c.po n.taker c.hd wi hz fun h' O' sb=>h _ ?_
 have hd:∃ o,h'.get? dx = some o:=let ⟨o,_,_,e',_⟩:=O'.ns; ⟨o,e'⟩
 refine I.write (x:=a) (e:=dx) (by rw [e]; exact True.intro) (.inr ho) (fun b q hb z=>(sb.2 b hb).trans z) hd ?_
 refine ⟨by rw [upd_ne O.ne]; exact ho,?_,O.ne,O'.obj,_,O'.ns,fun g=>?_,fun g hg=>?_⟩
 ·have:=length_putF f y fs; lia
 ·show RelO ((putF f y fs).lookup g) (if g = f then some u else mA g)
  rw [lookup_putF]
  by_cases q:g = f
  ·rw [if_pos q,if_pos q]; exact ry
  ·rw [if_neg q,if_neg q]; exact r g
 ·by_cases q:g = f
  ·rw [q]; exact (keys_putF f y fs).1
  ·refine (keys_putF f y fs).2 g (wi g fun z=>hg ?_)
   show (if g = f then some u else mA g) = none
   rw [if_neg q]; exact z
theorem Inv.made (I:Inv X pins σ H s):Inv X pins σ (upd (upd H s.heap.objs.size (.own (s.heap.objs.size + 1))) (s.heap.objs.size + 1) (.ins C s.heap.objs.size []))
  { s with heap:=(s.heap.push PySem.W.emptyDict).push (PySem.W.instObj C s.heap.objs.size) }:=by
 have e1:(s.heap.push PySem.W.emptyDict).get? s.heap.objs.size = some PySem.W.emptyDict:=Heap.get?_push_size s.heap rfl
 have e2:((s.heap.push PySem.W.emptyDict).push (PySem.W.instObj C s.heap.objs.size)).get? (s.heap.objs.size + 1) = some (PySem.W.instObj C s.heap.objs.size):=by
  have:=Heap.get?_push_size (s.heap.push PySem.W.emptyDict) (o:=PySem.W.instObj C s.heap.objs.size) rfl
  rwa [Heap.size_push] at this
 have e3:(s.heap.push PySem.W.emptyDict).Ns s.heap.objs.size (fun _=>none):=⟨PySem.W.emptyDict,#[],_,e1,rfl,(fun e he=>absurd he (by simp)),fun _=>rfl⟩
 have I1:=I.laid (a:=s.heap.objs.size) (o:=.own (s.heap.objs.size + 1)) (h':=s.heap.push PySem.W.emptyDict) (t':=s.toks) (fun b u q=>Heap.get?_push_of_some _ q) (Nat.le_refl _) ⟨_,e1⟩
 refine I1.laid (a:=s.heap.objs.size + 1) (o:=.ins C s.heap.objs.size []) (t':=s.toks) (fun b u q=>Heap.get?_push_of_some _ q) (Nat.le_of_eq (Heap.size_push _ _)) ?_
 have ne:s.heap.objs.size ≠ s.heap.objs.size + 1:=Nat.ne_of_lt (Nat.lt_succ_self _)
 refine ⟨by rw [upd_ne ne,upd_same],Nat.zero_le _,ne,e2,fun _=>none,(Heap.Ns1.of_empty e3).at fun o q=>Heap.get?_push_of_some _ q,fun _=>True.intro,fun y hy=>absurd rfl hy⟩
theorem attr_of {prog:Program} {w:World} {env:Env} {e:Expr} {f:Str} {pos:Pos} {s:Shared} {Q:Value->Shared->Prop} (hb:attributeBase e f env (eval e env) = eval e env)
  (h:wpAny (model prog w) A (eval e env) (fun o s₁=>wpAny (model prog w) A (getAttr o f true) Q E s₁) E s):wpAny (model prog w) A (eval (.Attribute e f pos) env) Q E s :=
 Attribute_any_ h (by rw [arm_eval_Attribute,hb])
end
noncomputable def tFld (K:PySem.W.Frag) (ta:TE) (f:Str):TE:=fun σ H Q=>ta σ H fun x H1=>∃ a C dx fs v,x = .ref a /\ H1 a = some (.ins C dx fs) /\ Cls K C /\ NoAttr K C f /\ fs.lookup f = some v /\ Q v H1
noncomputable def sFld (K:PySem.W.Frag) (ta tv:TE) (f:Str):TS:=fun D σ H=>tv σ H fun y H1=>ta σ H1 fun x H2=>∃ a C dx fs,x = .ref a /\ H2 a = some (.ins C dx fs) /\ Cls K C /\ NoAttr K C f /\ fs.length < 1000 /\
 D.nx σ (upd H2 a (.ins C dx (putF f y fs)))
noncomputable def InOp (X:Cx) (op:Operator) (rd:V->V->Hp->VK->Prop):Prop :=
 ∀ (pins:List (Addr × Obj)) (s:Shared) (σ:St) (H:Hp) (x y:V) (u v:Value) (Q:VK),Inv X pins σ H s->RelV x u->RelV y v->rd x y H Q->wpAny (model X.prog X.w) X.A (inplaceOp op u v) (EP X pins σ Q) X.xe s
noncomputable def sFldAug (K:PySem.W.Frag) (ta tv:TE) (rd:V->V->Hp->VK->Prop) (f:Str):TS:=fun D σ H=>ta σ H fun x H1=>∃ a C dx fs v,x = .ref a /\ H1 a = some (.ins C dx fs) /\ Cls K C /\ NoAttr K C f /\ fs.lookup f = some v /\
 tv σ H1 fun y H2=>rd v y H2 fun z H3=>∃ dx' fs',H3 a = some (.ins C dx' fs') /\ fs'.length < 1000 /\ D.nx σ (upd H3 a (.ins C dx' (putF f z fs')))
section
variable {X:Cx} {o e value:Expr} {f:Str} {pos pos' tpos:Pos} {ta tv:TE}
theorem pe_fld (he:PE X e ta) (hb:attributeBase e f X.env (eval e X.env) = eval e X.env):PE X (.Attribute e f pos) (tFld X.K ta f):=by
 intro pins s σ H Q I h
 refine attr_of hb (thn (he pins s σ H _ I h) fun u s1 ⟨x,H1,I1,rx,a,C,dx,fs,v,ex,ea,c,n,l,q⟩=>?_)
 subst ex
 obtain rfl:u = Value.ref a:=rx
 exact getattr_ok I1 ea c n l fun u' s2 I2 ru=>⟨v,H1,I2,ru,q⟩
theorem ps_fld (ha:PE X o ta) (hv:PE X value tv) (hs:swapsWith value (some (.Attribute o f pos')) pos.line X.env = pure false):PS X (.Assign [.Attribute o f pos'] value pos) (sFld X.K ta tv f):=by
 intro pins s σ H D I h
 refine plainObj_wpAny_Assign_Attribute (thn (hv pins s σ H _ I h) fun u s1 ⟨y,H1,I1,ry,q⟩=>thn (ha pins s1 σ H1 _ I1 q) fun ov s2 ⟨x,H2,I2,rx,a,C,dx,fs,ex,ea,c,n,l,q2⟩=>?_) hs
 subst ex
 obtain rfl:ov = Value.ref a:=rx
 exact setattr_ok I2 ea c n l ry fun s3 I3=>⟨σ,_,I3,q2⟩
theorem ps_fldaug {op:Operator} {rd:V->V->Hp->VK->Prop} (ha:PE X o ta) (hv:PE X value tv) (hop:InOp X op rd):PS X (.AugAssign (.Attribute o f tpos) op value pos) (sFldAug X.K ta tv rd f):=by
 intro pins s σ H D I h
 refine wpAny_AugAssign_AttributeAny (thn (ha pins s σ H _ I h) fun ov s1 ⟨x,H1,I1,rx,a,C,dx,fs,v,ex,ea,c,n,l,q⟩=>?_)
 subst ex
 obtain rfl:ov = Value.ref a:=rx
 refine getattr_ok I1 ea c n l fun u s2 I2 ru=>thn (hv pins s2 σ H1 _ I2 q) fun w3 s3 ⟨y,H2,I3,ry,q3⟩=>thn (hop pins s3 σ H2 v y u w3 _ I3 ru ry q3) fun w4 s4 ⟨z,H3,I4,rz,dx',fs',ea',l',q4⟩=>?_
 exact setattr_ok I4 ea' c n l' rz fun s5 I5=>⟨σ,_,I5,q4⟩
noncomputable def rAdd:V->V->Hp->VK->Prop:=fun x y H Q=>∃ i j,x = .int i /\ y = .int j /\ Q (.int (i + j)) H
theorem in_add:InOp X .Add rAdd:=by
 rintro pins s σ H x y u v Q I rx ry ⟨i,j,rfl,rfl,q⟩
 obtain ⟨t,rfl⟩:=(show ∃ t,u = Value.int i t from rx)
 obtain ⟨t',rfl⟩:=(show ∃ t',v = Value.int j t' from ry)
 exact PyProof.Rows.iadd_int ⟨.int (i + j),H,I.tok _,⟨_,rfl⟩,q⟩
end
section
variable {X:Cx} {pins:List (Addr × Obj)} {σ:St} {H:Hp} {s:Shared} {A:Around} {E:Value->Shared->Prop} {Q:Value->Shared->Prop} {c:Value} {b:Bool}
inductive TyOf (K:PySem.W.Frag) (H:Hp):V->Value->Prop where
 | non:TyOf K H .non (.type "NoneType")
 | bl (x:Bool):TyOf K H (.bl x) (.type "bool")
 | int (i:Int):TyOf K H (.int i) (.type "int")
 | str (x:Str):TyOf K H (.str x) (.type "str")
 | flt (x:UInt64):TyOf K H (.flt x) (.type "float")
 | lst {a:Addr} {xs:List V} (e:H a = some (.lst xs)):TyOf K H (.ref a) (.type "list")
 | frz {a:Addr} {o:Obj} {xs:List V} (e:H a = some (.frz o (.lst xs))):TyOf K H (.ref a) (.type "list")
 | tup {a:Addr} {xs:List V} (e:H a = some (.tup xs)):TyOf K H (.ref a) (.type "tuple")
 | dK {a:Addr} {kvs:List (Key × V)} (e:H a = some (.dK kvs)):TyOf K H (.ref a) (.type "dict")
 | dT {a:Addr} {kvs:List (List Key × V)} (e:H a = some (.dT kvs)):TyOf K H (.ref a) (.type "dict")
 | ins {a C dx:Addr} {fs:List (Str × V)} (e:H a = some (.ins C dx fs)) (cl:Cls K C) (ha:PySem.W.findIn K (.ref C) "__class__" = some (some (.builtin "object.__class__")))
   (hn:PySem.W.specialIn K (.builtin "object.__class__") "__get__" = some (some (.builtin "getset_descriptor.__get__"))) (htk:PySem.W.takesIn K (.builtin "object.__class__") = some true)
   (hm:PySem.W.mroIn K C (.type "object") = some true):TyOf K H (.ref a) (.ref C)
theorem isinst_ok {x:V} {u t:Value} (I:Inv X pins σ H s) (rx:RelV x u) (ty:TyOf X.K H x t) (e:PySem.W.kitOne X.K t c = some b) (h:∀ tk,Q (.bool b) { s with toks:=tk }) :
  wpAny (model X.prog X.w) A (call (.builtin "isinstance") [u,c]) Q E s:=by
 cases ty with
 | non=>cases (show u = Value.none from rx); exact PySem.W.kia_one PySem.W.kitx_none I.kIn True.intro e (fun z=>nomatch z) h
 | bl y=>cases (show u = Value.bool y from rx); exact PySem.W.kia_one PySem.W.kitx_bool I.kIn True.intro e (fun z=>nomatch z) h
 | int i=>obtain ⟨t,q⟩:=(show ∃ t,u = Value.int i t from rx); cases q; exact PySem.W.kia_one PySem.W.kitx_int I.kIn True.intro e (fun z=>nomatch z) h
 | str y=>obtain ⟨t,q⟩:=(show ∃ t,u = Value.str y t from rx); cases q; exact PySem.W.kia_one PySem.W.kitx_str I.kIn True.intro e (fun z=>nomatch z) h
 | flt y=>obtain ⟨t,q⟩:=(show ∃ t,u = Value.float y t from rx); cases q; exact PySem.W.kia_one PySem.W.kitx_float I.kIn True.intro e (fun z=>nomatch z) h
 | @lst a xs ea =>
  cases (show u = Value.ref a from rx)
  obtain ⟨_,_,n,_,h1⟩:=(show ObjOk X.prog X.w H s.heap a (.lst xs) from I.hok a _ ea)
  exact PySem.W.kia_one PySem.W.kitx_list I.kIn ⟨_,h1,rfl⟩ e (fun z=>nomatch z) h
 | @frz a ob xs ea =>
  cases (show u = Value.ref a from rx)
  obtain ⟨_,_,_,n,_,h1⟩:=(show ObjOk X.prog X.w H s.heap a (.frz ob (.lst xs)) from I.hok a _ ea)
  exact PySem.W.kia_one PySem.W.kitx_list I.kIn ⟨_,h1,rfl⟩ e (fun z=>nomatch z) h
 | @tup a xs ea =>
  cases (show u = Value.ref a from rx)
  obtain ⟨_,_,_,p⟩:=(show ObjOk X.prog X.w H s.heap a (.tup xs) from I.hok a _ ea)
  obtain ⟨o,h1,h2,_⟩:=p
  exact PySem.W.kia_one PySem.W.kitx_tuple I.kIn ⟨o,h1,h2⟩ e (fun z=>nomatch z) h
 | @dK a kvs ea =>
  cases (show u = Value.ref a from rx)
  obtain ⟨_,_,vs,_,p⟩:=(show ObjOk X.prog X.w H s.heap a (.dK kvs) from I.hok a _ ea)
  obtain ⟨o,es,ep,h1,h2,_⟩:=p
  exact PySem.W.kia_one PySem.W.kitx_dict I.kIn ⟨o,h1,h2.1⟩ e (fun z=>nomatch z) h
 | @dT a kvs ea =>
  cases (show u = Value.ref a from rx)
  obtain ⟨_,_,xs,_,o,es,ep,h1,h2,_⟩:=(show ObjOk X.prog X.w H s.heap a (.dT kvs) from I.hok a _ ea)
  exact PySem.W.kia_one PySem.W.kitx_dict I.kIn ⟨o,h1,h2.1⟩ e (fun z=>nomatch z) h
 | @ins a C dx fs ea cl ha hn htk hm =>
  cases (show u = Value.ref a from rx)
  obtain ⟨mA,O,_⟩:=ins_get I.hok ea
  obtain ⟨od,J,_⟩:=O.look
  exact PySem.W.kia_one (PySem.W.kitx_own (cl.get _) cl.hd ha hn htk hm) I.kIn J e (fun z=>nomatch z) h
end
end L2
namespace L2
open PySem PySem.Spec PyProof.Rows
structure Room (k:Nat) (A:Around):Prop where
 hd:A.handled = none
 dp:A.depth + 3 * k + 5 < recursionLimit
 un:A.units + 16 * k + 200 < cLine
theorem Room.mono {j k:Nat} {A:Around} (r:Room k A) (h:j <= k):Room j A:=⟨r.hd,by have:=r.dp; lia,by have:=r.un; lia⟩
theorem Room.deeper {k:Nat} {A:Around} (r:Room (k + 1) A) (env:Env):Room k (A.deeper env) :=
 ⟨r.hd,by have:=r.dp; show A.depth + 1 + 3 * k + 5 < _; lia,by have:=r.un; show A.units + 3 + 16 * k + 200 < _; lia⟩
theorem make_depth {A:Around} {C:Addr} {us:List Value} {kw:List (Str × Value)}:(A.under (.builtin "type.__call__" ⟨.ref C :: us,kw⟩)).depth = A.depth + 1:=by
 first | rfl | simp [Around.under,Code.weight,Code.isCreation,Code.isGuard,Code.isCaller,Code.frames,Code.isFrame,guardIds]
theorem make_units {A:Around} {C:Addr} {us:List Value} {kw:List (Str × Value)}:(A.under (.builtin "type.__call__" ⟨.ref C :: us,kw⟩)).units = A.units + 1:=by
 first | rfl | simp [Around.under,Code.cUnits,Code.frames,Code.isFrame]
theorem Room.make {k:Nat} {A:Around} (r:Room (k + 1) A) (C:Addr) (us:List Value) (kw:List (Str × Value)):Room k (A.under (.builtin "type.__call__" ⟨.ref C :: us,kw⟩)) :=
 ⟨r.hd,by have:=r.dp; rw [make_depth]; lia,by have:=r.un; rw [make_units]; lia⟩
theorem Room.depth {k:Nat} {A:Around} (r:Room k A):A.depth < recursionLimit:=by have:=r.dp; lia
theorem Room.units {k:Nat} {A:Around} (r:Room k A):A.units + 64 < cLine:=by have:=r.un; lia
noncomputable def tNil:TA:=fun _ H Q=>Q [] H
noncomputable def tCons (ta:TE) (tr:TA):TA:=fun σ H Q=>ta σ H fun x H1=>tr σ H1 fun xs H2=>Q (x :: xs) H2
section
variable {X:Cx} {e:Expr} {es:List Expr} {te:TE} {t:TA} {pos:Pos}
theorem pa_nil:PA X [] tNil:=fun _ _ _ _ H Q I h=>Calls.spliced_nil ⟨[],H,I,.nil,h⟩
theorem pa_cons (ha:PE X e te) (hr:PA X es t) (hs:starEach (e :: es) X.env = (false,eval e X.env) :: starEach es X.env:=by rfl):PA X (e :: es) (tCons te t):=by
 intro pos pins s σ H Q I h
 rw [hs]
 show wpAny _ _ (spliced ((false,eval e X.env) :: backTo pos (starEach es X.env))) _ _ s
 refine Calls.spliced_cons (thn (ha pins s σ H _ I h) fun u s1 ⟨x,H1,I1,r1,q1⟩=>?_)
 exact thn (hr pos pins s1 σ H1 _ I1 q1) fun us s2 ⟨xs,H2,I2,r2,q2⟩=>⟨x :: xs,H2,I2,.cons r1 r2,q2⟩
noncomputable def tTup (t:TA):TE:=fun σ H Q=>t σ H fun xs H1=>xs.length <= sizeLine /\ ∀ p,H1 p = none->Q (.ref p) (upd H1 p (.tup xs))
noncomputable def tLst (t:TA):TE:=fun σ H Q=>t σ H fun xs H1=>xs.length <= sizeLine /\ ∀ p,H1 p = none->Q (.ref p) (upd H1 p (.lst xs))
theorem pe_tup {x1} (h:PA X es t):PE X (.Tuple es x1 pos) (tTup t):=by
 intro pins s σ H Q I hq
 refine wpAny_Tuple_spliced (thn (h pos pins s σ H _ I hq) fun us s1 ⟨xs,H1,I1,r,z,q⟩=>⟨by rw [<- r.length]; exact z,?_⟩)
 have hf:H1 s1.heap.objs.size = none:=I1.hok.fresh (Nat.le_refl _)
 refine ⟨.ref s1.heap.objs.size,upd H1 s1.heap.objs.size (.tup xs),I1.laid (t':=s1.toks) (fun b u e=>Heap.get?_push_of_some _ e) (Nat.le_refl _) ?_,rfl,q _ hf⟩
 exact ⟨z,us,r,⟨_,Heap.get?_push_size _ rfl,rfl,_,rfl⟩⟩
theorem pe_lst (h:PA X es t):PE X (.List es pos) (tLst t):=by
 intro pins s σ H Q I hq
 refine wpAny_List_spliced (thn (h pos pins s σ H _ I hq) fun us s1 ⟨xs,H1,I1,r,z,q⟩=>⟨by rw [<- r.length]; exact z,?_⟩)
 have hf:H1 s1.heap.objs.size = none:=I1.hok.fresh (Nat.le_refl _)
 refine ⟨.ref s1.heap.objs.size,upd H1 s1.heap.objs.size (.lst xs),I1.laid (t':=s1.toks) (fun b u e=>Heap.get?_push_of_some _ e) (Nat.le_refl _) ?_,rfl,q _ hf⟩
 exact ⟨z,us,0,r,Heap.get?_push_size _ rfl⟩
end
noncomputable abbrev Sp:=List V->Hp->VK->XK->Prop
noncomputable abbrev CXT:=List Env->Hp->Shared->XK->Value->Shared->Prop
structure Env0 (P:Program) (w:World) (K:PySem.W.Frag) (mg:Str->Option Value) (base:Heap) (A:Around) (outer:List Env) (s:Shared) (H:Hp):Prop where
 frames:A.frames = some outer
 mod:Mod K mg base
 bs:∀ b o,base.get? b = some o->s.heap.get? b = some o /\ H b = none
 bsz:base.objs.size <= s.heap.objs.size
 funs:s.heap.FunFrames base outer
 frf:∀ b ∈ frs outer,H b = none
 hok:HOk P w H s.heap
 bare:AllBare s.gens
noncomputable def CE (outer:List Env) (P:Program) (w:World) (H:Hp) (s:Shared) (Q:VK) (u:Value) (s':Shared):Prop :=
 ∃ v H',s'.os = s.os /\ AllBare s'.gens /\ Un (frs outer) [] H H' s.heap s'.heap /\ HOk P w H' s'.heap /\ RelV v u /\ Q v H'
noncomputable def CR (CX:CXT) (outer:List Env) (P:Program) (w:World) (H:Hp) (s:Shared) (Q:VK) (E:XK) (r:Result) (s':Shared):Prop :=
 match r with
 | .ok (.ret u)=>CE outer P w H s Q u s'
 | .ok _=>False
 | .error e=>CX outer H s E e s'
structure FnOk (P:Program) (w:World) (K:PySem.W.Frag) (mg:Str->Option Value) (base:Heap) (CX:CXT) (k:Nat) (f:Addr) (fd:FuncData) (ps:List Str) (sp:Sp):Prop where
 len:∀ vs H Q E,sp vs H Q E->vs.length = ps.length
 run:∀ (A:Around) (outer:List Env) (s:Shared) (H:Hp) (args:Args) (us:List Value) (vs:List V) (Q:VK) (E:XK),Room k A->Env0 P w K mg base A outer s H->BindsTo s fd args (ps.zip us)->Vals vs us->sp vs H Q E ->
  codeAny (model P w) A (.call (.ref f) args) (CR CX outer P w H s Q E) s
theorem Env0.make {P:Program} {w:World} {K:PySem.W.Frag} {mg:Str->Option Value} {base:Heap} {A:Around} {outer:List Env} {s:Shared} {H:Hp} (e:Env0 P w K mg base A outer s H) (C:Addr) (us:List Value) (kw:List (Str × Value)) :
  Env0 P w K mg base (A.under (.builtin "type.__call__" ⟨.ref C :: us,kw⟩)) outer s H:=⟨by first | exact e.frames | (simpa [Around.under,Code.envs,Code.isFrame,pushEnvs] using e.frames),e.mod,e.bs,e.bsz,e.funs,e.frf,e.hok,e.bare⟩
section
variable {X:Cx} {pins:List (Addr × Obj)} {σ:St} {H:Hp} {s s':Shared}
theorem Inv.env0 (I:Inv X pins σ H s):Env0 X.prog X.w X.K X.mg X.base X.A X.stack s H :=
 ⟨I.ok.frames,I.ok.mod,I.bs,Nat.le_trans I.ok.bsz I.sz,I.stack,I.stkFree,I.hok,I.bare⟩
theorem Inv.after {Q:VK} {u:Value} (I:Inv X pins σ H s) (h:CE X.stack X.prog X.w H s Q u s'):EP X pins σ Q u s':=by
 obtain ⟨v,H',os,bare,un,hok,r,q⟩:=h
 obtain ⟨hh,g,d,t,os'⟩:=s'
 obtain rfl:os' = s.os:=os
 exact ⟨v,H',I.call (h':=hh) (g':=g) (d':=d) (t':=t) (ch:=[]) un hok bare (fun b z=>absurd z (by simp)),r,q⟩
end
noncomputable def tCall (sp:Sp) (dvs:List V) (E:XK) (t:TA):TE:=fun σ H Q=>t σ H fun vs H1=>sp (vs ++ dvs) H1 Q E
noncomputable def tMeth (C:Addr) (m:Str) (sp:Sp) (dvs:List V) (E:XK) (ta:TE) (t:TA):TE:=fun σ H Q=>ta σ H fun x H1=>∃ a dx fs,x = .ref a /\ H1 a = some (.ins C dx fs) /\ fs.lookup m = none /\
 t σ H1 fun vs H2=>sp (x :: (vs ++ dvs)) H2 Q E
noncomputable def tMake (C:Addr) (sp:Sp) (dvs:List V) (E:XK) (t:TA):TE:=fun σ H Q=>t σ H fun vs H1=>∀ x dx,H1 x = none->H1 dx = none->dx ≠ x ->
 sp (.ref x :: (vs ++ dvs)) (upd (upd H1 dx (.own x)) x (.ins C dx [])) (fun v H2=>v = .non /\ Q (.ref x) H2) E
noncomputable def Binds (K:PySem.W.Frag) (fd:FuncData) (ps:List Str) (ds:List Value):Prop :=
 ∀ (s:Shared) (us:List Value),K.In s.heap->(us ++ ds).length = ps.length->BindsTo s fd ⟨us,[]⟩ (ps.zip (us ++ ds))
theorem Binds.all {K:PySem.W.Frag} {fd:FuncData} {ps:List Str} (h:∀ us:List Value,us.length = ps.length->bindArgs fd ⟨us,[]⟩ = pure (ps.zip us)):Binds K fd ps []:=fun s us _ hl=>by
 rw [List.append_nil] at hl ⊢
 exact .of_eq (h us hl)
noncomputable def Passes (CX:CXT) (X:Cx) (E:XK):Prop:=∀ (pins:List (Addr × Obj)) (σ:St) (H:Hp) (s:Shared) (e:Value) (s':Shared),Inv X pins σ H s->CX X.stack H s E e s'->X.xe e s'
section
variable {X:Cx} {CX:CXT} {k:Nat} {f C:Addr} {fd:FuncData} {ps:List Str} {sp:Sp} {dvs:List V} {ds:List Value} {E:XK} {x m:Str} {p pos apos:Pos} {e o:Expr} {es:List Expr} {ta:TE} {t:TA}
theorem run_fn {pins:List (Addr × Obj)} {σ:St} {H:Hp} {s:Shared} {Q:VK} {us:List Value} {vs:List V} (F:FnOk X.prog X.w X.K X.mg X.base CX k f fd ps sp) (hr:Room k X.A) (hb:Binds X.K fd ps ds) (hd:Vals dvs ds) (hx:Passes CX X E)
  (I:Inv X pins σ H s) (r:Vals vs us) (h:sp (vs ++ dvs) H Q E):wpAny (model X.prog X.w) X.A (call (.ref f) us) (EP X pins σ Q) X.xe s:=by
 have r2:Vals (vs ++ dvs) (us ++ ds):=r.append hd
 have hl:(us ++ ds).length = ps.length:=by rw [<- r2.length]; exact F.len _ _ _ _ h
 refine wpAny_call (codeAny_mono (F.run X.A X.stack s H ⟨us,[]⟩ (us ++ ds) (vs ++ dvs) Q E hr I.env0 (hb s us I.kIn hl) r2 h) fun r s' hq=>?_)
 cases r with
 | error e=>exact hx pins σ H s e s' I hq
 | ok fl =>
  cases fl with
  | ret u=>exact I.after hq
  | next=>exact False.elim hq
  | brk=>exact False.elim hq
  | cont=>exact False.elim hq
theorem pe_call (F:FnOk X.prog X.w X.K X.mg X.base CX k f fd ps sp) (hr:Room k X.A) (hg:Gl X x) (hm:X.mg x = some (.ref f)) (hk:PySem.W.keepIn X.K (.ref f) = true) (hb:Binds X.K fd ps ds) (hd:Vals dvs ds) (hx:Passes CX X E)
  (ha:PA X (e :: es) t) (hdb:(x == ("__debug__":Str)) = false:=by decide) (he:starEach (e :: es) X.env = (false,eval e X.env) :: starEach es X.env:=by rfl) (hpl:(backTo pos (starEach es X.env)).any (·.1) = false:=by rfl) :
  PE X (.Call (.Name x p) (e :: es) [] pos) (tCall sp dvs E t):=by
 intro pins s σ H Q I h
 refine wpAny_Call_Name_kw (ld_glob I hg hm ?_ hdb)
 refine PySem.W.callWith_K (h₀:=X.base) I.ok.mod.kin hk (thn (ha pos pins s σ H _ I h) fun us s1 ⟨vs,H1,I1,r,q⟩=>⟨I1.kIn,?_⟩) he hpl
 exact run_fn F hr hb hd hx I1 r q
theorem pe_meth {pl:Sem Bool} (he:PE X o ta) (c:Cls X.K C) (hm:Meth X.K C m f) (F:FnOk X.prog X.w X.K X.mg X.base CX k f fd ps sp) (hr:Room k X.A) (hb:Binds X.K fd ps ds) (hd:Vals dvs ds) (hx:Passes CX X E) (ha:PA X (e :: es) t)
  (hst:starEach (e :: es) X.env = (false,eval e X.env) :: starEach es X.env:=by rfl) (hpl:(backTo pos (starEach es X.env)).any (·.1) = false:=by rfl)
  (ht:eval (.Call (.Attribute o m apos) (e :: es) [] pos) X.env = (do
   let ov <- eval o X.env
   standAt apos.atName
   let (f,first) <- holding [ov] (getMethod ov m pl)
   callWith pos f first (backTo pos (starEach (e :: es) X.env)) (backToKw pos (keywordEach [] X.env))):=by rfl) :
  PE X (.Call (.Attribute o m apos) (e :: es) [] pos) (tMeth C m sp dvs E ta t):=by
 intro pins s σ H Q I h
 refine PySem.W.methodCall_KW (pl:=pl) (thn (he pins s σ H _ I h) fun u s1 ⟨x,H1,I1,rx,a,dx,fs,ex,ea,l,q⟩=>?_) ht
 subst ex
 obtain rfl:u = Value.ref a:=rx
 refine getmeth_ok I1 ea c hm l ?_
 refine PySem.W.callWith_K (first:=[.ref a]) (h₀:=X.base) I.ok.mod.kin hm.kp (thn (ha pos pins s1 σ H1 _ I1 q) fun us s2 ⟨vs,H2,I2,r,q2⟩=>⟨I2.kIn,?_⟩) hst hpl
 exact run_fn (us:=.ref a :: us) (vs:=.ref a :: vs) F hr hb hd hx I2 (.cons rfl r) q2
theorem pe_meth0 {pl:Sem Bool} (he:PE X o ta) (c:Cls X.K C) (hm:Meth X.K C m f) (F:FnOk X.prog X.w X.K X.mg X.base CX k f fd ps sp) (hr:Room k X.A) (hb:Binds X.K fd ps ds) (hd:Vals dvs ds) (hx:Passes CX X E)
  (ht:eval (.Call (.Attribute o m apos) [] [] pos) X.env = (do
   let ov <- eval o X.env
   standAt apos.atName
   let (f,first) <- holding [ov] (getMethod ov m pl)
   callWith pos f first (backTo pos (starEach [] X.env)) (backToKw pos (keywordEach [] X.env))):=by rfl) :
  PE X (.Call (.Attribute o m apos) [] [] pos) (tMeth C m sp dvs E ta tNil):=by
 intro pins s σ H Q I h
 refine PySem.W.methodCall_KW (pl:=pl) (thn (he pins s σ H _ I h) fun u s1 ⟨x,H1,I1,rx,a,dx,fs,ex,ea,l,q⟩=>?_) ht
 subst ex
 obtain rfl:u = Value.ref a:=rx
 refine getmeth_ok I1 ea c hm l ?_
 exact PySem.W.callWith_K0 (first:=[.ref a]) I1.kIn hm.kp (run_fn (us:=[.ref a]) (vs:=[.ref a]) F hr hb hd hx I1 (.cons rfl .nil) q)
structure Mk (K:PySem.W.Frag) (C f:Addr):Prop where
 makes:PySem.W.makesIn K C = true
 init:PySem.W.findIn K (.ref C) "__init__" = some (some (.ref f))
 fn:PySem.W.isFn K (.ref f) = true
 kp:PySem.W.keepIn K (.ref C) = true
theorem run_make {pins:List (Addr × Obj)} {σ:St} {H:Hp} {s:Shared} {Q:VK} {us:List Value} {vs:List V} (M:Mk X.K C f) (F:FnOk X.prog X.w X.K X.mg X.base CX k f fd ps sp) (hr:Room (k + 1) X.A) (hb:Binds X.K fd ps ds) (hd:Vals dvs ds)
  (hx:Passes CX X E) (I:Inv X pins σ H s) (r:Vals vs us)
  (h:∀ x dx,H x = none->H dx = none->dx ≠ x->sp (.ref x :: (vs ++ dvs)) (upd (upd H dx (.own x)) x (.ins C dx [])) (fun v H2=>v = .non /\ Q (.ref x) H2) E) :
  wpAny (model X.prog X.w) X.A (call (.ref C) us) (EP X pins σ Q) X.xe s:=by
 have hq:=h (s.heap.objs.size + 1) s.heap.objs.size (I.hok.fresh (Nat.le_succ _)) (I.hok.fresh (Nat.le_refl _)) (Nat.ne_of_lt (Nat.lt_succ_self _))
 have I2:=Inv.made (C:=C) I
 have r2:Vals (V.ref (s.heap.objs.size + 1) :: (vs ++ dvs)) (Value.ref (s.heap.objs.size + 1) :: (us ++ ds)):=.cons rfl (r.append hd)
 have hl:(Value.ref (s.heap.objs.size + 1) :: us ++ ds).length = ps.length:=by
  have e:=r2.length
  rw [F.len _ _ _ _ hq] at e
  exact e.symm
 refine wpAny_call (make_map (f:=f) I.kIn M.makes M.init (beq_iff_eq.mp M.fn) (codeAny_mono (F.run _ X.stack _ _ ⟨Value.ref (s.heap.objs.size + 1) :: us,[]⟩ (Value.ref (s.heap.objs.size + 1) :: (us ++ ds)) _ _ E (hr.make C us [])
  (I2.env0.make C us []) (hb _ (Value.ref (s.heap.objs.size + 1) :: us) I2.kIn hl) r2 hq) fun r s' hq'=>?_))
 cases r with
 | error e=>exact hx pins σ _ _ e s' I2 hq'
 | ok fl =>
  cases fl with
  | ret u =>
   obtain ⟨v,H',I3,rv,ev,q3⟩:=I2.after hq'
   subst ev
   exact ⟨rv,⟨V.ref (s.heap.objs.size + 1),H',I3,rfl,q3⟩⟩
  | next=>exact False.elim hq'
  | brk=>exact False.elim hq'
  | cont=>exact False.elim hq'
theorem pe_make (M:Mk X.K C f) (F:FnOk X.prog X.w X.K X.mg X.base CX k f fd ps sp) (hr:Room (k + 1) X.A) (hg:Gl X x) (hm:X.mg x = some (.ref C)) (hb:Binds X.K fd ps ds) (hd:Vals dvs ds) (hx:Passes CX X E)
  (ha:PA X (e :: es) t) (hdb:(x == ("__debug__":Str)) = false:=by decide) (he:starEach (e :: es) X.env = (false,eval e X.env) :: starEach es X.env:=by rfl) (hpl:(backTo pos (starEach es X.env)).any (·.1) = false:=by rfl) :
  PE X (.Call (.Name x p) (e :: es) [] pos) (tMake C sp dvs E t):=by
 intro pins s σ H Q I h
 refine wpAny_Call_Name_kw (ld_glob I hg hm ?_ hdb)
 refine PySem.W.callWith_K (h₀:=X.base) I.ok.mod.kin M.kp (thn (ha pos pins s σ H _ I h) fun us s1 ⟨vs,H1,I1,r,q⟩=>⟨I1.kIn,?_⟩) he hpl
 exact run_make M F hr hb hd hx I1 r q
end
section
variable {X:Cx} {CX:CXT} {k:Nat} {f C:Addr} {fd:FuncData} {ps ks:List Str} {sp:Sp} {E:XK} {x m:Str} {p pos apos kpos:Pos} {e o:Expr} {es:List Expr} {kws:List Keyword} {te ta:TE} {t tk:TA} {nm:Option Str}
variable {g:List Value->List Value->List Value} {gV:List V->List V->List V}
end
structure FnScope (N P:List Str) (sc:Scope):Prop where
 kind:sc.kind = .function
 co:sc.isCoroutine = false
 gen:sc.isGenerator = false
 nd:N.Nodup
 pre:N.take P.length = P
 par:∀ x ∈ P,sc.names.lookup x = some .local \/ sc.names.lookup x = some .cell
 nofree:∀ y ∈ sc.names,y.2 ≠ .free
theorem bindL_out {kindOf:Str->Option NameKind} {x:Str}:∀ {binds:List (Str × Value)} {m:Str->Option Value},(∀ v,(x,v) ∉ binds)->bindL kindOf binds m x = m x
 | [],_,_=>rfl
 | (n,v) :: r,m,h=>by
  unfold bindL
  rw [bindL_out fun w hw=>h w (List.mem_cons_of_mem _ hw)]
  split
  ·have:x ≠ n:=by rintro rfl; exact h v List.mem_cons_self
   simp [this]
  ·rfl
theorem bindC_out {kindOf:Str->Option NameKind} {x:Str}:∀ {binds:List (Str × Value)} {m:Str->Option Value},(∀ v,(x,v) ∉ binds)->bindC kindOf binds m x = m x
 | [],_,_=>rfl
 | (n,v) :: r,m,h=>by
  unfold bindC
  rw [bindC_out fun w hw=>h w (List.mem_cons_of_mem _ hw)]
  split
  ·rfl
  ·have:x ≠ n:=by rintro rfl; exact h v List.mem_cons_self
   simp [this]
theorem bindL_get {kindOf:Str->Option NameKind} {x:Str} {v:Value}:∀ {P:List Str} {vs:List Value} {i:Nat} {m:Str->Option Value},P.Nodup->P[i]? = some x->vs[i]? = some v->kindOf x = some .local ->
  bindL kindOf (P.zip vs) m x = some v
 | [],_,_,_,_,h,_,_=>by simp at h
 | _ :: _,[],_,_,_,_,h,_=>by simp at h
 | p :: P,w :: vs,0,m,nd,h1,h2,hk=>by
  simp at h1 h2; subst h1; subst h2
  show bindL kindOf ((p,w) :: P.zip vs) m p = _
  unfold bindL
  rw [bindL_out fun v hv=>(List.nodup_cons.mp nd).1 (List.of_mem_zip hv).1,if_pos hk]
  simp
 | p :: P,w :: vs,i + 1,m,nd,h1,h2,hk=>by
  show bindL kindOf ((p,w) :: P.zip vs) m x = _
  unfold bindL
  exact bindL_get (i:=i) (List.nodup_cons.mp nd).2 (by simpa using h1) (by simpa using h2) hk
theorem bindC_get {kindOf:Str->Option NameKind} {x:Str} {v:Value}:∀ {P:List Str} {vs:List Value} {i:Nat} {m:Str->Option Value},P.Nodup->P[i]? = some x->vs[i]? = some v->kindOf x ≠ some .local ->
  bindC kindOf (P.zip vs) m x = some v
 | [],_,_,_,_,h,_,_=>by simp at h
 | _ :: _,[],_,_,_,_,h,_=>by simp at h
 | p :: P,w :: vs,0,m,nd,h1,h2,hk=>by
  simp at h1 h2; subst h1; subst h2
  show bindC kindOf ((p,w) :: P.zip vs) m p = _
  unfold bindC
  rw [bindC_out fun v hv=>(List.nodup_cons.mp nd).1 (List.of_mem_zip hv).1,if_neg hk]
  simp
 | p :: P,w :: vs,i + 1,m,nd,h1,h2,hk=>by
  show bindC kindOf ((p,w) :: P.zip vs) m x = _
  unfold bindC
  exact bindC_get (i:=i) (List.nodup_cons.mp nd).2 (by simpa using h1) (by simpa using h2) hk
noncomputable def start (N:List Str) (vs:List V):St:=vs.map some ++ List.replicate (N.length - vs.length) none
noncomputable def cxOf (CX:CXT) (P:Program) (w:World) (K:PySem.W.Frag) (mg:Str->Option Value) (base:Heap) (N:List Str) (qual:Str) (scope:Scope) (f:Addr) (cd:Value) (A:Around) (outer:List Env) (s:Shared) (H:Hp) (E:XK):Cx where
 prog:=P
 w:=w
 K:=K
 mg:=mg
 base:=base
 A:=A.deeper (envOfC qual scope s.heap.objs.size f cd)
 N:=N
 s₀:=s
 H₀:=H
 env:=envOfC qual scope s.heap.objs.size f cd
 outer:=outer
 stack:=envOfC qual scope s.heap.objs.size f cd :: outer
 ex:=[]
 calm:=true
 fn:=fun _=>true
 pn:=[]
 xe:=fun e s'=>wpAny (model P w) (A.deeper (envOfC qual scope s.heap.objs.size f cd)) (leaving (envOfC qual scope s.heap.objs.size f cd) e) (fun _ s''=>CX outer H s E e s'') (fun e' s''=>CX outer H s E e' s'') s'
theorem cell_has {sc:Scope} {n:Nat} {x:Str} (h:sc.names.lookup x = some .cell):∃ c,(cellsFrom n sc.names []).lookup x = some c:=by
 have q:=PySem.W.cellsFrom_some sc.names n [] (.inl h)
 exact Option.isSome_iff_exists.mp q
theorem inv_start {CX:CXT} {P:Program} {w:World} {K:PySem.W.Frag} {mg:Str->Option Value} {base:Heap} {N ps:List Str} {qual:Str} {scope:Scope} {f:Addr} {cd:Value} {A:Around} {outer:List Env} {s s1:Shared} {H:Hp} {E:XK} {us:List Value} {vs:List V}
  (S:FnScope N ps scope) (hd:A.handled = none) (e0:Env0 P w K mg base A outer s H) (hl:vs.length = ps.length) (r:Vals vs us)
  (x:InCallC s s.heap.objs.size (bindL (envOfC qual scope s.heap.objs.size f cd).kindOf (ps.zip us) fun _=>none) (cellsFrom (s.heap.objs.size + 1) scope.names []) (bindC (envOfC qual scope s.heap.objs.size f cd).kindOf (ps.zip us) fun _=>none) s1) :
  Inv (cxOf CX P w K mg base N qual scope f cd A outer s H E) [] (start N vs) H s1:=by
 have hpl:ps.length <= N.length:=by have:=congrArg List.length S.pre; rw [List.length_take] at this; lia
 obtain ⟨h1,tk,rfl,hk⟩:=x.done
 have noA:∀ b:Addr,b ∉ (cxOf CX P w K mg base N qual scope f cd A outer s H E).ex:=fun b z=>absurd (show b ∈ ([]:List Addr) from z) (by simp)
 refine ⟨⟨e0.mod,S.kind,rfl,rfl,Nat.le_refl _,fun y z c h1 h2=>?_,fun y hy=>?_,fun y c _ h=>?_,fun _=>hd,Around.frames_deeper e0.frames,.inr ⟨rfl,rfl⟩,fun b z=>absurd z (noA b),e0.bs,e0.bsz,fun b _ _=>noA b,fun b z=>absurd z (noA b),e0.funs,e0.frf⟩,
  rfl,e0.bare,Un.kept hk,⟨_,x.toInCall.ns,fun i y v h1 h2 h3=>?_⟩,fun y c h=>⟨_,x.cell y c h⟩,e0.hok.fresh (Nat.le_refl _),fun y c h=>?_,fun p hp=>absurd (show p ∈ ([]:List (Addr × Obj)) from hp) (by simp),e0.hok.kept hk,?_⟩
 ·exact name_of_addr x.apart (PySem.mem_of_lookup h1) (PySem.mem_of_lookup h2)
 ·have hy:scope.names.lookup y = some .cell \/ scope.names.lookup y = some .free:=hy
  rcases hy with hy | hy
  ·exact cell_has hy
  ·exact absurd rfl (S.nofree _ (PySem.mem_of_lookup hy))
 ·exact Nat.le_of_lt (x.above y c (PySem.mem_of_lookup h))
 ·have hi:i < vs.length:=by
   unfold start at h2
   by_cases hi:i < vs.length
   ·exact hi
   ·rw [List.getElem?_append_right (by simpa using hi)] at h2
    rw [List.getElem?_replicate] at h2
    split at h2 <;> cases h2
  have ha:vs[i]? = some v:=by
   unfold start at h2
   rw [List.getElem?_append_left (by simpa using hi),List.getElem?_map] at h2
   cases e:vs[i]? with
   | none=>rw [e] at h2; cases h2
   | some a=>rw [e] at h2; cases h2; rfl
  obtain ⟨u,hu,rv⟩:=r.get ha
  have hp:ps[i]? = some y:=by
   rw [<- S.pre,List.getElem?_take_of_lt (by lia)]; exact h1
  have ndP:ps.Nodup:=by rw [<- S.pre]; exact S.nd.sublist (List.take_sublist _ _)
  refine ⟨u,rv,?_⟩
  rcases S.par y (List.mem_of_getElem? hp) with k | k
  ·exact .inl ⟨k,bindL_get ndP hp hu k⟩
  ·obtain ⟨c,e⟩:=cell_has (n:=s.heap.objs.size + 1) k
   refine .inr ⟨.inl k,c,e,?_⟩
   have q:=x.cell y c e
   rw [bindC_get ndP hp hu (by show scope.names.lookup y ≠ _; rw [k]; decide)] at q
   exact q
 ·exact e0.hok.fresh (Nat.le_of_lt (x.above y c (PySem.mem_of_lookup h)))
 ·unfold start
  show _ = N.length
  rw [List.length_append,List.length_map,List.length_replicate]
  lia
theorem fn_of {CX:CXT} {P:Program} {w:World} {K:PySem.W.Frag} {mg:Str->Option Value} {base:Heap} {k:Nat} {f:Addr} {name qual:Str} {params:Arguments} {body:List Stmt} {scope:Scope} {dV kV doc pm cdv ct oc:Value} {an od:Option Addr}
  {osl:Array (Option Value)} {N ps:List Str} {sp:Sp} (lk:K.lookup f = some ⟨oc,od,.func (PySem.W.fnOf name qual params body scope dV kV doc pm an cdv ct),osl⟩) (hcd:PySem.W.codeIn K cdv qual = true) (S:FnScope N ps scope)
  (len:∀ vs H Q E,sp vs H Q E->vs.length = ps.length)
  (hbody:∀ (A:Around) (outer:List Env) (s:Shared) (H:Hp) (vs:List V) (Q:VK) (E:XK),Room k (A.deeper (envOfC qual scope s.heap.objs.size f cdv))->sp vs H Q E ->
   ∃ t,PSs (cxOf CX P w K mg base N qual scope f cdv A outer s H E) body t /\ t { nx:=fun _ H'=>Q .non H',rt:=Q } (start N vs) H) :
  FnOk P w K mg base CX (k + 1) f (PySem.W.fnOf name qual params body scope dV kV doc pm an cdv ct) ps sp:=by
 refine ⟨len,fun A outer s H args us vs Q E hr e0 hb r hsp=>?_⟩
 have hl:=len _ _ _ _ hsp
 have KX:K.In s.heap:=e0.mod.kin.keeps fun b o e=>(e0.bs b o e).1
 have lim:s.heap.NoLimit:=e0.mod.nolimit.keeps fun b o e=>(e0.bs b o e).1
 have hkind:∀ y ∈ ps.zip us,scope.names.lookup y.1 = some .local \/ (scope.names.lookup y.1 = some .cell /\ ((cellsFrom (s.heap.objs.size + 1) scope.names []).lookup y.1).isSome = true):=fun ⟨n,v⟩ hy=>by
  rcases S.par n (List.of_mem_zip hy).1 with q | q
  ·exact .inl q
  ·exact .inr ⟨q,PySem.W.cellsFrom_some _ _ _ (.inl q)⟩
 refine codeAny_call_function hr.depth (KX _ _ lk) rfl S.co S.gen rfl (PySem.W.codeRec_of KX hcd) (hb _ _ _ _ ?_)
 refine wpAny_newFunctionEnv_cells S.kind hkind fun env he s1 x=>?_
 subst he
 refine ⟨lim.keeps x.toInCall.keep,codeAny_func ?_⟩
 obtain ⟨t,ht,hq⟩:=hbody A outer s H vs Q E (hr.deeper _) hsp
 have I:Inv (cxOf CX P w K mg base N qual scope f cdv A outer s H E) [] (start N vs) H s1:=inv_start S hr.hd e0 hl r x
 refine wpAny_mono (ht [] s1 (start N vs) H _ I hq) (fun fl s' hs=>?_) fun e s' hs=>hs
 have fin:∀ {σ':St} {H':Hp} {v:V} {u:Value},Inv (cxOf CX P w K mg base N qual scope f cdv A outer s H E) [] σ' H' s'->RelV v u->Q v H'->CE outer P w H s Q u s' :=
  fun {σ' H' v u} J rv q=>⟨v,H',J.os,J.bare,J.base,J.hok,rv,q⟩
 cases fl with
 | ret u =>
  obtain ⟨v,σ',H',J,rv,q⟩:=hs
  exact fin J rv q
 | next =>
  obtain ⟨σ',H',J,q⟩:=hs
  exact fin (v:=V.non) (u:=Value.none) J rfl q
 | brk =>
  obtain ⟨_,_,_,q⟩:=hs
  exact False.elim q
 | cont =>
  obtain ⟨_,_,_,q⟩:=hs
  exact False.elim q
end L2
namespace L2
open PySem PySem.Spec PyProof.Rows
section
variable {X:Cx} {x:Str} {p pos:Pos} {e:Expr} {es:List Expr} {t:TA} {id T:String} {r:List V->Hp->VK->Prop}
noncomputable def tCB (r:List V->Hp->VK->Prop) (t:TA):TE:=fun σ H Q=>t σ H fun vs H1=>r vs H1 Q
theorem pe_callB (hc:CallR X (.builtin id) r) (hg:Gl X x) (hm:X.mg x = none) (hv:bootBuiltins x = some (.builtin id)) (ha:PA X (e :: es) t) (hn:x ≠ "__name__":=by decide) (hdb:(x == ("__debug__":Str)) = false:=by decide)
  (he:starEach (e :: es) X.env = (false,eval e X.env) :: starEach es X.env:=by rfl) (hpl:(backTo pos (starEach es X.env)).any (·.1) = false:=by rfl):PE X (.Call (.Name x p) (e :: es) [] pos) (tCB r t):=by
 intro pins s σ H Q I h
 refine wpAny_Call_Name_kw (ld_blt I hg hm hv ?_ hn hdb)
 exact PyProof.Rows.callWith_builtin1 (thn (ha pos pins s σ H _ I h) fun us s1 ⟨vs,H1,I1,r1,q1⟩=>hc pins s1 σ H1 vs us Q I1 r1 q1) he hpl
theorem pe_callTy (hc:CallR X (.type T) r) (hg:Gl X x) (hm:X.mg x = none) (hv:bootBuiltins x = some (.type T)) (ha:PA X (e :: es) t) (hn:x ≠ "__name__":=by decide) (hdb:(x == ("__debug__":Str)) = false:=by decide)
  (he:starEach (e :: es) X.env = (false,eval e X.env) :: starEach es X.env:=by rfl) (hpl:(backTo pos (starEach es X.env)).any (·.1) = false:=by rfl):PE X (.Call (.Name x p) (e :: es) [] pos) (tCB r t):=by
 intro pins s σ H Q I h
 refine wpAny_Call_Name_kw (ld_blt I hg hm hv ?_ hn hdb)
 exact PyProof.Rows.callWith_type1 (thn (ha pos pins s σ H _ I h) fun us s1 ⟨vs,H1,I1,r1,q1⟩=>hc pins s1 σ H1 vs us Q I1 r1 q1) he hpl
end
end L2
namespace L2
open PySem PySem.Spec PyProof.Rows
section
variable {κ:Type} [DecidableEq κ]
noncomputable def valV (kvs:List (κ × V)) (k:κ):Option V:=(kvs.find? fun kv=>decide (kv.1 = k)).map (·.2)
noncomputable def putK (kvs:List (κ × V)) (k:κ) (v:V):List (κ × V) :=
 if (kvs.any fun kv=>decide (kv.1 = k)) = true then kvs.map (fun kv=>if kv.1 = k then (kv.1,v) else kv) else kvs ++ [(k,v)]
theorem valV_pos {p:κ × V} {r:List (κ × V)} {k:κ} (e:p.1 = k):valV (p :: r) k = some p.2:=by simp [valV,List.find?_cons,e]
theorem valV_neg {p:κ × V} {r:List (κ × V)} {k:κ} (e:¬ p.1 = k):valV (p :: r) k = valV r k:=by simp [valV,List.find?_cons,e]
theorem valV_any (k:κ):∀ kvs:List (κ × V),(kvs.any fun kv=>decide (kv.1 = k)) = (valV kvs k).isSome
 | []=>rfl
 | p :: r=>by
  rw [List.any_cons]
  by_cases e:p.1 = k
  ·simp only [valV_pos e,decide_eq_true e,Bool.true_or,Option.isSome_some]
  ·rw [valV_neg e,decide_eq_false e,Bool.false_or]; exact valV_any k r
theorem valV_map (k j:κ) (y:V):∀ kvs:List (κ × V),valV (kvs.map fun kv=>if kv.1 = k then (kv.1,y) else kv) j = (valV kvs j).map fun x=>if j = k then y else x
 | []=>rfl
 | p :: r=>by
  have ih:=valV_map k j y r
  rw [List.map_cons]
  by_cases h:p.1 = k
  ·rw [if_pos h]
   by_cases e:p.1 = j
   ·rw [valV_pos (p:=(p.1,y)) e,valV_pos e,Option.map_some,if_pos (e.symm.trans h)]
   ·rw [valV_neg (p:=(p.1,y)) e,valV_neg e,ih]
  ·rw [if_neg h]
   by_cases e:p.1 = j
   ·rw [valV_pos (p:=p) e,valV_pos e,Option.map_some,if_neg (fun z=>h (e.trans z))]
   ·rw [valV_neg (p:=p) e,valV_neg e,ih]
theorem valV_snoc (k j:κ) (y:V):∀ kvs:List (κ × V),valV kvs k = none->valV (kvs ++ [(k,y)]) j = if j = k then some y else valV kvs j
 | [],_=>by
  by_cases e:k = j
  ·rw [if_pos e.symm]; exact valV_pos (p:=(k,y)) e
  ·rw [if_neg (fun z=>e z.symm)]; exact valV_neg (p:=(k,y)) e
 | p :: r,hn=>by
  rw [List.cons_append]
  have hk:¬ p.1 = k:=fun z=>by rw [valV_pos z] at hn; cases hn
  rw [valV_neg hk] at hn
  have ih:=valV_snoc k j y r hn
  by_cases e:p.1 = j
  ·rw [valV_pos e,valV_pos e,if_neg (fun z=>hk (e.trans z))]
  ·rw [valV_neg e,valV_neg e,ih]
theorem valV_put (kvs:List (κ × V)) (k j:κ) (y:V):valV (putK kvs k y) j = if j = k then some y else valV kvs j:=by
 unfold putK
 by_cases a:(kvs.any fun kv=>decide (kv.1 = k)) = true
 ·rw [if_pos a,valV_map]
  rw [valV_any] at a
  by_cases e:j = k
  ·obtain ⟨x,hx⟩:=Option.isSome_iff_exists.mp a
   rw [if_pos e,e,hx,Option.map_some,if_pos rfl]
  ·rw [if_neg e]
   cases valV kvs j with
   | none=>rfl
   | some x=>rw [Option.map_some,if_neg e]
 ·rw [if_neg a]
  refine valV_snoc k j y kvs ?_
  rw [valV_any] at a
  cases q:valV kvs k with
  | none=>rfl
  | some x=>rw [q] at a; exact (a rfl).elim
theorem length_putK (kvs:List (κ × V)) (k:κ) (v:V):(putK kvs k v).length <= kvs.length + 1:=by
 unfold putK
 split
 ·rw [List.length_map]; lia
 ·rw [List.length_append,List.length_cons,List.length_nil]; lia
theorem putK_new {kvs:List (κ × V)} {k:κ} (v:V) (h:valV kvs k = none):putK kvs k v = kvs ++ [(k,v)]:=by
 unfold putK
 rw [valV_any,h]
 exact if_neg (by decide)
theorem RelO.isSome_eq {o:Option V} {u:Option Value} (r:RelO o u):o.isSome = u.isSome:=by
 cases o with
 | none=>cases u with
  | none=>rfl
  | some _=>exact (show False from r).elim
 | some _=>cases u with
  | none=>exact (show False from r).elim
  | some _=>rfl
theorem RelO.getD {o:Option V} {u:Option Value} {d:V} {d':Value} (r:RelO o u) (rd:RelV d d'):RelV (o.getD d) (u.getD d'):=by
 cases o with
 | none=>cases u with
  | none=>exact rd
  | some _=>exact (show False from r).elim
 | some _=>cases u with
  | none=>exact (show False from r).elim
  | some _=>exact r
theorem KV.val {kvs:List (κ × V)} {vs:List (κ × Value)} (r:KV kvs vs) (k:κ):RelO (valV kvs k) (valueAt vs k):=by
 unfold KV at r
 induction r with
 | nil=>exact True.intro
 | @cons p q ps qs h t ih =>
  obtain ⟨h1,h2⟩:=h
  by_cases e:p.1 = k
  ·have e':q.1 = k:=h1.symm.trans e
   have b:valueAt (q :: qs) k = some q.2:=by simp [valueAt,List.find?_cons,e']
   rw [valV_pos e,b]; exact h2
  ·have e':¬ q.1 = k:=fun z=>e (h1.trans z)
   have b:valueAt (q :: qs) k = valueAt qs k:=by simp [valueAt,List.find?_cons,e']
   rw [valV_neg e,b]; exact ih
theorem KV.any {kvs:List (κ × V)} {vs:List (κ × Value)} (r:KV kvs vs) (k:κ):(kvs.any fun kv=>decide (kv.1 = k)) = vs.any fun kv=>decide (kv.1 = k):=by
 unfold KV at r
 induction r with
 | nil=>rfl
 | cons h t ih=>rw [List.any_cons,List.any_cons,ih,h.1]
theorem KV.repl {kvs:List (κ × V)} {vs:List (κ × Value)} (r:KV kvs vs) (k:κ) {y:V} {u:Value} (ry:RelV y u) :
  KV (kvs.map fun kv=>if kv.1 = k then (kv.1,y) else kv) (vs.map fun kv=>if kv.1 = k then (kv.1,u) else kv):=by
 unfold KV at r ⊢
 induction r with
 | nil=>exact .nil
 | @cons p q ps qs h t ih =>
  rw [List.map_cons,List.map_cons]
  refine .cons ?_ ih
  obtain ⟨h1,h2⟩:=h
  by_cases e:p.1 = k
  ·rw [if_pos e,if_pos (h1.symm.trans e)]; exact ⟨h1,ry⟩
  ·rw [if_neg e,if_neg (fun z=>e (h1.trans z))]; exact ⟨h1,h2⟩
theorem KV.put {kvs:List (κ × V)} {vs:List (κ × Value)} (r:KV kvs vs) (k:κ) {y:V} {u:Value} (ry:RelV y u):KV (putK kvs k y) (stored vs k u):=by
 unfold putK stored
 rw [r.any k]
 by_cases e:(vs.any fun kv=>decide (kv.1 = k)) = true
 ·rw [if_pos e,if_pos e]; exact r.repl k ry
 ·rw [if_neg e,if_neg e]; exact Paired.snoc r ⟨rfl,ry⟩
theorem KV.length {kvs:List (κ × V)} {vs:List (κ × Value)} (r:KV kvs vs):kvs.length = vs.length:=Paired.length r
end
theorem kV_is {P:Program} {w:World} {k:Key} {u:Value} (r:RelV (kV k) u):(mixKind P w).is k u = true:=by
 cases k with
 | inl i=>obtain ⟨t,e⟩:=(show ∃ t,u = Value.int i t from r); subst e; exact mixKind_int P w i t
 | inr x=>obtain ⟨t,e⟩:=(show ∃ t,u = Value.str x t from r); subst e; exact mixKind_str P w x t
theorem items_are {P:Program} {w:World}:∀ {ks:List Key} {us:List Value},Vals (ks.map kV) us->ItemsAre (mixKind P w) ks us
 | [],_,r=>by rw [List.map_nil] at r; cases r; exact .nil
 | k :: ks,_,r=>by
  rw [List.map_cons] at r
  cases r with
  | cons h t=>exact .cons (kV_is h) (items_are t)
noncomputable abbrev KT (H:Hp):List (List Key × V)->List (List Key × Addr × Value)->Prop:=Paired fun p q=>p.1 = q.1 /\ H q.2.1 = some (.tup (p.1.map kV)) /\ RelV p.2 q.2.2
theorem KT.val {H:Hp} {kvs:List (List Key × V)} {xs:List (List Key × Addr × Value)} (r:KT H kvs xs) (k:List Key):RelO (valV kvs k) ((atKey xs k).map (·.2)):=by
 induction r with
 | nil=>exact True.intro
 | @cons p q ps qs h t ih =>
  obtain ⟨h1,_,h2⟩:=h
  by_cases e:p.1 = k
  ·have e':q.1 = k:=h1.symm.trans e
   have b:atKey (q :: qs) k = some q.2:=by simp [atKey,List.find?_cons,e']
   rw [valV_pos e,b]; exact h2
  ·have e':¬ q.1 = k:=fun z=>e (h1.trans z)
   have b:atKey (q :: qs) k = atKey qs k:=by simp [atKey,List.find?_cons,e']
   rw [valV_neg e,b]; exact ih
theorem KT.repl {H:Hp} {kvs:List (List Key × V)} {xs:List (List Key × Addr × Value)} (r:KT H kvs xs) (k:List Key) {y:V} {u:Value} (ry:RelV y u) :
  KT H (kvs.map fun kv=>if kv.1 = k then (kv.1,y) else kv) (xs.map (putAt k u)):=by
 induction r with
 | nil=>exact .nil
 | @cons p q ps qs h t ih =>
  rw [List.map_cons,List.map_cons]
  refine .cons ?_ ih
  obtain ⟨h1,h2,h3⟩:=h
  unfold putAt
  by_cases e:p.1 = k
  ·rw [if_pos e,if_pos (h1.symm.trans e)]; exact ⟨h1,h2,ry⟩
  ·rw [if_neg e,if_neg (fun z=>e (h1.trans z))]; exact ⟨h1,h2,h3⟩
theorem KT.put {H:Hp} {kvs:List (List Key × V)} {xs:List (List Key × Addr × Value)} (r:KT H kvs xs) (k:List Key) {b:Addr} {y:V} {u:Value} (hb:H b = some (.tup (k.map kV))) (ry:RelV y u) :
  KT H (putK kvs k y) (storedH xs k b u):=by
 have e:(kvs.any fun kv=>decide (kv.1 = k)) = (atKey xs k).isSome:=by
  rw [valV_any,(r.val k).isSome_eq,Option.isSome_map]
 unfold putK storedH
 rw [e]
 by_cases q:(atKey xs k).isSome = true
 ·rw [if_pos q,if_pos q]; exact r.repl k ry
 ·rw [if_neg q,if_neg q]; exact Paired.snoc r ⟨rfl,hb,ry⟩
theorem KT.keeps {H H':Hp} {kvs:List (List Key × V)} {xs:List (List Key × Addr × Value)} (r:KT H kvs xs) (ht:∀ b ys,H b = some (.tup ys)->H' b = some (.tup ys)):KT H' kvs xs :=
 Paired.mapP r fun _ _ z=>⟨z.1,ht _ _ z.2.1,z.2.2⟩
section
variable {P:Program} {w:World} {H:Hp} {h:Heap} {a:Addr}
theorem rd_of {u:HO} (ok:HOk P w H h) (e:Rd H a u):ObjOk P w H h a u:=e.ok ok
theorem dk_rd {kvs:List (Key × V)} (ok:HOk P w H h) (e:Rd H a (.dK kvs)):kvs.length <= sizeLine /\ (a == sysModules) = false /\ ∃ vs,KV kvs vs /\ h.DictOf (mixKind P w) a vs :=
 show ObjOk P w H h a (.dK kvs) from rd_of ok e
theorem dk_of {kvs:List (Key × V)} (ok:HOk P w H h) (e:H a = some (.dK kvs)):kvs.length <= sizeLine /\ (a == sysModules) = false /\ ∃ vs,KV kvs vs /\ h.DictOf (mixKind P w) a vs:=dk_rd ok (.inl e)
theorem key_of {ks:List Key} (ok:HOk P w H h) (e:H a = some (.tup (ks.map kV))):(tupleKind (mixKind P w)).is h ks a:=by
 obtain ⟨_,its,r,o,h1,h2,n,h3⟩:=(show ObjOk P w H h a (.tup (ks.map kV)) from ok a _ e)
 exact ⟨o,its.toArray,n,h1,h2,h3,by simpa using items_are r⟩
theorem dt_rd {kvs:List (List Key × V)} (ok:HOk P w H h) (e:Rd H a (.dT kvs)):kvs.length <= sizeLine /\ (a == sysModules) = false /\
  ∃ xs,KT H kvs xs /\ h.DictOfH (tupleKind (mixKind P w)) a xs:=by
 obtain ⟨z,y,xs,r,o,es,ep,h1,h2,h3,h4,h5⟩:=(show ObjOk P w H h a (.dT kvs) from rd_of ok e)
 refine ⟨z,y,xs,r,o,es,ep,h1,h2,h3,h4,fun x hx=>?_,h5⟩
 have all:∀ {l:List (List Key × V)} {m:List (List Key × Addr × Value)},KT H l m->∀ x ∈ m,(tupleKind (mixKind P w)).is h x.1 x.2.1:=by
  intro l m q
  induction q with
  | nil=>intro x hx; exact nomatch hx
  | @cons p q ps qs hq t ih =>
   intro x hx
   rcases List.mem_cons.mp hx with e | hx
   ·subst e
    exact key_of ok (by rw [<- hq.1]; exact hq.2.1)
   ·exact ih x hx
 exact all r x hx
theorem dt_of {kvs:List (List Key × V)} (ok:HOk P w H h) (e:H a = some (.dT kvs)):kvs.length <= sizeLine /\ (a == sysModules) = false /\
  ∃ xs,KT H kvs xs /\ h.DictOfH (tupleKind (mixKind P w)) a xs:=dt_rd ok (.inl e)
end
noncomputable def DGet (H:Hp) (a:Addr) (y:V) (r:Option V):Prop :=
 (∃ kvs k,Rd H a (.dK kvs) /\ y = kV k /\ r = valV kvs k) \/ ∃ kvs k b,Rd H a (.dT kvs) /\ y = .ref b /\ H b = some (.tup (k.map kV)) /\ r = valV kvs k
noncomputable def DPut (H:Hp) (a:Addr) (y v:V) (H':Hp):Prop :=
 (∃ kvs k,H a = some (.dK kvs) /\ y = kV k /\ kvs.length < sizeLine /\ H' = upd H a (.dK (putK kvs k v))) \/
 ∃ kvs k b,H a = some (.dT kvs) /\ y = .ref b /\ H b = some (.tup (k.map kV)) /\ kvs.length < sizeLine /\ H' = upd H a (.dT (putK kvs k v))
theorem DGet.k {H:Hp} {a:Addr} {kvs:List (Key × V)} {k:Key} (e:H a = some (.dK kvs)):DGet H a (kV k) (valV kvs k):=.inl ⟨kvs,k,.inl e,rfl,rfl⟩
theorem DGet.t {H:Hp} {a b:Addr} {kvs:List (List Key × V)} {k:List Key} (e:H a = some (.dT kvs)) (eb:H b = some (.tup (k.map kV))):DGet H a (.ref b) (valV kvs k):=.inr ⟨kvs,k,b,.inl e,rfl,eb,rfl⟩
theorem DPut.k {H:Hp} {a:Addr} {kvs:List (Key × V)} {k:Key} {v:V} (e:H a = some (.dK kvs)) (hl:kvs.length < sizeLine):DPut H a (kV k) v (upd H a (.dK (putK kvs k v))):=.inl ⟨kvs,k,e,rfl,hl,rfl⟩
theorem DPut.t {H:Hp} {a b:Addr} {kvs:List (List Key × V)} {k:List Key} {v:V} (e:H a = some (.dT kvs)) (eb:H b = some (.tup (k.map kV))) (hl:kvs.length < sizeLine) :
  DPut H a (.ref b) v (upd H a (.dT (putK kvs k v))):=.inr ⟨kvs,k,b,e,rfl,eb,hl,rfl⟩
section
variable {X:Cx} {pins:List (Addr × Obj)} {σ:St} {H:Hp} {s:Shared} {a:Addr} {y v:V} {u r:Value} {o:Option V} {A:Around} {E:Value->Shared->Prop}
theorem Inv.big (I:Inv X pins σ H s):sysModules < s.heap.objs.size:=by
 have h:mainGlobals < s.heap.objs.size:=(I.mod.glob.keeps I.bk).lt
 exact Nat.lt_trans (by decide) h
theorem d_getItem {Q:Value->Shared->Prop} (hu:A.units + 1 < cLine) (I:Inv X pins σ H s) (g:DGet H a y (some v)) (ry:RelV y u) (h:∀ w' s',Inv X pins σ H s'->RelV v w'->Q w' s') :
  wpAny (model X.prog X.w) A (getItem (.ref a) u) Q E s:=by
 rcases g with ⟨kvs,k,e,ey,l⟩ | ⟨kvs,k,b,e,ey,eb,l⟩
 ·subst ey
  obtain ⟨z,hd,vs,rel,dd⟩:=dk_rd I.hok e
  obtain ⟨w',hw,rw'⟩:=RelO.some_of (v:=v) (o:=valueAt vs k) (by rw [l]; exact rel.val k)
  exact wpAny_getItem_of (kV_is ry) dd.mapOf hw (h w' _ (I.tok _) rw')
 ·subst ey
  cases (show u = Value.ref b from ry)
  obtain ⟨z,hd,xs,rel,dd⟩:=dt_rd I.hok e
  obtain ⟨w',hw,rw'⟩:=RelO.some_of (v:=v) (o:=(atKey xs k).map (·.2)) (by rw [l]; exact rel.val k)
  obtain ⟨p,hp,hp2⟩:=Option.map_eq_some_iff.mp hw
  refine wpAny_getItem_heap (tupleKind_room_in1 hu) (key_of I.hok eb) dd hp ?_
  rw [hp2]
  exact h w' _ (I.tok _) rw'
theorem d_in {Q:Value->Shared->Prop} (hu:A.units + 1 < cLine) (I:Inv X pins σ H s) (g:DGet H a y o) (ry:RelV y u) (h:∀ s',Inv X pins σ H s'->Q (.bool o.isSome) s') :
  wpAny (model X.prog X.w) A (compareOp .In u (.ref a)) Q E s:=by
 rcases g with ⟨kvs,k,e,ey,l⟩ | ⟨kvs,k,b,e,ey,eb,l⟩
 ·subst ey
  obtain ⟨z,hd,vs,rel,dd⟩:=dk_rd I.hok e
  refine wpAny_in_of (kV_is ry) hd dd.mapOf ?_
  rw [<- (rel.val k).isSome_eq,<- l]
  exact h _ (I.tok _)
 ·subst ey
  cases (show u = Value.ref b from ry)
  obtain ⟨z,hd,xs,rel,dd⟩:=dt_rd I.hok e
  refine wpAny_in_heap (tupleKind_room_in1 hu) (key_of I.hok eb) hd dd ?_
  have q:=(rel.val k).isSome_eq
  rw [Option.isSome_map] at q
  rw [<- q,<- l]
  exact h _ (I.tok _)
theorem d_write {h':Heap} {t':Nat} {ob:HO} (I:Inv X pins σ H s) (mu:Mut (H a)) (hs:Heap.SameBut a s.heap h') (he:∃ q,h'.get? a = some q) (new:ObjOk X.prog X.w (upd H a ob) h' a ob) :
  Inv X pins σ (upd H a ob) { s with heap:=h',toks:=t' } :=
 I.write (x:=a) (e:=a) mu (.inl rfl) (fun b q hb z=>(hs.2 b hb).trans z) he new
theorem dk_new {P:Program} {w:World} {H':Hp} {h':Heap} {kvs:List (Key × V)} {vs:List (Key × Value)} (z:kvs.length <= sizeLine) (hd:(a == sysModules) = false) (rel:KV kvs vs) (dd:h'.DictOf (mixKind P w) a vs) :
  ObjOk P w H' h' a (.dK kvs):=⟨z,hd,vs,rel,dd⟩
theorem d_setItem {H':Hp} {Q:Unit->Shared->Prop} (hu:A.units + 1 < cLine) (I:Inv X pins σ H s) (g:DPut H a y v H') (ry:RelV y u) (rv:RelV v r) (h:∀ s',Inv X pins σ H' s'->Q () s') :
  wpAny (model X.prog X.w) A (setItem (.ref a) u r) Q E s:=by
 rcases g with ⟨kvs,k,e,ey,l,eH⟩ | ⟨kvs,k,b,e,ey,eb,l,eH⟩
 ·subst ey eH
  obtain ⟨z,hd,vs,rel,dd⟩:=dk_of I.hok e
  have hz:vs.length <= sizeLine:=by rw [<- rel.length]; exact z
  have hl:(putK kvs k v).length <= sizeLine:=by have:=length_putK kvs k v; lia
  refine wpAny_setItem_pairs (hsz:=hz) (kV_is ry) dd fun h' dd' hs=>h _ ?_
  have he:∃ q,h'.get? a = some q:=let ⟨q,_,_,hq,_⟩:=dd'; ⟨q,hq⟩
  exact d_write I (by rw [e]; exact True.intro) hs he (dk_new hl hd (rel.put k rv) dd')
 ·subst ey eH
  cases (show u = Value.ref b from ry)
  obtain ⟨z,hd,xs,rel,dd⟩:=dt_of I.hok e
  have hz:xs.length <= sizeLine:=by rw [<- Paired.length rel]; exact z
  have hl:(putK kvs k v).length <= sizeLine:=by have:=length_putK kvs k v; lia
  refine wpAny_setItem_heap (hsz:=hz) (tupleKind_room_in1 hu) (key_of I.hok eb) dd fun h' dd' hs=>h _ ?_
  obtain ⟨q,es,ep,hq,h2,h3,h4,_,h5⟩:=dd'
  refine d_write I (by rw [e]; exact True.intro) hs ⟨q,hq⟩ ⟨hl,hd,_,(rel.put k eb rv).keeps fun c ys ec=>?_,q,es,ep,hq,h2,h3,h4,h5⟩
  rw [upd_ne (ne_of ec e (fun z=>nomatch z))]
  exact ec
end
section
variable {X:Cx} {pins:List (Addr × Obj)} {σ:St} {H:Hp} {s:Shared} {a:Addr} {kvs:List (Key × V)} {k:Key} {u:Value} {A:Around} {E:Value->Shared->Prop}
end
noncomputable def NoSl (i:Expr):Prop:=∀ ov iv,subscripted i false ov iv = operate [ov,iv] (getItem ov iv)
theorem subD_of {prog:Program} {w:World} {A:Around} {E:Value->Shared->Prop} {s:Shared} {env:Env} {value slice:Expr} {pos:Pos} {T id:String} {Q:Value->Shared->Prop}
  (hl:typeLookup (.type T) "__getitem__" = pure (some (.builtin id))) (hs:NoSl slice)
  (h:wpAny (model prog w) A (eval value env) (fun o s₁=>wpAny (model prog w) A (eval slice env) (fun i s₂=>s₂.TypeIs o T /\ wpAny (model prog w) A (getItem o i) Q E s₂) E s₁) E s) :
  wpAny (model prog w) A (eval (.Subscript value slice pos) env) Q E s:=by
 refine Subscript_ (wpAny_mono h (fun o s₁ h₁=>wpAny_mono h₁ (fun i s₂ h₂=>?_) fun _ _ x=>x) fun _ _ x=>x)
 obtain ⟨hT,h₂⟩:=h₂
 unfold subscriptTail
 refine wpAny_bind ?_
 rw [getitemInPython_of_ne hT.not_modules]
 refine wpAny_bind (wpAny_specialOf hT hl ?_)
 have fin:wpAny (model prog w) A (subscripted slice false o i) (fun r s₃=>wpAny (model prog w) A (letTemporaryGo value o r >>= fun _=>pure r) Q E s₃) E s₂:=by
  rw [hs o i]
  exact wpAny_operating (wpAny_mono h₂ (fun r s₃ h₃=>wpAny_bind (wpAny_letTemporaryGo (wpAny_pure h₃))) fun _ _ x=>x)
 first
  | exact wpAny_pure (wpAny_bind fin)
  | exact wpAny_bind (wpAny_pure (wpAny_bind fin))
  | exact wpAny_bind fin
theorem dict_typeIs {X:Cx} {pins:List (Addr × Obj)} {σ:St} {H:Hp} {s:Shared} {a:Addr} {y:V} {o:Option V} (I:Inv X pins σ H s) (g:DGet H a y o):s.TypeIs (.ref a) "dict":=by
 rcases g with ⟨kvs,k,e,_,_⟩ | ⟨kvs,k,b,e,_,_,_⟩
 ·obtain ⟨_,_,vs,_,dd⟩:=dk_rd I.hok e
  exact dd.typeIs
 ·obtain ⟨_,_,xs,_,dd⟩:=dt_rd I.hok e
  exact dd.typeIs
noncomputable def tDGet (td ty:TE):TE:=fun σ H Q=>td σ H fun x H1=>ty σ H1 fun y H2=>∃ a v,x = .ref a /\ DGet H2 a y (some v) /\ Q v H2
noncomputable def tDIn (ty td:TE):TE:=fun σ H Q=>ty σ H fun y H1=>td σ H1 fun x H2=>∃ a o,x = .ref a /\ DGet H2 a y o /\ Q (.bl o.isSome) H2
noncomputable def sDPut (td ty tv:TE):TS:=fun D σ H=>tv σ H fun v H1=>td σ H1 fun x H2=>ty σ H2 fun y H3=>∃ a H4,x = .ref a /\ DPut H3 a y v H4 /\ D.nx σ H4
section
variable {X:Cx} {o i e value:Expr} {pos pos' tpos:Pos} {td ty tv:TE}
theorem pe_dget (hu:X.A.units + 1 < cLine) (ho:PE X o td) (hi:PE X i ty) (hs:NoSl i):PE X (.Subscript o i pos) (tDGet td ty):=by
 intro pins s σ H Q I h
 refine subD_of PySem.F.slot_dict_getitem.lookup hs (thn (ho pins s σ H _ I h) fun u s1 ⟨x,H1,I1,rx,q1⟩=>thn (hi pins s1 σ H1 _ I1 q1) fun iv s2 ⟨y,H2,I2,ry,a,v,ex,g,q2⟩=>?_)
 subst ex
 obtain rfl:u = Value.ref a:=rx
 exact ⟨dict_typeIs I2 g,d_getItem hu I2 g ry fun w' s3 I3 rw'=>⟨v,H2,I3,rw',q2⟩⟩
theorem pc_din (hu:X.A.units + 1 < cLine) (hi:PE X i ty) (ho:PE X o td):PC X .In i o (tDIn ty td):=by
 intro pins s σ H Q I h
 refine thn (hi pins s σ H _ I h) fun iv s1 ⟨y,H1,I1,ry,q1⟩=>thn (ho pins s1 σ H1 _ I1 q1) fun u s2 ⟨x,H2,I2,rx,a,ov,ex,g,q2⟩=>?_
 subst ex
 obtain rfl:u = Value.ref a:=rx
 exact d_in hu I2 g ry fun s3 I3=>⟨.bl ov.isSome,H2,I3,rfl,q2⟩
theorem ps_dput (hu:X.A.units + 1 < cLine) (ho:PE X o td) (hi:PE X i ty) (hv:PE X value tv) (hs:swapsWith value (some (.Subscript o i pos')) pos.line X.env = pure false) :
  PS X (.Assign [.Subscript o i pos'] value pos) (sDPut td ty tv):=by
 intro pins s σ H D I h
 refine wpAny_Assign_Subscript (thn (hv pins s σ H _ I h) fun r s1 ⟨v,H1,I1,rv,q1⟩=>thn (ho pins s1 σ H1 _ I1 q1) fun u s2 ⟨x,H2,I2,rx,q2⟩=>thn (hi pins s2 σ H2 _ I2 q2) fun iv s3 ⟨y,H3,I3,ry,a,H4,ex,g,q3⟩=>?_) hs
 subst ex
 obtain rfl:u = Value.ref a:=rx
 exact d_setItem hu I3 g ry rv fun s4 I4=>⟨σ,H4,I4,q3⟩
end
theorem dk_empty {P:Program} {w:World} {H:Hp} (h:Heap) (hb:sysModules < h.objs.size):ObjOk P w H (h.push { cls:=.type "dict",data:=.dict #[] }) h.objs.size (.dK []) :=
 ⟨Nat.zero_le _,beq_eq_false_iff_ne.mpr (Ne.symm (Nat.ne_of_lt hb)),[],.nil,Heap.DictOf.new h⟩
theorem dt_empty {P:Program} {w:World} {H:Hp} (h:Heap) (hb:sysModules < h.objs.size):ObjOk P w H (h.push { cls:=.type "dict",data:=.dict #[] }) h.objs.size (.dT []) :=
 ⟨Nat.zero_le _,beq_eq_false_iff_ne.mpr (Ne.symm (Nat.ne_of_lt hb)),[],.nil,_,#[],0,Heap.get?_push_size _ rfl,⟨rfl,rfl,rfl⟩,rfl,rfl,List.nodup_nil⟩
noncomputable def tDNewK:TE:=fun _ H Q=>∀ p,H p = none->Q (.ref p) (upd H p (.dK []))
noncomputable def tDNewT:TE:=fun _ H Q=>∀ p,H p = none->Q (.ref p) (upd H p (.dT []))
section
variable {X:Cx} {pos:Pos}
theorem pe_dnewK:PE X (.Dict [] [] pos) tDNewK:=fun pins s σ H Q I h =>
 wpAny_Dict_empty ⟨.ref s.heap.objs.size,_,I.laid (a:=s.heap.objs.size) (o:=.dK []) (t':=s.toks) (fun _ _ q=>Heap.get?_push_of_some _ q) (Nat.le_refl _) (dk_empty s.heap I.big),rfl,h _ (I.hok.fresh (Nat.le_refl _))⟩
theorem pe_dnewT:PE X (.Dict [] [] pos) tDNewT:=fun pins s σ H Q I h =>
 wpAny_Dict_empty ⟨.ref s.heap.objs.size,_,I.laid (a:=s.heap.objs.size) (o:=.dT []) (t':=s.toks) (fun _ _ q=>Heap.get?_push_of_some _ q) (Nat.le_refl _) (dt_empty s.heap I.big),rfl,h _ (I.hok.fresh (Nat.le_refl _))⟩
end
noncomputable def tPairs:List (TE × TE)->St->Hp->(List (V × V)->Hp->Prop)->Prop
 | [],_,H,Q=>Q [] H
 | (tk,tv) :: r,σ,H,Q=>tk σ H fun x H1=>tv σ H1 fun y H2=>tPairs r σ H2 fun ps H3=>Q ((x,y) :: ps) H3
noncomputable abbrev VV:List (V × V)->List (Value × Value)->Prop:=Paired fun p q=>RelV p.1 q.1 /\ RelV p.2 q.2
noncomputable def PPs (X:Cx) (pos:Pos) (keys:List (Option Expr)) (values:List Expr) (trs:List (TE × TE)):Prop :=
 ∀ (pins:List (Addr × Obj)) (s:Shared) (σ:St) (H:Hp) (Q:List (V × V)->Hp->Prop),Inv X pins σ H s->tPairs trs σ H Q ->
  wpAny (model X.prog X.w) X.A (evalPairs (pairTrees keys values X.env pos)) (fun vs s'=>∃ ps H',Inv X pins σ H' s' /\ VV ps vs /\ Q ps H') X.xe s
theorem pps_nil {X:Cx} {pos:Pos}:PPs X pos [] [] []:=fun pins s σ H Q I h=>pairTrees_nil_walk ⟨[],H,I,.nil,h⟩
theorem pps_cons {X:Cx} {pos:Pos} {k v:Expr} {ks:List (Option Expr)} {vs:List Expr} {tk tv:TE} {trs:List (TE × TE)} (hk:PE X k tk) (hv:PE X v tv) (hr:PPs X pos ks vs trs) :
  PPs X pos (some k :: ks) (v :: vs) ((tk,tv) :: trs):=fun pins s σ H Q I h =>
 pairTrees_cons_walk (thn (hk pins s σ H _ I h) fun u s1 ⟨x,H1,I1,rx,q1⟩=>thn (hv pins s1 σ H1 _ I1 q1) fun w2 s2 ⟨y,H2,I2,ry,q2⟩ =>
  thn (hr pins s2 σ H2 _ I2 q2) fun ws s3 ⟨ps,H3,I3,rel,q3⟩=>⟨(x,y) :: ps,H3,I3,.cons ⟨rx,ry⟩ rel,q3⟩)
structure M1 (X:Cx) (o:Expr) (m:Str) (apos:Pos) (e:Expr) (cpos:Pos):Prop where
 base:attributeBase o m X.env (eval o X.env) = eval o X.env
 few:((backTo cpos (starEach [e] X.env)).all (fun x=>!x.1) && (backToKw cpos (keywordEach [] X.env)).all (fun x=>x.1.isSome)
  && decide (([e]:List Expr).length + ([]:List Keyword).length + (if ([]:List Keyword).isEmpty then 0 else 1) < 30)) = true
 line:(apos.endLine == cpos.line) = true
 trees:backTo cpos (starEach [e] X.env) = [(false,eval e X.env)]
structure M2 (X:Cx) (o:Expr) (m:Str) (apos:Pos) (e f:Expr) (cpos:Pos):Prop where
 base:attributeBase o m X.env (eval o X.env) = eval o X.env
 few:((backTo cpos (starEach [e,f] X.env)).all (fun x=>!x.1) && (backToKw cpos (keywordEach [] X.env)).all (fun x=>x.1.isSome)
  && decide (([e,f]:List Expr).length + ([]:List Keyword).length + (if ([]:List Keyword).isEmpty then 0 else 1) < 30)) = true
 line:(apos.endLine == cpos.line) = true
 trees:backTo cpos (starEach [e,f] X.env) = [(false,eval e X.env),(false,eval f X.env)]
noncomputable def IsD (H:Hp) (a:Addr):Prop:=(∃ kvs,Rd H a (.dK kvs)) \/ ∃ kvs,Rd H a (.dT kvs)
theorem isD_at {X:Cx} {pins:List (Addr × Obj)} {σ:St} {H:Hp} {s:Shared} {a:Addr} (I:Inv X pins σ H s) (d:IsD H a) :
  s.TypeIs (.ref a) "dict" /\ (∀ b,Value.ref a = .ref b->∃ ob,s.heap.get? b = some ob /\ ob.dict = none) /\ (a == sysModules) = false:=by
 rcases d with ⟨kvs,e⟩ | ⟨kvs,e⟩
 ·obtain ⟨_,hd,vs,_,dd⟩:=dk_rd I.hok e
  refine ⟨dd.typeIs,fun b q=>?_,hd⟩
  cases q
  obtain ⟨ob,_,_,h1,h2,_⟩:=dd
  exact ⟨ob,h1,h2.2.1⟩
 ·obtain ⟨_,hd,xs,_,dd⟩:=dt_rd I.hok e
  refine ⟨dd.typeIs,fun b q=>?_,hd⟩
  cases q
  obtain ⟨ob,_,_,h1,h2,_⟩:=dd
  exact ⟨ob,h1,h2.2.1⟩
section
variable {X:Cx} {pins:List (Addr × Obj)} {σ:St} {H:Hp} {s:Shared} {a:Addr} {y d:V} {u r:Value} {o:Option V} {A:Around} {E:Value->Shared->Prop}
theorem d_get1 {Q:Value->Shared->Prop} (hu:A.units + 1 < cLine) (I:Inv X pins σ H s) (g:DGet H a y o) (ry:RelV y u) (h:∀ w' s',Inv X pins σ H s'->RelV (o.getD .non) w'->Q w' s') :
  wpAny (model X.prog X.w) A (call (.builtin "dict.get") [.ref a,u]) Q E s:=by
 rcases g with ⟨kvs,k,e,ey,l⟩ | ⟨kvs,k,b,e,ey,eb,l⟩
 ·subst ey
  obtain ⟨z,hd,vs,rel,dd⟩:=dk_rd I.hok e
  refine call_meetsIn PySem.F.slot_dict_get dd.typeIs PySem.F.entry_dict_get (PySem.F.args_dict_get_2 _ _) (meets_dict_get (mixKind X.prog X.w) a (kV_is ry) hd) ⟨_,dd.mapOf,h _ _ (I.tok _) ?_⟩
  rw [l]
  exact (rel.val k).getD rfl
 ·subst ey
  cases (show u = Value.ref b from ry)
  obtain ⟨z,hd,xs,rel,dd⟩:=dt_rd I.hok e
  refine call_meetsIn PySem.F.slot_dict_get dd.typeIs PySem.F.entry_dict_get (PySem.F.args_dict_get_2 _ _) (meetsH_dict_get (tupleKind (mixKind X.prog X.w)) a b hd) ⟨tupleKind_room_in1 hu,k,xs,key_of I.hok eb,dd,h _ _ (I.tok _) ?_⟩
  rw [l]
  exact (rel.val k).getD rfl
theorem d_get2 {Q:Value->Shared->Prop} (hu:A.units + 1 < cLine) (I:Inv X pins σ H s) (g:DGet H a y o) (ry:RelV y u) (rd:RelV d r) (h:∀ w' s',Inv X pins σ H s'->RelV (o.getD d) w'->Q w' s') :
  wpAny (model X.prog X.w) A (call (.builtin "dict.get") [.ref a,u,r]) Q E s:=by
 rcases g with ⟨kvs,k,e,ey,l⟩ | ⟨kvs,k,b,e,ey,eb,l⟩
 ·subst ey
  obtain ⟨z,hd,vs,rel,dd⟩:=dk_rd I.hok e
  refine call_meetsIn PySem.F.slot_dict_get dd.typeIs PySem.F.entry_dict_get (PySem.F.args_dict_get_3 _ _ _) (meets_dict_get_default (mixKind X.prog X.w) a (kV_is ry) hd r) ⟨_,dd.mapOf,h _ _ (I.tok _) ?_⟩
  rw [l]
  exact (rel.val k).getD rd
 ·subst ey
  cases (show u = Value.ref b from ry)
  obtain ⟨z,hd,xs,rel,dd⟩:=dt_rd I.hok e
  refine call_meetsIn PySem.F.slot_dict_get dd.typeIs PySem.F.entry_dict_get (PySem.F.args_dict_get_3 _ _ _) (meetsH_dict_get_default (tupleKind (mixKind X.prog X.w)) a b hd r) ⟨tupleKind_room_in1 hu,k,xs,key_of I.hok eb,dd,h _ _ (I.tok _) ?_⟩
  rw [l]
  exact (rel.val k).getD rd
end
noncomputable def tDGet1 (td ty:TE):TE:=fun σ H Q=>td σ H fun x H1=>∃ a,x = .ref a /\ IsD H1 a /\ ty σ H1 fun y H2=>∃ o,DGet H2 a y o /\ Q (o.getD .non) H2
noncomputable def tDGet2 (td ty tx:TE):TE:=fun σ H Q=>td σ H fun x H1=>∃ a,x = .ref a /\ IsD H1 a /\ ty σ H1 fun y H2=>tx σ H2 fun z H3=>∃ o,DGet H3 a y o /\ Q (o.getD z) H3
section
variable {X:Cx} {o e f:Expr} {apos cpos:Pos} {td ty tx:TE}
theorem pe_dget1 (hu:X.A.units + 1 < cLine) (ho:PE X o td) (he:PE X e ty) (m:M1 X o "get" apos e cpos):PE X (.Call (.Attribute o "get" apos) [e] [] cpos) (tDGet1 td ty):=by
 intro pins s σ H Q I h
 refine wpAny_Call_method m.base m.few m.line PySem.F.plainAttrs_dict PySem.F.slot_dict_get PySem.F.type_dict_get (thn (ho pins s σ H _ I h) fun u s1 ⟨x,H1,I1,rx,a,ex,d,q1⟩=>?_)
 subst ex
 obtain rfl:u = Value.ref a:=rx
 obtain ⟨t1,t2,_⟩:=isD_at I1 d
 refine ⟨t1,t2,?_⟩
 rw [m.trees]
 refine Calls.callWith_builtin rfl (Calls.evalArgs_plain (Calls.spliced_cons (thn (he pins s1 σ H1 _ I1 q1) fun iv s2 ⟨y,H2,I2,ry,ov,g,q2⟩=>Calls.spliced_nil ?_)))
 exact d_get1 hu I2 g ry fun w' s3 I3 rw'=>⟨_,H2,I3,rw',q2⟩
theorem pe_dget2 (hu:X.A.units + 1 < cLine) (ho:PE X o td) (he:PE X e ty) (hf:PE X f tx) (m:M2 X o "get" apos e f cpos):PE X (.Call (.Attribute o "get" apos) [e,f] [] cpos) (tDGet2 td ty tx):=by
 intro pins s σ H Q I h
 refine wpAny_Call_method m.base m.few m.line PySem.F.plainAttrs_dict PySem.F.slot_dict_get PySem.F.type_dict_get (thn (ho pins s σ H _ I h) fun u s1 ⟨x,H1,I1,rx,a,ex,d,q1⟩=>?_)
 subst ex
 obtain rfl:u = Value.ref a:=rx
 obtain ⟨t1,t2,_⟩:=isD_at I1 d
 refine ⟨t1,t2,?_⟩
 rw [m.trees]
 refine Calls.callWith_builtin rfl (Calls.evalArgs_plain (Calls.spliced_cons (thn (he pins s1 σ H1 _ I1 q1) fun iv s2 ⟨y,H2,I2,ry,q2⟩ =>
  Calls.spliced_cons (thn (hf pins s2 σ H2 _ I2 q2) fun fv s3 ⟨z,H3,I3,rz,ov,g,q3⟩=>Calls.spliced_nil ?_))))
 exact d_get2 hu I3 g ry rz fun w' s4 I4 rw'=>⟨_,H3,I4,rw',q3⟩
end
section
variable {X:Cx} {pins:List (Addr × Obj)} {σ:St} {H:Hp} {s:Shared} {a:Addr} {kvs:List (Key × V)} {A:Around} {E:Value->Shared->Prop}
end
section
variable {X:Cx} {pins:List (Addr × Obj)} {σ:St} {H:Hp} {s:Shared} {a:Addr} {y:V} {u:Value} {A:Around} {E:Value->Shared->Prop}
end
end L2
namespace HT
open PySem PyProof.Rows
section
open PySem.SeqAt
open PySem.AutoSeq1 (wpAny_loadPart')
open PySem.MeetsSeq PySem.MeetsSeq2 PySem.MeetsSeq3
end
section
variable {prog:Program} {w:World} {A:Around} {E:Value->Shared->Prop} {s:Shared}
noncomputable def sIx (n d:Nat):Option Int->Nat
 | none=>d
 | some v=>if v < 0 then (v + (n:Int)).toNat else min v.toNat n
theorem sIx_nat (n d k:Nat):sIx n d (some (k:Int)) = min k n:=by
 show (if (k:Int) < 0 then ((k:Int) + (n:Int)).toNat else min (k:Int).toNat n) = min k n
 rw [if_neg (by lia),Int.toNat_natCast]
theorem sIx_le (n d:Nat) (hd:d <= n) (o:Option Int):sIx n d o <= n:=by
 cases o with
 | none=>exact hd
 | some v =>
  show (if v < 0 then (v + (n:Int)).toNat else min v.toNat n) <= n
  by_cases hv:v < 0
  ·rw [if_pos hv]; lia
  ·rw [if_neg hv]; exact Nat.min_le_right _ _
theorem clip_eq (v:Int) (n d:Nat):(if v < 0 then max (v + (n:Int)) 0 else min v (n:Int)) = ((sIx n d (some v):Nat):Int):=by
 show (if v < 0 then max (v + (n:Int)) 0 else min v (n:Int)) = (((if v < 0 then (v + (n:Int)).toNat else min v.toNat n):Nat):Int)
 by_cases hv:v < 0
 ·simp only [if_pos hv]; lia
 ·simp only [if_neg hv]; lia
theorem adjust_gen (lo hi:Option Int) (n:Nat):Builtin.Slice.sliceAdjust lo hi 1 (n:Int) = (((sIx n 0 lo:Nat):Int),((sIx n n hi:Nat):Int)):=by
 have h1:¬ ((1:Int) < 0):=by lia
 unfold Builtin.Slice.sliceAdjust
 simp only [h1,if_false]
 refine Prod.ext ?_ ?_
 ·cases lo with
  | none=>rfl
  | some v=>exact clip_eq v n 0
 ·cases hi with
  | none=>rfl
  | some v=>exact clip_eq v n n
theorem places_gen (i j:Nat):Builtin.Slice.slicePlaces (i:Int) (j:Int) 1 = j - i:=by
 unfold Builtin.Slice.slicePlaces
 have h1:(1:Int) > 0:=by lia
 simp only [h1,if_true,Int.ediv_one]
 split <;> lia
theorem slicePart_ {v:Value} {o:Option Int} {Q:Option Int->Shared->Prop} (p:IsPart v o) (h:Q o s):wpAny (model prog w) A (Builtin.Slice.slicePartIndex v) Q E s:=by
 cases p with
 | none=>exact slicePart_none h
 | int i t=>exact slicePart_int h
theorem sliceApplied_gen {sl:Addr} {vl vu:Value} {lo hi:Option Int} {n:Nat} {Q:Int × Int × Nat->Shared->Prop} (hs:s.heap.IsSliceOf sl vl vu .none) (pl:IsPart vl lo) (pu:IsPart vu hi)
  (h:Q (((sIx n 0 lo:Nat):Int),1,sIx n n hi - sIx n 0 lo) s):wpAny (model prog w) A (Builtin.Slice.sliceApplied (.ref sl) (pure (n:Int))) Q E s:=by
 obtain ⟨os,hos,hcs,hds⟩:=id hs
 unfold Builtin.Slice.sliceApplied Builtin.Slice.sliceFields
 refine wpAny_bind (wpAny_bind (wpAny_field hos hds (x:=vl) rfl (wpAny_bind (wpAny_field hos hds (x:=vu) rfl (wpAny_bind (wpAny_field hos hds (x:=.none) rfl (wpAny_pure ?_)))))))
 refine wpAny_bind (slicePart_none ?_)
 show wpAny _ _ (if ((1:Int) == 0) = true then _ else _) _ _ s
 rw [if_neg (by decide)]
 refine wpAny_bind (slicePart_ pl (wpAny_bind (slicePart_ pu (wpAny_bind (wpAny_pure ?_)))))
 show wpAny _ _ (match Builtin.Slice.sliceAdjust lo hi 1 (n:Int) with | (lo,hi)=>pure (lo,(1:Int),Builtin.Slice.slicePlaces lo hi 1)) _ _ s
 rw [adjust_gen lo hi n]
 show wpAny _ _ (pure (((sIx n 0 lo:Nat):Int),(1:Int),Builtin.Slice.slicePlaces ((sIx n 0 lo:Nat):Int) ((sIx n n hi:Nat):Int) 1)) _ _ s
 rw [places_gen]
 exact wpAny_pure h
theorem pick_gen (xs:Array Value) (i k:Nat):((List.range k).filterMap fun (m:Nat)=>xs[((i:Int) + (m:Int) * 1).toNat]?).toArray = ((xs.toList.drop i).take k).toArray:=by
 have e:(fun (m:Nat)=>xs[((i:Int) + (m:Int) * 1).toNat]?) = fun m=>xs[i + m]?:=by
  funext m
  have:((i:Int) + (m:Int) * 1).toNat = i + m:=by lia
  rw [this]
 rw [e]
 have:=pick_run xs i k
 rw [List.filterMap_map] at this
 have e2:((fun x=>xs[x]?) ∘ fun x=>i + x) = fun m=>xs[i + m]?:=rfl
 rw [e2] at this
 rw [this]
theorem getItem_tuple_cut {t sl:Addr} {items:Array Value} {vl vu:Value} {lo hi:Option Int} {Q:Value->Shared->Prop} (ht:IsTup s.heap t items) (hs:s.heap.IsSliceOf sl vl vu .none) (pl:IsPart vl lo) (pu:IsPart vu hi)
  (hw:¬ (sIx items.size 0 lo = 0 /\ sIx items.size items.size hi = items.size))
  (h:Q (.ref s.heap.objs.size) { s with heap:=s.heap.push { cls:=.type "tuple",data:=.seq ((items.toList.drop (sIx items.size 0 lo)).take (sIx items.size items.size hi - sIx items.size 0 lo)).toArray } })
  (hsz:items.size <= sizeLine):wpAny (model prog w) A (getItem (.ref t) (.ref sl)) Q E s:=by
 have htake:sizeOk (.seq ((items.toList.drop (sIx items.size 0 lo)).take (sIx items.size items.size hi - sIx items.size 0 lo)).toArray):=by
  show ((items.toList.drop (sIx items.size 0 lo)).take (sIx items.size items.size hi - sIx items.size 0 lo)).toArray.size <= sizeLine
  rw [List.size_toArray,List.length_take,List.length_drop,Array.length_toList]
  lia
 have hj:sIx items.size items.size hi <= items.size:=sIx_le _ _ (Nat.le_refl _) hi
 obtain ⟨os,hos,hcs,hds⟩:=id hs
 have hTs:s.TypeIs (.ref sl) "slice":=⟨os,hos,hcs⟩
 unfold getItem
 try with_reducible refine wpAny_holding ?_
 first | refine wpAny_bind (wpAny_pure ?_) | skip
 refine wpAny_bind (wpAny_sequenceKey ht.typeIs (by decide) ?_)
 refine wpAny_bind (wpAny_callSpecial?_slot (name:=Str.ofString "__getitem__") ht.typeIs PyProof.Rows.slot_tuple_getitem
  (wpAny_call_entry PyProof.Rows.slot_tuple_getitem ht.typeIs entry_tuple_getitem ?_ (args_tuple_getitem _ _)))
 show wpAny _ _ (Builtin.Tuple.tupleItemsOf (.ref t) >>= _) _ _ s
 refine wpAny_bind (tupleItemsOf_ ht ?_)
 refine wpAny_bind (wpAny_typeOf hTs ?_)
 rw [if_pos (by decide)]
 refine wpAny_bind (sliceApplied_gen hs pl pu ?_)
 have hno:¬ ((((sIx items.size 0 lo:Nat):Int) == 0 && (1:Int) == 1 && (sIx items.size items.size hi - sIx items.size 0 lo) == items.size) = true):=by
  intro q
  rw [Bool.and_eq_true,Bool.and_eq_true] at q
  have q1:((sIx items.size 0 lo:Nat):Int) = 0:=eq_of_beq q.1.1
  have q2:sIx items.size items.size hi - sIx items.size 0 lo = items.size:=eq_of_beq q.2
  exact hw ⟨by lia,by lia⟩
 show wpAny _ _ (if (((sIx items.size 0 lo:Nat):Int) == 0 && (1:Int) == 1 && (sIx items.size items.size hi - sIx items.size 0 lo) == items.size) = true then _ else _) _ _ s
 rw [if_neg hno,pick_gen]
 first
  | exact wpAny_bind (m:=Builtin.Tuple.tupleExact _) (wpAny_newObj_type (wpAny_pure ⟨_,rfl,wpAny_pure h⟩) htake)
  | exact wpAny_bind (m:=Builtin.Tuple.tupleExact _) (wpAny_newObj_type (wpAny_bind (wpAny_pure (wpAny_pure ⟨_,rfl,wpAny_pure h⟩))) htake)
  | exact wpAny_bind (wpAny_bind (m:=Builtin.Tuple.tupleExact _) (wpAny_newObj_type (wpAny_pure (wpAny_pure ⟨_,rfl,wpAny_pure h⟩)) htake))
  | exact wpAny_bind (wpAny_bind (m:=Builtin.Tuple.tupleExact _) (wpAny_newObj_type (wpAny_pure ⟨_,rfl,wpAny_pure h⟩) htake))
end
end HT
namespace L2
open PySem PySem.Spec PyProof.Rows
noncomputable abbrev TO:=St->Hp->(Option Int->Hp->Prop)->Prop
noncomputable def PO (X:Cx) (e:Option Expr) (t:TO):Prop :=
 ∀ (pins:List (Addr × Obj)) (s:Shared) (σ:St) (H:Hp) (Q:Option Int->Hp->Prop),Inv X pins σ H s->t σ H Q ->
  wpAny (model X.prog X.w) X.A (evalPart e X.env) (fun u s'=>∃ o H',Inv X pins σ H' s' /\ IsPart u o /\ Q o H') X.xe s
noncomputable def tPart (t:TE):TO:=fun σ H Q=>t σ H fun x H1=>∃ i,x = .int i /\ Q (some i) H1
section
variable {X:Cx} {e:Expr} {te:TE} {lo hi:Option Expr} {tl th:TO} {pos p2:Pos}
theorem po_some (h:PE X e te):PO X (some e) (tPart te):=by
 intro pins s σ H Q I hw
 rw [evalPart_some]
 refine thn (h pins s σ H _ I hw) fun u s1 ⟨x,H1,I1,r1,q1⟩=>?_
 obtain ⟨i,rfl,q⟩:=q1
 obtain ⟨t,rfl⟩:=r1
 exact ⟨some i,H1,I1,.int i t,q⟩
noncomputable def SlR (X:Cx) (r:V->Option Int->Option Int->Hp->VK->Prop):Prop :=
 ∀ (pins:List (Addr × Obj)) (s:Shared) (σ:St) (H:Hp) (x:V) (v vl vu:Value) (lo hi:Option Int) (sl:Addr) (Q:VK),Inv X pins σ H s->RelV x v->s.heap.IsSliceOf sl vl vu .none->IsPart vl lo->IsPart vu hi->r x lo hi H Q ->
  ∃ T id,typeLookup (.type T) "__getitem__" = pure (some (.builtin id)) /\ s.TypeIs v T /\ wpAny (model X.prog X.w) X.A (getItem v (.ref sl)) (EP X pins σ Q) X.xe s
noncomputable def tSl (r:V->Option Int->Option Int->Hp->VK->Prop) (te:TE) (tl th:TO):TE:=fun σ H Q=>te σ H fun x H1=>tl σ H1 fun l H2=>th σ H2 fun u H3=>r x l u H3 Q
theorem pe_slice {r:V->Option Int->Option Int->Hp->VK->Prop} (hr:SlR X r) (he:PE X e te) (hl:PO X lo tl) (hu:PO X hi th):PE X (.Subscript e (.Slice lo hi none p2) pos) (tSl r te tl th):=by
 intro pins s σ H Q I h
 refine Subscript_ (thn (he pins s σ H _ I h) fun v s1 ⟨x,H1,I1,r1,q1⟩=>?_)
 refine wpAny_Slice (thn (hl pins s1 σ H1 _ I1 q1) fun vl s2 ⟨l,H2,I2,pl,q2⟩=>thn (hu pins s2 σ H2 _ I2 q2) fun vu s3 ⟨u,H3,I3,pu,q3⟩=>?_)
 rw [evalPart_none]
 refine wpAny_pure ?_
 have I4:Inv X pins σ H3 { s3 with heap:=s3.heap.push { cls:=.type "slice",data:=.fields #[vl,vu,.none] } }:=I3.kept (t':=s3.toks) fun b ob q=>Heap.get?_push_of_some _ q
 obtain ⟨T,id,hT,ht,hg⟩:=hr pins { s3 with heap:=s3.heap.push { cls:=.type "slice",data:=.fields #[vl,vu,.none] } } σ H3 x v vl vu l u s3.heap.objs.size Q I4 r1 (Heap.IsSliceOf.new ..) pl pu q3
 show wpAny (model X.prog X.w) X.A (subscriptTail e (.Slice lo hi none p2) v (.ref s3.heap.objs.size)) (EP X pins σ Q) X.xe { s3 with heap:=s3.heap.push { cls:=.type "slice",data:=.fields #[vl,vu,.none] } }
 exact tail_any (ops:=[.ref s3.heap.objs.size,v]) ht hT hg (by with_unfolding_all rfl)
noncomputable def cutV (xs:List V) (lo hi:Option Int):List V:=(xs.drop (HT.sIx xs.length 0 lo)).take (HT.sIx xs.length xs.length hi - HT.sIx xs.length 0 lo)
theorem cutV_length (xs:List V) (lo hi:Option Int):(cutV xs lo hi).length <= xs.length:=by
 unfold cutV
 rw [List.length_take,List.length_drop]
 lia
noncomputable def rSlT (K:PySem.W.Frag):V->Option Int->Option Int->Hp->VK->Prop:=fun x lo hi H Q=>∃ a xs,x = .ref a /\ SqT K H a xs /\
 ¬ (HT.sIx xs.length 0 lo = 0 /\ HT.sIx xs.length xs.length hi = xs.length) /\ ∀ p,H p = none->Q (.ref p) (upd H p (.tup (cutV xs lo hi)))
theorem sl_tup:SlR X (rSlT X.K):=by
 intro pins s σ H x v vl vu lo hi sl Q I rx hs pl pu h
 obtain ⟨a,xs,rfl,hx,hw,q⟩:=h
 cases rx
 obtain ⟨its,r,ht,hz⟩:=I.tuple hx
 have hlen:its.toArray.size = xs.length:=by rw [List.size_toArray]; exact r.length.symm
 refine ⟨"tuple",_,PyProof.Rows.slot_tuple_getitem.lookup,ht.typeIs,?_⟩
 refine HT.getItem_tuple_cut ht hs pl pu (by rw [hlen]; exact hw) ?_ (by rw [hlen]; exact hz)
 rw [hlen]
 refine ⟨.ref s.heap.objs.size,_,I.laid (t':=s.toks) (o:=.tup (cutV xs lo hi)) (fun b ob q=>Heap.get?_push_of_some _ q) (Nat.le_refl _) ?_,rfl,q _ (I.hok.fresh (Nat.le_refl _))⟩
 exact ⟨Nat.le_trans (cutV_length xs lo hi) hz,_,(r.drop (HT.sIx xs.length 0 lo)).take (HT.sIx xs.length xs.length hi - HT.sIx xs.length 0 lo),IsTup.new _ _⟩
end
end L2
namespace L2
open PySem PySem.Spec PyProof.Rows
noncomputable def ixN (n:Nat) (i:Int):Option Nat:=if 0 <= i then (if i < n then some i.toNat else none) else if -(n:Int) <= i then some (i + n).toNat else none
noncomputable def atI {α:Type} (xs:List α) (i:Int):Option α:=(ixN xs.length i).bind fun j=>xs[j]?
theorem ixN_seq {n:Nat} {i:Int} {j:Nat} (h:ixN n i = some j):seqIndex? i n = some j /\ j < n /\ -(n:Int) <= i /\ i < n:=by
 unfold ixN at h
 by_cases h0:0 <= i
 ·rw [if_pos h0] at h
  by_cases h1:i < n
  ·rw [if_pos h1] at h
   have e:i.toNat = j:=Option.some.inj h
   exact ⟨by rw [seqIndex_of h0 h1,e],by lia,by lia,h1⟩
  ·rw [if_neg h1] at h; cases h
 ·rw [if_neg h0] at h
  by_cases h1:-(n:Int) <= i
  ·rw [if_pos h1] at h
   have e:(i + n).toNat = j:=Option.some.inj h
   exact ⟨by rw [seqIndex_neg (by lia) h1,e],by lia,h1,by lia⟩
  ·rw [if_neg h1] at h; cases h
theorem atI_get {α:Type} {xs:List α} {i:Int} {v:α} (h:atI xs i = some v):∃ j,seqIndex? i xs.length = some j /\ xs[j]? = some v /\ j < xs.length /\ -(xs.length:Int) <= i /\ i < xs.length:=by
 unfold atI at h
 cases e:ixN xs.length i with
 | none=>rw [e] at h; cases h
 | some j =>
  rw [e] at h
  obtain ⟨h1,h2,h3,h4⟩:=ixN_seq e
  exact ⟨j,h1,h,h2,h3,h4⟩
theorem atI_nat {α:Type} {xs:List α} {j:Nat} {v:α} (h:xs[j]? = some v):atI xs (j:Int) = some v:=by
 have hj:j < xs.length:=(List.getElem?_eq_some_iff.mp h).1
 have e:ixN xs.length (j:Int) = some j:=by
  unfold ixN
  rw [if_pos (by lia),if_pos (by lia)]; simp
 unfold atI; rw [e]; exact h
noncomputable def PlainIx (b:Expr):Prop:=∀ o i,subscripted b false o i = operate [o,i] (getItem o i)
noncomputable def IxR (X:Cx) (r:R2):Prop :=
 ∀ (value slice:Expr) (pins:List (Addr × Obj)) (s:Shared) (σ:St) (H:Hp) (x y:V) (v u:Value) (Q:VK),Inv X pins σ H s->RelV x v->RelV y u->r x y H Q ->
  subscripted slice false v u = operate [v,u] (getItem v u)->wpAny (model X.prog X.w) X.A (subscriptTail value slice v u) (EP X pins σ Q) X.xe s
noncomputable def MtR (X:Cx) (id:String) (r:V->List V->Hp->VK->Prop):Prop :=
 ∀ (pins:List (Addr × Obj)) (s:Shared) (σ:St) (H:Hp) (x:V) (xs:List V) (v:Value) (us:List Value) (Q:VK),Inv X pins σ H s->RelV x v->Vals xs us->r x xs H Q ->
  wpAny (model X.prog X.w) X.A (call (.builtin id) (v :: us)) (EP X pins σ Q) X.xe s
section
variable {X:Cx} {a b:Expr} {ta tb:TE} {pos:Pos}
theorem pe_ix {r:R2} (hr:IxR X r) (ha:PE X a ta) (hb:PE X b tb) (hs:PlainIx b):PE X (.Subscript a b pos) (tOp r ta tb):=by
 intro pins s σ H Q I h
 exact Subscript_ (binT ha hb I h fun v u s2 x y H2 I2 rx ry q=>hr a b pins s2 σ H2 x y v u Q I2 rx ry q (hs _ _))
noncomputable def rIxL (K:PySem.W.Frag):R2:=fun x y H Q=>∃ p xs i v,x = .ref p /\ y = .int i /\ SqL K H p xs /\ atI xs i = some v /\ Q v H
noncomputable def rIxT (K:PySem.W.Frag):R2:=fun x y H Q=>∃ p xs i v,x = .ref p /\ y = .int i /\ SqT K H p xs /\ atI xs i = some v /\ Q v H
noncomputable def rIxS:R2:=fun x y H Q=>∃ z i c,x = .str z /\ y = .int i /\ z.length <= sizeLine /\ atI z.cps.toList i = some c /\ Q (.str ⟨#[c]⟩) H
theorem ix_list:IxR X (rIxL X.K):=by
 intro value slice pins s σ H x y v u Q I rx ry h hs
 obtain ⟨p,xs,i,z,rfl,rfl,hq,he,q⟩:=h
 cases rx
 obtain ⟨t,rfl⟩:=ry
 obtain ⟨its,r,pl,hz⟩:=I.list hq
 obtain ⟨j,h1,h2,h3,h4,h5⟩:=atI_get he
 obtain ⟨w,ew,rw'⟩:=r.get h2
 have hl:=r.length
 have hn:=line63
 have fin:EP X pins σ Q w s:=⟨z,H,I,rw',q⟩
 by_cases h0:0 <= i
 ·have hj:i.toNat = j:=by
   rw [seqIndex_of h0 h5] at h1
   exact Option.some.inj h1
  exact item_listR pl.isList h0 (by lia) (by rw [hj]; simpa using ew) fin hs
 ·have hj:(i + (its.toArray.size:Int)).toNat = j:=by
   rw [seqIndex_neg (by lia) h4] at h1
   rw [List.size_toArray,<- hl]
   exact Option.some.inj h1
  exact subscriptTail_builtinR (x:=w) pl.isList.typeIs slot_list_getitem.lookup
   (wpAny_getItem_list_neg (Q:=fun r s'=>r = w /\ EP X pins σ Q r s') pl.isList (by lia) (by rw [List.size_toArray] <;> lia) (by lia) (by rw [hj]; simpa using ew) ⟨rfl,fin⟩) hs
theorem ix_tup:IxR X (rIxT X.K):=by
 intro value slice pins s σ H x y v u Q I rx ry h hs
 obtain ⟨p,xs,i,z,rfl,rfl,hq,he,q⟩:=h
 cases rx
 obtain ⟨t,rfl⟩:=ry
 obtain ⟨its,r,pl,hz⟩:=I.tuple hq
 obtain ⟨j,h1,h2,h3,h4,h5⟩:=atI_get he
 obtain ⟨w,ew,rw'⟩:=r.get h2
 have hl:=r.length
 have hn:=line63
 have fin:EP X pins σ Q w s:=⟨z,H,I,rw',q⟩
 exact subscriptTail_builtinR (x:=w) pl.typeIs slot_tuple_getitem.lookup
  (getItem_tuple (j:=j) (Q:=fun r s'=>r = w /\ EP X pins σ Q r s') pl (by lia) (by lia) (by rw [List.size_toArray,<- hl]; exact h1) (by simpa using ew) ⟨rfl,fin⟩) hs
theorem ix_str:IxR X rIxS:=by
 intro value slice pins s σ H x y v u Q I rx ry h hs
 obtain ⟨z,i,c,rfl,rfl,hz,he,q⟩:=h
 obtain ⟨t,rfl⟩:=rx
 obtain ⟨t',rfl⟩:=ry
 obtain ⟨j,h1,h2,h3,h4,h5⟩:=atI_get he
 have hl:z.cps.toList.length = z.length:=by simp [Str.length]
 rw [hl] at h1 h4 h5
 have hn:=line63
 exact tail_any (typeIs_str s z t) slot_str_getitem.lookup (getItem_str (c:=c) (by
  have e1:decide (i < -(2 ^ 63:Int)) = false:=decide_eq_false (by lia)
  have e2:decide (i ≥ 2 ^ 63) = false:=decide_eq_false (by lia)
  rw [e1,e2,Bool.or_false]) (by rw [h1]; simpa using h2) ⟨.str ⟨#[c]⟩,H,I.tok _,⟨_,rfl⟩,q⟩) hs
theorem slice_bounds (lo hi:Option Int) (n:Nat):(sliceBounds lo hi none n).1 = ((HT.sIx n 0 lo:Nat):Int) /\ (sliceBounds lo hi none n).2.1 = ((HT.sIx n n hi:Nat):Int) /\ (sliceBounds lo hi none n).2.2 = 1:=by
 refine ⟨?_,?_,rfl⟩
 ·cases lo with
  | none=>simp [sliceBounds,HT.sIx]
  | some i =>
   simp only [sliceBounds,HT.sIx,Option.getD_none,show (1:Int) > 0 by decide,if_true]
   by_cases h:i < 0
   ·simp only [h,if_true] <;> lia
   ·simp only [h,if_false] <;> lia
 ·cases hi with
  | none=>simp [sliceBounds,HT.sIx]
  | some i =>
   simp only [sliceBounds,HT.sIx,Option.getD_none,show (1:Int) > 0 by decide,if_true]
   by_cases h:i < 0
   ·simp only [h,if_true] <;> lia
   ·simp only [h,if_false] <;> lia
theorem slicePick_cut (its:List Value) (lo hi:Option Int):slicePick its.toArray lo hi none = ((its.drop (HT.sIx its.length 0 lo)).take (HT.sIx its.length its.length hi - HT.sIx its.length 0 lo)).toArray:=by
 obtain ⟨h1,h2,h3⟩:=slice_bounds lo hi its.toArray.size
 unfold slicePick
 rw [h1,h2,h3]
 simp only [sliceRange_one,pick_run,List.size_toArray] <;> rfl
noncomputable def rSlL (K:PySem.W.Frag):V->Option Int->Option Int->Hp->VK->Prop:=fun x lo hi H Q=>∃ a xs,x = .ref a /\ SqL K H a xs /\ ∀ p,H p = none->Q (.ref p) (upd H p (.lst (cutV xs lo hi)))
theorem sl_list:SlR X (rSlL X.K):=by
 intro pins s σ H x v vl vu lo hi sl Q I rx hs pl pu h
 obtain ⟨a,xs,rfl,hx,q⟩:=h
 cases rx
 obtain ⟨its,r,ht,hz⟩:=I.list hx
 have hlen:=r.length
 refine ⟨"list",_,slot_list_getitem.lookup,ht.isList.typeIs,?_⟩
 refine wpAny_getItem_list_slice ht.isList hs pl pu .none (by simp) ?_ (by rw [List.size_toArray] <;> lia)
 rw [slicePick_cut,<- hlen]
 refine ⟨.ref s.heap.objs.size,_,I.laid (t':=s.toks) (o:=.lst (cutV xs lo hi)) (fun b ob q=>Heap.get?_push_of_some _ q) (Nat.le_refl _) ?_,rfl,q _ (I.hok.fresh (Nat.le_refl _))⟩
 exact ⟨Nat.le_trans (cutV_length xs lo hi) hz,_,0,(r.drop (HT.sIx xs.length 0 lo)).take (HT.sIx xs.length xs.length hi - HT.sIx xs.length 0 lo),Heap.get?_push_size _ rfl⟩
noncomputable def flatV:V->Bool
 | .non=>true
 | .bl _=>true
 | .int _=>true
 | .str _=>true
 | _=>false
noncomputable def eqV:V->V->Bool
 | .non,.non=>true
 | .bl a,.bl b=>a == b
 | .bl a,.int b=>(if a then 1 else 0) == b
 | .int a,.bl b=>a == (if b then 1 else 0)
 | .int a,.int b=>a == b
 | .str a,.str b=>a == b
 | _,_=>false
theorem eqAt_V {A:Around} {s:Shared} {y x:V} {u v:Value} (ry:RelV y u) (rx:RelV x v) (fy:flatV y = true) (fx:flatV x = true):SeqAt.EqAt A s u v (eqV y x):=by
 cases y with
 | non =>
  cases ry
  cases x with
  | non=>cases rx; exact SeqAt.EqAt.same _
  | bl b=>cases rx; exact SeqAt.EqAt.none_bool b
  | int b=>obtain ⟨t,rfl⟩:=rx; exact SeqAt.EqAt.none_int b t
  | str b=>obtain ⟨t,rfl⟩:=rx; exact SeqAt.EqAt.none_str b t
  | _=>exact absurd (show false = true from fx) Bool.false_ne_true
 | bl a =>
  cases ry
  cases x with
  | non=>cases rx; exact SeqAt.EqAt.bool_none a
  | bl b=>cases rx; exact SeqAt.EqAt.bool_bool a b
  | int b=>obtain ⟨t,rfl⟩:=rx; exact SeqAt.EqAt.bool_int a b t
  | str b=>obtain ⟨t,rfl⟩:=rx; exact SeqAt.EqAt.bool_str a b t
  | _=>exact absurd (show false = true from fx) Bool.false_ne_true
 | int a =>
  obtain ⟨t',rfl⟩:=ry
  cases x with
  | non=>cases rx; exact SeqAt.EqAt.int_none a t'
  | bl b=>cases rx; exact SeqAt.EqAt.int_bool a t' b
  | int b=>obtain ⟨t,rfl⟩:=rx; exact SeqAt.EqAt.int_int a t' b t
  | str b=>obtain ⟨t,rfl⟩:=rx; exact SeqAt.EqAt.int_str a t' b t
  | _=>exact absurd (show false = true from fx) Bool.false_ne_true
 | str a =>
  obtain ⟨t',rfl⟩:=ry
  cases x with
  | non=>cases rx; exact SeqAt.EqAt.str_none a t'
  | bl b=>cases rx; exact SeqAt.EqAt.str_bool a t' b
  | int b=>obtain ⟨t,rfl⟩:=rx; exact SeqAt.EqAt.str_int a t' b t
  | str b=>obtain ⟨t,rfl⟩:=rx; exact SeqAt.EqAt.str_str a t' b t
  | _=>exact absurd (show false = true from fx) Bool.false_ne_true
 | _=>exact absurd (show false = true from fy) Bool.false_ne_true
noncomputable def eqU (x:V) (u:Value):Bool:=match u with
 | .none=>eqV .non x
 | .bool b=>eqV (.bl b) x
 | .int i _=>eqV (.int i) x
 | .str z _=>eqV (.str z) x
 | _=>false
theorem eqU_of {x y:V} {u:Value} (r:RelV y u) (f:flatV y = true):eqU x u = eqV y x:=by
 cases y with
 | non=>cases r; rfl
 | bl b=>cases r; rfl
 | int i=>obtain ⟨t,rfl⟩:=r; rfl
 | str z=>obtain ⟨t,rfl⟩:=r; rfl
 | _=>exact absurd (show false = true from f) Bool.false_ne_true
theorem mem_eqAt {A:Around} {s:Shared} {x:V} {v:Value} (rx:RelV x v) (fx:flatV x = true):∀ {xs:List V} {us:List Value},Vals xs us->xs.all flatV = true->∀ u ∈ us,SeqAt.EqAt A s u v (eqU x u)
 | _,_,.nil,_=>fun u hu=>by cases hu
 | y :: xs,u :: us,.cons r t,f=>fun u' hu=>by
  rw [List.all_cons,Bool.and_eq_true] at f
  rcases List.mem_cons.mp hu with rfl | hu
  ·rw [eqU_of r f.1]; exact eqAt_V r rx f.1 fx
  ·exact mem_eqAt rx fx t f.2 u' hu
theorem call_list_of:CallR X (.type "list") (fun xs H Q=>∃ p ys,xs = [.ref p] /\ (SqL X.K H p ys \/ SqT X.K H p ys) /\ ∀ l,H l = none->Q (.ref l) (upd H l (.lst ys))):=by
 intro pins s σ H xs us Q I r h
 obtain ⟨p,ys,rfl,hq,q⟩:=h
 obtain ⟨u,rfl,rx⟩:=vals1 r
 cases rx
 have fin:∀ (its:List Value),Vals ys its->ys.length <= sizeLine->∀ (h':Heap) (c':Nat),(∀ b o',s.heap.get? b = some o'->h'.get? b = some o') ->
   h'.get? s.heap.objs.size = some { cls:=.type "list",dict:=none,data:=.seq its.toArray c',slots:=#[] }->EP X pins σ Q (.ref s.heap.objs.size) { s with heap:=h' }:=fun its r' hz h' c' kp e =>
  ⟨.ref s.heap.objs.size,_,I.laid (t':=s.toks) kp (Nat.le_refl _) (show ObjOk X.prog X.w _ h' _ (.lst ys) from ⟨hz,its,c',r',e⟩),rfl,q _ (I.hok.fresh (Nat.le_refl _))⟩
 rcases hq with hq | hq
 ·obtain ⟨its,r',pl,hz⟩:=I.list hq
  have hlen:=r'.length
  obtain ⟨o,ho,hc,n,hd⟩:=pl.isList
  exact call_list_seq p (.inl rfl) ho hc hd (fun h' c' kp e=>fin its r' hz h' c' kp e) (by simp only [List.size_toArray] <;> lia)
 ·obtain ⟨its,r',pl,hz⟩:=I.tuple hq
  have hlen:=r'.length
  obtain ⟨o,ho,hc,n,hd⟩:=pl
  exact call_list_seq p (.inr rfl) ho hc hd (fun h' c' kp e=>fin its r' hz h' c' kp e) (by simp only [List.size_toArray] <;> lia)
noncomputable def tyV (K:PySem.W.Frag) (T:String) (x:V) (H:Hp):Prop:=match x with
 | .str _=>T = "str"
 | .int _=>T = "int"
 | .ref p=>(T = "list" /\ ∃ xs,SqL K H p xs) \/ (T = "tuple" /\ ∃ o,K.lookup p = some o /\ o.cls = .type "tuple" /\ o.dict = none) \/
   (T = "dict" /\ ((∃ kvs,H p = some (.dK kvs)) \/ ∃ kvs,H p = some (.dT kvs))) \/ (T = "set" /\ ∃ S n,H p = some (.set S n))
 | _=>False
theorem tyV_is {pins:List (Addr × Obj)} {σ:St} {H:Hp} {s:Shared} {T:String} {x:V} {v:Value} (I:Inv X pins σ H s) (r:RelV x v) (ty:tyV X.K T x H) :
  s.TypeIs v T /\ ∀ a,v = .ref a->∃ ob,s.heap.get? a = some ob /\ ob.dict = none:=by
 cases x with
 | str z =>
  obtain ⟨t,rfl⟩:=r
  cases (show T = "str" from ty)
  exact ⟨typeIs_str s z t,fun _ e=>nomatch e⟩
 | int i =>
  obtain ⟨t,rfl⟩:=r
  cases (show T = "int" from ty)
  exact ⟨typeIs_int s i t,fun _ e=>nomatch e⟩
 | ref p =>
  cases r
  rcases ty with ⟨rfl,xs,hq⟩ | ⟨rfl,o,hk,hc,hd⟩ | ⟨rfl,hk⟩ | ⟨rfl,S,n,hk⟩
  ·obtain ⟨its,_,pl,_⟩:=I.list hq
   refine ⟨pl.isList.typeIs,fun a e=>?_⟩
   cases e
   obtain ⟨o,n,e,c,hd,_⟩:=pl
   exact ⟨o,e,hd⟩
  ·refine ⟨⟨o,I.kIn p o hk,hc⟩,fun a e=>?_⟩
   cases e
   exact ⟨o,I.kIn _ o hk,hd⟩
  ·have z:∃ o,s.heap.get? p = some o /\ o.ExactDict:=by
    rcases hk with ⟨kvs,hk⟩ | ⟨kvs,hk⟩
    ·obtain ⟨_,_,_,_,o,_,_,e,ex,_⟩:=I.hok p _ hk
     exact ⟨o,e,ex⟩
    ·obtain ⟨_,_,_,_,o,_,_,e,ex,_⟩:=I.hok p _ hk
     exact ⟨o,e,ex⟩
   obtain ⟨o,e,ex⟩:=z
   refine ⟨⟨o,e,ex.1⟩,fun a e2=>?_⟩
   cases e2
   exact ⟨o,e,ex.2.1⟩
  ·obtain ⟨o,_,_,_,e,ex,_⟩:=I.hok p _ hk
   refine ⟨⟨o,e,ex.1⟩,fun a e2=>?_⟩
   cases e2
   exact ⟨o,e,ex.2.1⟩
 | _=>exact False.elim ty
noncomputable def tBM0 (K:PySem.W.Frag) (T:String) (r:V->List V->Hp->VK->Prop) (to:TE):TE:=fun σ H Q=>to σ H fun x H1=>tyV K T x H1 /\ r x [] H1 Q
noncomputable def tBM (K:PySem.W.Frag) (T:String) (r:V->List V->Hp->VK->Prop) (to:TE) (t:TA):TE:=fun σ H Q=>to σ H fun x H1=>tyV K T x H1 /\ t σ H1 fun xs H2=>r x xs H2 Q
variable {o e:Expr} {es:List Expr} {to:TE} {t:TA} {name:Str} {apos cpos:Pos} {T id:String} {r:V->List V->Hp->VK->Prop}
theorem pe_bm0 (pa:PlainAttrs T) (slot:Slot T name id) (hty:typeOf (.builtin id) = pure (.type "method_descriptor")) (hm:MtR X id r) (ho:PE X o to)
  (hbase:attributeBase o name X.env (eval o X.env) = eval o X.env:=by rfl) (hline:(apos.endLine == cpos.line) = true:=by rfl):PE X (.Call (.Attribute o name apos) [] [] cpos) (tBM0 X.K T r to):=by
 intro pins s σ H Q I h
 refine wpAny_Call_method0_late hbase hline (thn (ho pins s σ H _ I h) fun v s1 ⟨x,H1,I1,r1,ty,q1⟩=>?_)
 obtain ⟨h1,h2⟩:=tyV_is I1 r1 ty
 exact ⟨T,id,pa,slot,hty,h1,h2,Calls.callWith_builtin rfl (PySem.evalArgs_none (hm pins s1 σ H1 x [] v [] Q I1 r1 .nil q1))⟩
theorem pe_bm (pa:PlainAttrs T) (slot:Slot T name id) (hty:typeOf (.builtin id) = pure (.type "method_descriptor")) (hm:MtR X id r) (ho:PE X o to) (ha:PA X (e :: es) t)
  (hbase:attributeBase o name X.env (eval o X.env) = eval o X.env:=by rfl)
  (hfew:((backTo cpos (starEach (e :: es) X.env)).all (fun x=>!x.1) && (backToKw cpos (keywordEach [] X.env)).all (fun x=>x.1.isSome)
   && decide ((e :: es).length + ([]:List Keyword).length + (if ([]:List Keyword).isEmpty then 0 else 1) < 30)) = true:=by rfl)
  (hline:(apos.endLine == cpos.line) = true:=by rfl) (hs:starEach (e :: es) X.env = (false,eval e X.env) :: starEach es X.env:=by rfl) (hplain:(backTo cpos (starEach es X.env)).any (·.1) = false:=by rfl) :
  PE X (.Call (.Attribute o name apos) (e :: es) [] cpos) (tBM X.K T r to t):=by
 intro pins s σ H Q I h
 refine wpAny_Call_method_late hbase hfew hline rfl (thn (ho pins s σ H _ I h) fun v s1 ⟨x,H1,I1,r1,ty,q1⟩=>?_)
 obtain ⟨h1,h2⟩:=tyV_is I1 r1 ty
 refine ⟨T,id,pa,slot,hty,h1,h2,?_⟩
 have hA:=ha cpos pins s1 σ H1 _ I1 q1
 rw [hs] at hA ⊢
 refine Calls.callWith_builtin (by show (false || (backTo cpos (starEach es X.env)).any (·.1)) = false; rw [hplain] <;> rfl) (Calls.evalArgs_plain ?_)
 exact thn hA fun us s2 ⟨vs,H2,I2,r2,q2⟩=>hm pins s2 σ H2 x vs v us Q I2 r1 r2 q2
/- xs.append(e),list.index on a module's tuple .. are MtR facts of 06m -/
end
end L2
namespace L2
open PySem PySem.Spec PyProof.Rows
noncomputable def MtM (X:Cx) (id:String) (r:V->List V->Hp->VK->Prop):Prop :=
 ∀ (pins:List (Addr × Obj)) (s:Shared) (σ:St) (H:Hp) (x:V) (xs:List V) (v:Value) (us:List Value) (Q:VK),Inv X pins σ H s->RelV x v->Vals xs us->r x xs H Q ->
  wpAny (model X.prog X.w) X.A (call (.builtin id) (v :: us)) (EP X pins σ Q) X.xe s
theorem Vals.one:∀ {x:V} {us:List Value},Vals [x] us->∃ u,us = [u] /\ RelV x u
 | _,_,.cons r .nil=>⟨_,rfl,r⟩
theorem Vals.zero:∀ {us:List Value},Vals [] us->us = []
 | _,.nil=>rfl
theorem Vals.dropLast {xs:List V} {us:List Value} (h:Vals xs us):Vals xs.dropLast us.dropLast:=by
 induction h with
 | nil=>exact .nil
 | cons r t ih =>
  cases t with
  | nil=>exact .nil
  | cons q t'=>exact .cons r ih
theorem Vals.rep {xs:List V} {us:List Value} (h:Vals xs us):∀ k:Nat,Vals (List.replicate k xs).flatten (List.replicate k us).flatten
 | 0=>.nil
 | k + 1=>by
  rw [List.replicate_succ,List.replicate_succ,List.flatten_cons,List.flatten_cons]
  exact Vals.append h (Vals.rep h k)
theorem erase_last {α:Type} (l:List α):l.eraseIdx (l.length - 1) = l.dropLast:=by
 induction l with
 | nil=>rfl
 | cons a r ih =>
  cases r with
  | nil=>rfl
  | cons b r =>
   have e:(a :: b :: r).length - 1 = ((b :: r).length - 1) + 1:=by
    have h1:(a :: b :: r).length = r.length + 2:=rfl
    have h2:(b :: r).length = r.length + 1:=rfl
    lia
   rw [e,List.eraseIdx_cons_succ,ih]
   all_goals rfl
theorem foldl_rep (its:List Value):∀ (k:Nat) (acc:List Value),
  List.foldl (fun x1 x2=>x1 ++ x2) acc.toArray (List.replicate k its.toArray) = (acc ++ (List.replicate k its).flatten).toArray
 | 0,acc=>by simp
 | k + 1,acc=>by
  have e:acc.toArray ++ its.toArray = (acc ++ its).toArray:=by simp
  have e2:(acc ++ its) ++ (List.replicate k its).flatten = acc ++ (List.replicate (k + 1) its).flatten:=by
   rw [List.replicate_succ,List.flatten_cons,List.append_assoc]
  rw [<- e2,<- foldl_rep its k (acc ++ its),<- e,List.replicate_succ,List.foldl_cons]
section
variable {X:Cx} {pins:List (Addr × Obj)} {σ:St} {H:Hp} {s:Shared} {l b:Addr} {xs ys zs:List V}
theorem Inv.lset {its its':List Value} {n:Nat} {f:Array Value->Array Value} {t':Nat} (I:Inv X pins σ H s) (hH:H l = some (.lst xs))
  (e:s.heap.get? l = some { cls:=.type "list",data:=.seq its.toArray n }) (hf:f its.toArray = its'.toArray) (hv:Vals ys its') (hz:ys.length <= sizeLine) :
  Inv X pins σ (upd H l (.lst ys)) { s with heap:=s.heap.update l (Obj.mapSeq f),toks:=t' }:=by
 have q:=PySem.IsL.update e f
 rw [hf] at q
 refine I.write (x:=l) (e:=l) (by rw [hH]; exact trivial) (.inl rfl) (fun b' u hb hu=>(Heap.get?_update_other s.heap (Obj.mapSeq f) (Ne.symm hb)).trans hu) ⟨_,q⟩ ?_
 exact ⟨hz,its',_,hv,q⟩
theorem Inv.lnew {its:List Value} {t':Nat} (I:Inv X pins σ H s) (hv:Vals ys its) (hz:ys.length <= sizeLine) :
  Inv X pins σ (upd H s.heap.objs.size (.lst ys)) { s with heap:=s.heap.push { cls:=.type "list",data:=.seq its.toArray },toks:=t' } :=
 I.laid (fun _ _ q=>Heap.get?_push_of_some _ q) (Nat.le_refl _) ⟨hz,its,0,hv,Heap.get?_push_size _ rfl⟩
theorem Inv.fresh (I:Inv X pins σ H s):H s.heap.objs.size = none:=I.hok.fresh (Nat.le_refl _)
theorem Inv.lstM (I:Inv X pins σ H s) (hH:H l = some (.lst xs)):xs.length <= sizeLine /\ ∃ (its:List Value) (n:Nat),Vals xs its /\ xs.length = its.length /\ s.heap.get? l = some { cls:=.type "list",data:=.seq its.toArray n }:=by
 obtain ⟨z,its,n,r,e⟩:=I.hok l _ hH
 exact ⟨z,its,n,r,r.length,e⟩
theorem notLongL {n:Nat} (h:n <= sizeLine):Builtin.List.listTooLong n = false:=by
 unfold Builtin.List.listTooLong
 exact decide_eq_false (by lia)
end
section
variable {X:Cx}
noncomputable def rAppend:V->List V->Hp->VK->Prop:=fun x vs H Q=>∃ l xs y,x = .ref l /\ vs = [y] /\ H l = some (.lst xs) /\ xs.length < sizeLine /\ Q .non (upd H l (.lst (xs ++ [y])))
theorem mt_append:MtM X "list.append" rAppend:=by
 intro pins s σ H x vs v us Q I rx rv h
 obtain ⟨l,xs,y,rfl,rfl,hH,hz,q⟩:=h
 cases rx
 obtain ⟨u,rfl,ru⟩:=rv.one
 obtain ⟨z,its,n,r,hl,e⟩:=I.lstM hH
 refine call_meets F.slot_list_append ⟨_,e,rfl⟩ F.entry_list_append (F.args_list_append_2 _ _) (PySem.list_append l its.toArray n u (by rw [List.size_toArray]; lia)) ⟨e,?_⟩
 refine ⟨.non,_,I.lset (its':=its ++ [u]) hH e (by simp) (r.append (.cons ru .nil)) ?_,rfl,q⟩
 rw [List.length_append,List.length_singleton]
 lia
noncomputable def rPop:V->List V->Hp->VK->Prop:=fun x vs H Q=>∃ l xs y,x = .ref l /\ vs = [] /\ H l = some (.lst xs) /\ xs[xs.length - 1]? = some y /\ Q y (upd H l (.lst xs.dropLast))
theorem mt_pop:MtM X "list.pop" rPop:=by
 intro pins s σ H x vs v us Q I rx rv h
 obtain ⟨l,xs,y,rfl,rfl,hH,hy,q⟩:=h
 cases rx
 have hus:=rv.zero
 subst hus
 obtain ⟨z,its,n,r,hl,e⟩:=I.lstM hH
 obtain ⟨u,hu,ru⟩:=r.get hy
 have hy':its.toArray[its.toArray.size - 1]? = some u:=by
  show its.toArray[its.length - 1]? = some u
  rw [<- Array.getElem?_toList,<- hl]
  exact hu
 refine call_meets F.slot_list_pop ⟨_,e,rfl⟩ F.entry_list_pop (F.args_list_pop_1 _) (MeetsSeq.list_pop_last l its.toArray n u hy' (by rw [List.size_toArray]; lia)) ⟨e,?_⟩
 refine ⟨y,_,I.lset (its':=its.dropLast) hH e ?_ r.dropLast ?_,ru,q⟩
 ·show its.toArray.eraseIdxIfInBounds (its.toArray.size - 1) = its.dropLast.toArray
  rw [List.size_toArray,List.eraseIdxIfInBounds_toArray,erase_last]
 ·rw [List.length_dropLast]
  lia
noncomputable def rCat:R2:=fun x y H Q=>∃ l b xs zs,x = .ref l /\ y = .ref b /\ H l = some (.lst xs) /\ H b = some (.lst zs) /\ xs.length + zs.length <= sizeLine /\ ∀ p,H p = none->Q (.ref p) (upd H p (.lst (xs ++ zs)))
theorem op_cat:OpR X (binaryOp .Add) rCat:=by
 intro pins s σ H x y v u Q I rx ry h
 obtain ⟨l,b,xs,zs,rfl,rfl,hH,hB,hz,q⟩:=h
 cases rx
 cases ry
 obtain ⟨z,its,n,r,hl,e⟩:=I.lstM hH
 obtain ⟨z2,its2,n2,r2,hl2,e2⟩:=I.lstM hB
 refine PySem.P.add_list e e2 ?_ (by rw [List.size_toArray,List.size_toArray]; lia)
 have ea:its.toArray ++ its2.toArray = (its ++ its2).toArray:=by simp
 rw [ea]
 exact ⟨.ref _,_,I.lnew (t':=s.toks) (r.append r2) (by rw [List.length_append]; lia),rfl,q _ I.fresh⟩
noncomputable def rRep:R2:=fun x y H Q=>∃ l k xs,x = .ref l /\ y = .int k /\ H l = some (.lst xs) /\ -(2 ^ 63) <= k /\ k < 2 ^ 63 /\ xs.length * k.toNat <= sizeLine /\
 ∀ p,H p = none->Q (.ref p) (upd H p (.lst (List.replicate k.toNat xs).flatten))
theorem len_rep {α:Type} (xs:List α) (k:Nat):(List.replicate k xs).flatten.length = k * xs.length:=by
 induction k with
 | zero=>simp
 | succ k ih=>rw [List.replicate_succ,List.flatten_cons,List.length_append,ih,Nat.succ_mul,Nat.add_comm]
theorem op_rep:OpR X (binaryOp .Mult) rRep:=by
 intro pins s σ H x y v u Q I rx ry h
 obtain ⟨l,k,xs,rfl,rfl,hH,h1,h2,hz,q⟩:=h
 cases rx
 obtain ⟨t,rfl⟩:=ry
 obtain ⟨z,its,n,r,hl,e⟩:=I.lstM hH
 have hlen:its.toArray.size * k.toNat <= sizeLine:=by rw [List.size_toArray,<- hl]; exact hz
 have hcap:¬ its.toArray.size * k.toNat > (2 ^ 63 - 1) / 8:=by
  have:(sizeLine:Nat) <= (2 ^ 63 - 1) / 8:=by decide
  lia
 have hfit:¬ (!Builtin.List.listFitsIndex k) = true:=by
  rw [fitsIndex_both h1 h2]
  exact Bool.false_ne_true
 have hlong:¬ Builtin.List.listTooLong (its.toArray.size * k.toNat) = true:=by
  rw [notLongL hlen]
  exact Bool.false_ne_true
 have hnew:List.foldl (fun x1 x2=>x1 ++ x2) #[] (List.replicate (if its.toArray.isEmpty = true then 0 else k.toNat) its.toArray) = (List.replicate k.toNat its).flatten.toArray:=by
  have f0:∀ m:Nat,List.foldl (fun x1 x2=>x1 ++ x2) #[] (List.replicate m its.toArray) = (List.replicate m its).flatten.toArray:=fun m=>by
   have:=foldl_rep its m []
   rw [List.nil_append] at this
   exact this
  rw [f0]
  cases its with
  | nil=>simp
  | cons a r'=>rw [if_neg (by simp)]
 refine wpAny_binaryOp_repeat_ref (T:="list") (U:="int") (by decide) ⟨_,e,rfl⟩ (fun s'=>typeIs_int s' k t) noFill_list_mul F.fills_int_mul F.slot_int_rmul repeat_list F.slot_int_index.lookup
  (call_meets F.slot_int_rmul (typeIs_int s k t) F.entry_int_rmul (F.args_int_rmul_2 _ _) (int___rmul___int_list k t l its.toArray n)
   ⟨e,rfl,⟨_,e,rfl⟩,call_meets F.slot_list_mul ⟨_,e,rfl⟩ F.entry_list_mul (F.args_list_mul_2 _ _) (AutoListH.list___mul___list_int_3 l its.toArray n k t hfit hcap hlong) ⟨e,?_⟩⟩)
 rw [hnew]
 exact ⟨.ref _,_,I.lnew (t':=s.toks) (r.rep k.toNat) (by rw [len_rep,Nat.mul_comm]; exact hz),rfl,q _ I.fresh⟩
end
section
variable {prog:Program} {w:World} {A:Around} {E:Value->Shared->Prop} {s:Shared}
end
section
variable {X:Cx}
end
end L2
namespace Att
open PySem PySem.W PySem.Calls PyProof.Rows
theorem ints_of_wellAll {P:Params} {h:Heap}:∀ (ns:List Int) (vs:List Value),WellAll P h vs (ns.map WData.int)->IntsAre vs ns:=by
 intro ns
 induction ns with
 | nil =>
  intro vs w
  rw [List.map_nil] at w
  cases w
  exact .nil
 | cons n ns ih =>
  intro vs w
  rw [List.map_cons] at w
  cases w with
  | cons a b =>
   cases a
   exact .cons _ _ (ih _ b)
theorem script_of {l:OpenLaw} {n:Nat} (hn:l.most = some n) {P:Params} {h:Heap} {args:List WData} {vals:List Value}
  (hpre:l.row.toRowW.claim.pre args = true) (hwl:WellAll P h vals args) :
  ∃ a vs ns,vals = [Value.ref a] /\ args = [WData.list (ns.map WData.int)] /\ h.get? a = some { cls:=.type "list",data:=.seq vs.toArray } /\ IntsAre vs ns /\ ns.length <= n:=by
 have hsh:WShape.hasAll [] args [.list .int] = true:=(pre_splitW hpre).1
 have hc:l.pre.holds [] { args:=args } = true:=(pre_splitW hpre).2
 obtain ⟨d,r,rfl,h1,h2⟩:=hasAllW_cons hsh
 obtain rfl:=hasAllW_nil h2
 obtain ⟨xs,rfl,h3⟩:=hasW_list h1
 obtain ⟨ns,rfl⟩:=items_int h3
 have hlen:ns.length <= n:=by
  unfold OpenLaw.pre at hc
  have h4:(WTm.not (.lt (.lit (.int (n:Int))) (.len (.arg 0)))).holds [] { args:=[.list (ns.map .int)] } = true:=by
   have h4:=(holds_andW hc).1
   rw [hn] at h4
   exact h4
  have h5:=condW_of h4 (w_not (w_lt w_lit (w_len_list (w_arg rfl))))
  rw [List.length_map] at h5
  refine Nat.le_of_not_lt fun q=>?_
  have q':(n:Int) < ((ns.length:Nat):Int):=by lia
  first
   | (rw [decide_eq_true q'] at h5; exact absurd h5 (by decide))
   | (simp at h5; lia)
 cases hwl with
 | cons w1 w2 =>
  cases w2
  cases w1 with
  | list ho hall=>exact ⟨_,_,ns,rfl,rfl,ho,ints_of_wellAll ns _ hall,hlen⟩
theorem post_true (l:OpenLaw) (args:List WData):l.row.toRowW.claim.post args (.bool true) args = true :=
 postW_of (r:=l.row.toRowW) (X:=(true == true))
  (show WShape.has [] (.bool true) .bool = true by first | rfl | decide | simp [WShape.has,WShape.arms,WShape.armsAll])
  (show (WTm.eq .res (.lit (.bool true))).value [] { args:=args,res:=some (.bool true),after:=args } = some (.bool (true == true)) from w_eq_bool (w_res rfl) w_lit) rfl
theorem attach_call {l:OpenLaw} {n:Nat} {q:Program} {loose:List Str} {XP:(Str->Option Value)->Heap->Prop} {YP:World->Heap->Prop} {d:DefRec}
  (hn:l.most = some n) (hdf:d.params.defaults = [])
  (call:∀ (w:World) (s₀ s₁:Shared) (mg mb:Str->Option Value) (fa:Addr) (o:Obj) (pm cd doc:Value) (a:Addr) (vs:List Value) (ns:List Int),
   Ground q loose [] XP w s₀ mg mb s₁.heap->YP w s₁.heap ->
   s₁.heap.get? fa = some o->o.data = .func (docDef d.name d.params d.body d.scope pm cd doc)->s₁.heap.CodeRec cd d.name->mg d.name = some (.ref fa) ->
   s₁.heap.get? a = some { cls:=.type "list",data:=.seq vs.toArray }->IntsAre vs ns->ns.length <= n->s₁.gens = #[] ->
   codeAny (model l.prog w) callerA (.call (.ref fa) ⟨[.ref a],[]⟩) (fun r s'=>r = .ok (.ret (.bool true)) /\ OldK s₁.heap s'.heap /\ s'.os = s₁.os /\ AllBare s'.gens) s₁) :
  WalkO q loose XP YP l.row.toRowW d [] (fun f vs=>PySem.call f vs):=by
 intro w s₀ s₁ mg mb G Y fa o pm cd doc dV kV ho hd hcd hD hmg hg args vals as hpre hlay hrd hwl hlo
 obtain rfl:dV = .none:=Dflts.none hD hdf
 obtain rfl:kV = .none:=Dflts.noKw hD
 obtain ⟨a,vs,ns,rfl,rfl,hobj,hints,hlen⟩:=script_of hn hpre hwl
 refine enter_call (codeAny_mono (call w s₀ s₁ mg mb fa o pm cd doc a vs ns G Y ho (fd_plain hd) hcd hmg hobj hints hlen hg) fun r s' hq=>?_)
 obtain ⟨rfl,h2,h3,h4⟩:=hq
 exact ⟨.inl ⟨.bool true,.bool true,[],rfl,fun _=>rfl,.bool true,post_true l _,fun _=>⟨List.Pairwise.nil,fun _ hm=>(nomatch hm)⟩⟩,h2,h3,h4⟩
section
variable {prog:Program} {w:World} {A:Around} {E:Value->Shared->Prop} {s:Shared} {K:Frag}
end
end Att
namespace L2
open PySem PySem.Spec PyProof.Rows
theorem vals_ints:∀ {vs:List Value} {ns:List Int},IntsAre vs ns->Vals (ns.map V.int) vs
 | _,_,.nil=>.nil
 | _,_,.cons n t h=>.cons ⟨t,rfl⟩ (vals_ints h)
noncomputable def Only (H:Hp):Prop:=∀ b,H b = none \/ ∃ o xs,H b = some (.frz o (.lst xs))
theorem law_call {P:Program} {w:World} {K:PySem.W.Frag} {mg mb:Str->Option Value} {CX:CXT} {k:Nat} {fa a:Addr} {fd:FuncData} {x:Str} {sp:Sp} {s₁:Shared} {vs:List Value} {ns:List Int}
  (KX:K.In s₁.heap) (hns:s₁.heap.Ns mainGlobals mg) (hb:s₁.heap.Ns builtinsNs mb) (hbb:∀ x:Str,x ≠ "__name__"->mb x = bootBuiltins x) (hlim:s₁.heap.NoLimit) (hg:s₁.gens = #[])
  (ha:s₁.heap.get? a = some { cls:=.type "list",data:=.seq vs.toArray }) (hi:IntsAre vs ns) (hl:ns.length <= sizeLine) (hr:Room k callerA)
  (F:∀ base:Heap,K.In base->base.Ns mainGlobals mg->FnOk P w K mg base CX k fa fd [x] sp) (hbind:∀ (s:Shared) (u:Value),BindsTo s fd ⟨[u],[]⟩ [(x,u)])
  (hsp:∀ H:Hp,Only H->SqL K H a (ns.map V.int)->sp [.ref a] H (fun v _=>v = .bl true) fun _ _ _=>False)
  (hCX:∀ H e s',CX [] H s₁ (fun _ _ _=>False) e s'->False) :
  codeAny (model P w) callerA (.call (.ref fa) ⟨[.ref a],[]⟩) (fun r s'=>r = .ok (.ret (.bool true)) /\ OldK s₁.heap s'.heap /\ s'.os = s₁.os /\ AllBare s'.gens) s₁:=by
 have rv:=vals_ints hi
 have lenV:=hi.length
 have core:∀ H:Hp,Only H->SqL K H a (ns.map V.int)->HOk P w H s₁.heap->(∀ b,H b ≠ none->b = a)->(H a ≠ none->K.lookup a = none) ->
   codeAny (model P w) callerA (.call (.ref fa) ⟨[.ref a],[]⟩) (fun r s'=>r = .ok (.ret (.bool true)) /\ OldK s₁.heap s'.heap /\ s'.os = s₁.os /\ AllBare s'.gens) s₁:=by
  intro H hO hS hok hA hK
  have base_of:∀ {b:Addr} {o:Obj},s₁.heap.get? b = some o->H b = none->(hidT s₁.heap H).get? b = some o:=fun e n=>hidT_get e n
  have noA:∀ {b:Addr} {o:Obj} {es:Array DictEntry} {ep:Nat},s₁.heap.get? b = some o->o.data = .dict es ep->H b = none:=fun {b o es ep} e d=>by
   cases q:H b with
   | none=>rfl
   | some u =>
    have e':b = a:=hA b (by rw [q]; simp)
    subst e'
    rw [ha] at e; cases e
    have d':Data.seq vs.toArray _ = Data.dict es ep:=d
    cases d'
  have nsK:∀ {b:Addr} {m:Str->Option Value},s₁.heap.Ns b m->(hidT s₁.heap H).Ns b m:=fun {b m} ⟨o,es,ep,e,d,r⟩=>⟨o,es,ep,base_of e (noA e d),d,r⟩
  have hKb:K.In (hidT s₁.heap H):=fun b o e=>base_of (KX b o e) (by
   cases q:H b with
   | none=>rfl
   | some u =>
    have e':b = a:=hA b (by rw [q]; simp)
    subst e'
    rw [hK (by rw [q]; simp)] at e; cases e)
  have hM:Mod K mg (hidT s₁.heap H):=⟨hKb,nsK hns,⟨mb,nsK hb,hbb⟩,let ⟨mc,h1,h2⟩:=hlim; ⟨mc,nsK h1,h2⟩⟩
  have e0:Env0 P w K mg (hidT s₁.heap H) callerA [] s₁ H:=⟨rfl,hM,fun b o e=>of_hidT e,Nat.le_of_eq (hidT_size _ _),trivial,fun b hb=>absurd (show b ∈ ([]:List Addr) from hb) (by simp),hok,.of_eq hg⟩
  refine codeAny_mono ((F _ hKb (nsK hns)).run callerA [] s₁ H ⟨[.ref a],[]⟩ [.ref a] [.ref a] _ _ hr e0 (hbind s₁ (.ref a)) (.cons rfl .nil) (hsp H hO hS)) fun r s' h=>?_
  cases r with
  | error e=>exact (hCX H e s' h).elim
  | ok fl =>
   cases fl with
   | next=>exact False.elim h
   | brk=>exact False.elim h
   | cont=>exact False.elim h
   | ret u =>
    obtain ⟨v,H',os,bare,un,hok',r',q⟩:=h
    have q':v = .bl true:=q
    subst q'
    obtain rfl:u = Value.bool true:=r'
    refine ⟨rfl,OldK.of_keep fun b o e=>?_,os,bare⟩
    cases q:H b with
    | none=>exact un.keep b o e q (by intro z; exact absurd (show b ∈ ([]:List Addr) from z) (by simp)) (by simp)
    | some u =>
     rcases hO b with z | ⟨ob,xs,z⟩
     ·rw [q] at z; cases z
     ·have z2:=un.frzs b ob _ z
      obtain ⟨e1,_⟩:=hok b _ z
      obtain ⟨e2,_⟩:=hok' b _ z2
      rw [e] at e1; cases e1
      exact e2
 cases hk:K.lookup a with
 | some o =>
  have e:=KX a o hk
  rw [ha] at e
  cases e
  refine core (fun _=>none) (fun _=>.inl rfl) (.inr ⟨_,vs.toArray,_,hk,rfl,rfl,rfl,by rw [List.size_toArray,lenV]; exact hl,by simpa using rv⟩) (fun b u z=>by have z':(none:Option HO) = some u:=z; cases z') (fun b z=>absurd rfl z) fun z=>absurd rfl z
 | none =>
  refine core (fun b=>if b = a then some (.frz { cls:=.type "list",data:=.seq vs.toArray } (.lst (ns.map V.int))) else none) (fun b=>?_) (.inl (.inr ⟨{ cls:=.type "list",data:=.seq vs.toArray },if_pos rfl⟩)) (fun b u z=>?_) (fun b z=>?_) fun _=>hk
  ·by_cases hb:b = a
   ·exact .inr ⟨_,_,if_pos hb⟩
   ·exact .inl (if_neg hb)
  ·by_cases hb:b = a
   ·have z':=(if_pos hb).symm.trans z
    cases z'
    subst hb
    exact ⟨ha,by rw [List.length_map]; exact hl,vs,_,rv,ha⟩
   ·have z':=(if_neg hb).symm.trans z
    cases z'
  ·by_cases hb:b = a
   ·exact hb
   ·exact absurd (if_neg hb) z
end L2
namespace L2
open PySem PySem.Spec PyProof.Rows
theorem walk_of {l:PySem.W.OpenLaw} {n k:Nat} {q:Program} {loose:List Str} {XP:(Str->Option Value)->Heap->Prop} {YP:World->Heap->Prop} {d:DefRec} {K:Params->PySem.W.Frag} {CX:World->CXT} {sp:World->Sp} {x:Str}
  (hn:l.most = some n) (hn2:n <= sizeLine) (hdf:d.params.defaults = []) (hr:Room k callerA)
  (hY:∀ (w:World) (h:Heap),YP w h->(K w.params).In h)
  (F:∀ (w:World) (mg:Str->Option Value) (fa:Addr) (h:Heap),(K w.params).In h->h.Ns mainGlobals mg->mg d.name = some (.ref fa) ->
   ∃ fd:FuncData,(∀ (s:Shared) (u:Value),BindsTo s fd ⟨[u],[]⟩ [(x,u)]) /\
    ∀ base:Heap,(K w.params).In base->base.Ns mainGlobals mg->FnOk l.prog w (K w.params) mg base (CX w) k fa fd [x] (sp w))
  (hsp:∀ (w:World) (H:Hp) (a:Addr) (ns:List Int),ns.length <= n->Only H->SqL (K w.params) H a (ns.map V.int)->sp w [.ref a] H (fun v _=>v = .bl true) fun _ _ _=>False)
  (hCX:∀ (w:World) (H:Hp) (s:Shared) (e:Value) (s':Shared),CX w [] H s (fun _ _ _=>False) e s'->False) :
  PySem.W.WalkO q loose XP YP l.row.toRowW d [] (fun f vs=>PySem.call f vs):=by
 refine Att.attach_call hn hdf fun w s₀ s₁ mg mb fa o pm cd doc a vs ns G Y ho hd hcd hmg hobj hints hlen hg=>?_
 have KX:=hY w _ Y
 obtain ⟨fd,hb,hF⟩:=F w mg fa _ KX G.T.g hmg
 exact law_call KX G.T.g G.T.b G.T.builtins G.T.nolimit hg hobj hints (Nat.le_trans hlen hn2) hr hF hb (fun H hO hS=>hsp w H a ns hlen hO hS) fun H e s'=>hCX w H s₁ e s'
theorem walk_ofK {l:PySem.W.OpenLaw} {n k:Nat} {q:Program} {loose:List Str} {XP:(Str->Option Value)->Heap->Prop} {YP:World->Heap->Prop} {d:DefRec} {K:Params->PySem.W.Frag} {CX:CXT} {sp:PySem.W.Frag->Sp} {x:Str}
  (hn:l.most = some n) (hn2:n <= sizeLine) (hdf:d.params.defaults = []) (hr:Room k callerA)
  (hY:∀ (w:World) (h:Heap),YP w h->(K w.params).In h)
  (F:∀ (w:World) (mg:Str->Option Value) (fa:Addr) (h:Heap),(K w.params).In h->h.Ns mainGlobals mg->mg d.name = some (.ref fa) ->
   ∃ fd:FuncData,(∀ (s:Shared) (u:Value),BindsTo s fd ⟨[u],[]⟩ [(x,u)]) /\
    ∀ base:Heap,(K w.params).In base->base.Ns mainGlobals mg->FnOk l.prog w (K w.params) mg base CX k fa fd [x] (sp (K w.params)))
  (hsp:∀ (K:PySem.W.Frag) (H:Hp) (a:Addr) (ns:List Int),ns.length <= n->Only H->SqL K H a (ns.map V.int)->sp K [.ref a] H (fun v _=>v = .bl true) fun _ _ _=>False)
  (hCX:∀ (H:Hp) (s:Shared) (e:Value) (s':Shared),CX [] H s (fun _ _ _=>False) e s'->False) :
  PySem.W.WalkO q loose XP YP l.row.toRowW d [] (fun f vs=>PySem.call f vs) :=
 walk_of (K:=K) (CX:=fun _=>CX) (sp:=fun w=>sp (K w.params)) hn hn2 hdf hr hY F (fun w H a ns h1 h2 h3=>hsp (K w.params) H a ns h1 h2 h3) fun _ H s e s'=>hCX H s e s'
end L2
/- THE LAST THEOREM (shape; LID,My.* are yours):
   My.Adr: a structure of the addresses that your layer names (classes,functions); My.Txt K t: a structure (Prop) of the equations over K;
   My.txt_mk:{K} {implicit addresses ..} (e1:nsIn K mainGlobals "law" = some (some (.ref f))) (e2:K.lookup f = some ⟨oc,od,.func (fnOf "law" "law" params body scope dV kV doc pm an cdv ct),sl⟩) (e3:codeIn K cdv "law" = true) ..:∃ t,My.Txt K t
set_option maxRecDepth 100000 in
set_option maxHeartbeats 0 in
theorem PySem.Challenge.cw_LID_holds : PySem.Challenge.rw_LID.Holds := by
 w_on; o_law; k_head; (case hw=>w_witness2)
 k_fill
 refine L2.walk_of (l:=PySem.Challenge.rw_LID) (n:=63) (k:=40) (x:="script") (CX:=fun w=>..) (sp:=fun _=>My.sp_law) rfl (by decide) rfl ⟨rfl,by decide,by decide⟩ (fun w h Y=>PySem.W.kIn_of Y) ?F ?S ?C
 case F =>
  intro w mg fa h KX G hmg
  have T:∃ t,My.Txt (L2.KOf KX) t:=by
   dsimp only [L2.KOf]                          -- K must stand as «<heap const> w.params» for k_is
   refine' My.txt_mk ?e1 ?e2 ?e3 ..
   (case e1=>PySem.W.k_is)                    -- in the order: a name->its address->its object->its parts
   (case e2=>PySem.W.k_is)
   ..
  obtain ⟨t,T⟩:=T
  have e0:=hmg.symm.trans (PySem.W.mg_of KX G T.law)
  cases e0                                       -- fa is the law's own address
  exact ⟨_,fun s u=>.of_eq rfl,fun base kb nb=>My.law_fn T kb nb⟩     -- if «.of_eq rfl» comes too early: refine' ⟨_,?b,fun base kb nb=>My.law_fn T kb nb⟩; exact fun s u=>.of_eq rfl
 case S=>exact fun w H a ns hl hO hS=>..
 case C=>exact ..
(the tactic k_is has no namespace: write k_is) -/
namespace L2
open PySem PySem.Spec PyProof.Rows
noncomputable def defArgs (s:Stmt):Arguments:=match s with
 | .FunctionDef _ a _ _ _ _ _ _ _ _=>a
 | _=>{ posonlyargs:=[],args:=[],vararg:=none,kwonlyargs:=[],kw_defaults:=[],kwarg:=none,defaults:=[] }
noncomputable def defBody (s:Stmt):List Stmt:=match s with
 | .FunctionDef _ _ b _ _ _ _ _ _ _=>b
 | _=>[]
noncomputable def defScope (s:Stmt):Scope:=match s with
 | .FunctionDef _ _ _ _ _ _ sc _ _ _=>sc
 | _=>{ kind:=.function,names:=[],isGenerator:=false,isCoroutine:=false }
noncomputable abbrev CX0:CXT:=fun _ _ _ _ _ _=>False
noncomputable abbrev E0:XK:=fun _ _ _=>False
theorem pass0 {X:Cx}:Passes CX0 X E0:=fun _ _ _ _ _ _ _ h=>h.elim
structure Fun (K:PySem.W.Frag) (x qual:Str) (st:Stmt) (f:Addr) (fd:FuncData):Prop where
 ex:∃ (oc:Value) (od:Option Addr) (kV doc pm:Value) (an:Option Addr) (cdv ct:Value) (osl:Array (Option Value)),
  fd = PySem.W.fnOf x qual (defArgs st) (defBody st) (defScope st) .none kV doc pm an cdv ct /\ K.lookup f = some ⟨oc,od,.func fd,osl⟩ /\ PySem.W.codeIn K cdv qual = true
 kp:PySem.W.keepIn K (.ref f) = true
section
variable {P:Program} {w:World} {K:PySem.W.Frag} {mg:Str->Option Value} {base:Heap}
theorem Fun.ok {x qual:Str} {st:Stmt} {f:Addr} {fd:FuncData} {N ps:List Str} {k:Nat} {sp:Sp} (F:Fun K x qual st f fd) (S:FnScope N ps (defScope st)) (len:∀ vs H Q E,sp vs H Q E->vs.length = ps.length)
  (hbody:∀ (cdv:Value) (A:Around) (outer:List Env) (s:Shared) (H:Hp) (vs:List V) (Q:VK) (E:XK),Room k (A.deeper (envOfC qual (defScope st) s.heap.objs.size f cdv))->sp vs H Q E ->
   ∃ t,PSs (cxOf CX0 P w K mg base N qual (defScope st) f cdv A outer s H E).nox (defBody st) t /\ t { nx:=fun _ H'=>Q .non H',rt:=Q } (start N vs) H):FnOk P w K mg base CX0 (k + 1) f fd ps sp:=by
 obtain ⟨oc,od,kV,doc,pm,an,cdv,ct,osl,rfl,lk,hcd⟩:=F.ex
 refine fn_of lk hcd S len fun A outer s H vs Q E hr hsp=>?_
 obtain ⟨t,h,q⟩:=hbody cdv A outer s H vs Q E hr hsp
 exact ⟨t,h.nox,q⟩
theorem Fun.binds {x qual:Str} {st:Stmt} {f:Addr} {fd:FuncData} {ps:List Str} (F:Fun K x qual st f fd)
  (h:∀ (kV doc pm:Value) (an:Option Addr) (cdv ct:Value) (us:List Value),us.length = ps.length->bindArgs (PySem.W.fnOf x qual (defArgs st) (defBody st) (defScope st) .none kV doc pm an cdv ct) ⟨us,[]⟩ = pure (ps.zip us)):Binds K fd ps []:=by
 obtain ⟨oc,od,kV,doc,pm,an,cdv,ct,osl,rfl,lk,hcd⟩:=F.ex
 exact .all (h kV doc pm an cdv ct)
theorem fun_mk {x qual:Str} {st:Stmt} {f:Addr} {oc:Value} {od an:Option Addr} {osl:Array (Option Value)} {kV doc pm cdv ct:Value} (l:K.lookup f = some ⟨oc,od,.func (PySem.W.fnOf x qual (defArgs st) (defBody st) (defScope st) .none kV doc pm an cdv ct),osl⟩)
  (c:PySem.W.codeIn K cdv qual = true) (k:PySem.W.keepIn K (.ref f) = true):Fun K x qual st f (PySem.W.fnOf x qual (defArgs st) (defBody st) (defScope st) .none kV doc pm an cdv ct):=⟨⟨oc,od,kV,doc,pm,an,cdv,ct,osl,rfl,l,c⟩,k⟩
end
theorem hu_of {A:Around} {k:Nat} (hr:Room k A):A.units + 1 < cLine:=Nat.lt_of_le_of_lt (Nat.add_le_add_left (by decide:1 <= 64) _) hr.units
theorem small1000 {n:Nat} (h:n <= 1000):n < sizeLine:=Nat.lt_of_le_of_lt h (by decide)
section
variable {X:Cx}
theorem pv (i:Nat) {x:Str} {pos:Pos} (hN:X.N[i]? = some x:=by rfl) (hv:Vis X.env.scope x:=by first | exact Or.inl rfl | exact Or.inr (Or.inl rfl) | exact Or.inr (Or.inr rfl)) (hd:(x == ("__debug__":Str)) = false:=by decide)
  (hcd:(x == ("__classdict__":Str)) = false:=by decide):PE X (.Name x pos) (tVar i):=pe_var hN hv hd hcd
end
theorem iteF {A B:Prop} (h:B):if false = true then A else B:=by
 rw [if_neg Bool.false_ne_true]
 exact h
theorem iteT {A B:Prop} (h:A):if true = true then A else B:=by
 rw [if_pos rfl]
 exact h
theorem ite2 {c A B:Prop} [Decidable c] (h1:c->A) (h2:¬ c->B):if c then A else B:=by
 by_cases h:c
 ·rw [if_pos h]
  exact h1 h
 ·rw [if_neg h]
  exact h2 h
noncomputable def Same (H H':Hp):Prop:=∀ b o,H b = some o->H' b = some o
theorem Same.refl (H:Hp):Same H H:=fun _ _ h=>h
theorem Same.trans {H H1 H2:Hp} (a:Same H H1) (b:Same H1 H2):Same H H2:=fun c o h=>b c o (a c o h)
theorem Same.free {H H':Hp} (e:Same H H') {l:Addr} (h:H' l = Option.none):H l = Option.none:=by
 cases q:H l with
 | none=>rfl
 | some o =>
  rw [e l o q] at h
  cases h
theorem Same.seq {K:PySem.W.Frag} {H H':Hp} {a:Addr} {xs:List V} (e:Same H H') (h:SqL K H a xs):SqL K H' a xs:=by
 rcases h with (h | ⟨o,h⟩) | h
 ·exact .inl (.inl (e _ _ h))
 ·exact .inl (.inr ⟨o,e _ _ h⟩)
 ·exact .inr h
section
variable {κ:Type} [DecidableEq κ]
end
end L2
namespace Tc
noncomputable def dv (t b:Int):Int:=if b < 0 then -(Int.gcd t b:Int) else (Int.gcd t b:Int)
theorem fmod_pos {t b:Int} (h:0 < b):0 <= t.fmod b /\ t.fmod b < b:=by
 rw [Int.fmod_eq_emod_of_nonneg _ (Int.le_of_lt h)]
 exact ⟨Int.emod_nonneg _ (by lia),Int.emod_lt_of_pos _ h⟩
theorem fmod_neg {t b:Int} (h:b < 0):b < t.fmod b /\ t.fmod b <= 0:=by
 have e:t.fmod b = -((-t).fmod (-b)):=by
  have h1:=Int.mul_fdiv_add_fmod t b
  have h2:=Int.mul_fdiv_add_fmod (-t) (-b)
  rw [Int.neg_fdiv_neg] at h2
  have h3:-b * t.fdiv b = -(b * t.fdiv b):=Int.neg_mul _ _
  rw [h3] at h2
  lia
 have p:=fmod_pos (t:=-t) (b:=-b) (by lia)
 lia
theorem gcd_fmod (t b:Int):Int.gcd b (t.fmod b) = Int.gcd t b:=by
 have h1:=Int.mul_fdiv_add_fmod t b
 have e:t.fmod b = t + b * (-(t.fdiv b)):=by
  rw [Int.mul_neg]; lia
 rw [e,Int.gcd_comm,Int.gcd_add_mul_left_left]
structure Dv (t₀ b₀ t b:Int):Prop where
 g:Int.gcd t b = Int.gcd t₀ b₀
 p:0 < b₀->0 <= b /\ (b = 0->0 < t)
 n:b₀ < 0->b <= 0 /\ (b = 0->t < 0)
theorem Dv.start {t b:Int} (h:b ≠ 0):Dv t b t b:=⟨rfl,fun p=>⟨Int.le_of_lt p,fun e=>absurd e h⟩,fun p=>⟨Int.le_of_lt p,fun e=>absurd e h⟩⟩
theorem Dv.turn {t₀ b₀ t b:Int} (d:Dv t₀ b₀ t b) (h:b ≠ 0):Dv t₀ b₀ b (t.fmod b):=by
 refine ⟨(gcd_fmod t b).trans d.g,fun p=>?_,fun p=>?_⟩
 ·have q:=d.p p
  have r:=fmod_pos (t:=t) (b:=b) (by lia)
  exact ⟨r.1,fun _=>by lia⟩
 ·have q:=d.n p
  have r:=fmod_neg (t:=t) (b:=b) (by lia)
  exact ⟨r.2,fun _=>by lia⟩
theorem Dv.less {t b:Int} (h:b ≠ 0):(t.fmod b).natAbs < b.natAbs:=by
 rcases Int.lt_or_gt_of_ne h with q | q
 ·have r:=fmod_neg (t:=t) q; lia
 ·have r:=fmod_pos (t:=t) q; lia
theorem Dv.done {t₀ b₀ t b:Int} (d:Dv t₀ b₀ t b) (h:b = 0) (h0:b₀ ≠ 0):t = dv t₀ b₀:=by
 subst h
 have g:=d.g
 rw [Int.gcd_zero_right] at g
 unfold dv
 rw [<- g]
 split
 ·rename_i q; have:=(d.n q).2 rfl; lia
 ·have:=(d.p (by lia)).2 rfl; lia
theorem gcd_pos {t b:Int} (h:b ≠ 0):0 < Int.gcd t b:=Nat.pos_of_ne_zero fun e=>h (Int.gcd_eq_zero_iff.mp e).2
theorem dv_ne {t b:Int} (h:b ≠ 0):dv t b ≠ 0:=by
 have:=gcd_pos (t:=t) h
 unfold dv; split <;> lia
theorem dv_dvd_left (t b:Int):dv t b ∣ t:=by
 have:=Int.gcd_dvd_left t b
 unfold dv; split
 ·exact Int.neg_dvd.mpr this
 ·exact this
theorem dv_dvd_right (t b:Int):dv t b ∣ b:=by
 have:=Int.gcd_dvd_right t b
 unfold dv; split
 ·exact Int.neg_dvd.mpr this
 ·exact this
theorem dv_abs (t b:Int):(dv t b).natAbs = Int.gcd t b:=by
 unfold dv; split <;> lia
theorem dv_le {t b:Int} (h:b ≠ 0):(dv t b).natAbs <= b.natAbs:=by
 rw [dv_abs]
 have:=Int.gcd_dvd_right t b
 exact Nat.le_of_dvd (by lia) (Int.natAbs_dvd_natAbs.mpr this |> (by simpa using ·))
theorem dv_num {t b:Int} (h:b ≠ 0):t.fdiv (dv t b) = (Rat.divInt t b).num:=by
 rw [Int.fdiv_eq_ediv_of_dvd (dv_dvd_left t b),Rat.num_divInt,Int.gcd_comm]
 unfold dv
 rcases Int.lt_or_gt_of_ne h with q | q
 ·rw [if_pos q,Int.sign_eq_neg_one_of_neg q,Int.ediv_neg,Int.neg_one_mul,Int.neg_ediv_of_dvd (Int.gcd_dvd_left t b)]
 ·rw [if_neg (by lia),Int.sign_eq_one_of_pos q,Int.one_mul]
theorem dv_den {t b:Int} (h:b ≠ 0):b.fdiv (dv t b) = ((Rat.divInt t b).den:Int):=by
 rw [Int.fdiv_eq_ediv_of_dvd (dv_dvd_right t b),Rat.den_divInt,if_neg h,Int.gcd_comm]
 unfold dv
 rw [Int.natCast_ediv]
 rcases Int.lt_or_gt_of_ne h with q | q
 ·rw [if_pos q,Int.ediv_neg,<- Int.neg_ediv_of_dvd (Int.gcd_dvd_right t b)]
  congr 1; lia
 ·rw [if_neg (by lia)]
  congr 1; lia
end Tc
namespace Tc
theorem dv_pos {t b:Int} (h:0 < b):dv t b = (Int.gcd t b:Int):=by unfold dv; rw [if_neg (by lia)]
theorem low {n d:Int} (hd:0 < d) (hg:Int.gcd n d = 1):(Rat.divInt n d).num = n /\ ((Rat.divInt n d).den:Int) = d:=by
 have h1:=dv_num (t:=n) (b:=d) (by lia)
 have h2:=dv_den (t:=n) (b:=d) (by lia)
 rw [dv_pos hd,hg] at h1 h2
 constructor
 ·rw [<- h1]; simp
 ·rw [<- h2]; simp
theorem rat_den_pos (r:Rat):(0:Int) < r.den:=by have:=r.den_pos; lia
theorem rat_gcd (r:Rat):Int.gcd r.num r.den = 1:=by
 have:=r.reduced
 unfold Nat.Coprime at this
 unfold Int.gcd
 simpa using this
theorem plus_ok (r q:Rat) {s rest top d:Int} (hs:s = dv r.den q.den) (hr:rest = (r.den:Int).fdiv s) (ht:top = r.num * ((q.den:Int).fdiv s) + q.num * rest) (hd:d = dv top s) :
  top.fdiv d = (r + q).num /\ rest * ((q.den:Int).fdiv d) = ((r + q).den:Int):=by
 have p1:=r.den_pos
 have p2:=q.den_pos
 have gp:0 < Nat.gcd r.den q.den:=Nat.gcd_pos_of_pos_left _ p1
 have es:s = ((Nat.gcd r.den q.den:Nat):Int):=by
  rw [hs,dv_pos (by lia)]; unfold Int.gcd; simp
 have e1:(r.den:Int).fdiv s = ((r.den / Nat.gcd r.den q.den:Nat):Int):=by
  rw [es,Int.fdiv_eq_ediv_of_nonneg _ (by lia),Int.natCast_ediv]
 have e2:(q.den:Int).fdiv s = ((q.den / Nat.gcd r.den q.den:Nat):Int):=by
  rw [es,Int.fdiv_eq_ediv_of_nonneg _ (by lia),Int.natCast_ediv]
 have er:rest = ((r.den / Nat.gcd r.den q.den:Nat):Int):=hr.trans e1
 have et:top = r.num * ((q.den / Nat.gcd r.den q.den:Nat):Int) + q.num * ((r.den / Nat.gcd r.den q.den:Nat):Int):=by rw [ht,e2,er]
 have key:top.natAbs.gcd (Nat.gcd r.den q.den) = top.natAbs.gcd ((r.den / Nat.gcd r.den q.den) * q.den):=by
  rw [et]
  exact Rat.add.aux r q rfl rfl rfl
 have ed:d = ((top.natAbs.gcd (Nat.gcd r.den q.den):Nat):Int):=by
  rw [hd,es,dv_pos (by lia)]; unfold Int.gcd; simp
 have hrd:Nat.gcd r.den q.den ∣ r.den:=Nat.gcd_dvd_left _ _
 have hqd:Nat.gcd r.den q.den ∣ q.den:=Nat.gcd_dvd_right _ _
 have rp:0 < r.den / Nat.gcd r.den q.den:=Nat.div_pos (Nat.le_of_dvd p1 hrd) gp
 have sum:r + q = Rat.divInt top (((r.den / Nat.gcd r.den q.den) * q.den:Nat):Int):=by
  have h:=Rat.divInt_add_divInt r.num q.num (d₁:=r.den) (d₂:=q.den) (by lia) (by lia)
  rw [Rat.num_divInt_den,Rat.num_divInt_den] at h
  rw [h]
  rw [Rat.divInt_eq_divInt_iff (Int.mul_ne_zero (by lia) (by lia)) (by have:=Nat.mul_pos rp p2; lia)]
  rw [et]
  obtain ⟨a,ha⟩:=hrd
  obtain ⟨b,hb⟩:=hqd
  generalize Nat.gcd r.den q.den = g at *
  have a1:r.den / g = a:=by rw [ha]; exact Nat.mul_div_cancel_left _ gp
  have b1:q.den / g = b:=by rw [hb]; exact Nat.mul_div_cancel_left _ gp
  rw [a1,b1]
  rw [ha,hb]
  push_cast
  grind
 have dp:(0:Int) < (((r.den / Nat.gcd r.den q.den) * q.den:Nat):Int):=by have:=Nat.mul_pos rp p2; lia
 have n1:=dv_num (t:=top) (b:=(((r.den / Nat.gcd r.den q.den) * q.den:Nat):Int)) (by lia)
 have n2:=dv_den (t:=top) (b:=(((r.den / Nat.gcd r.den q.den) * q.den:Nat):Int)) (by lia)
 have edd:dv top (((r.den / Nat.gcd r.den q.den) * q.den:Nat):Int) = d:=by
  rw [ed,dv_pos dp,key]; unfold Int.gcd; rw [Int.natAbs_natCast]
 rw [<- sum,edd] at n1 n2
 refine ⟨n1,?_⟩
 rw [<- n2,er]
 have dq:d ∣ (q.den:Int):=by
  rw [ed]
  exact Int.natCast_dvd_natCast.mpr (Nat.dvd_trans (Nat.gcd_dvd_right _ _) hqd)
 have dpos:0 < d:=by
  rw [ed]; have:=Nat.gcd_pos_of_pos_right top.natAbs gp; lia
 rw [Int.fdiv_eq_ediv_of_nonneg _ (by lia),Int.fdiv_eq_ediv_of_nonneg _ (by lia)]
 push_cast
 exact (Int.mul_ediv_assoc _ dq).symm
theorem cop_dvd {a d t b:Int} (h:Int.gcd t b = 1) (ha:a ∣ t) (hd:d ∣ b):Int.gcd a d = 1 :=
 Nat.Coprime.coprime_dvd_left (Int.natAbs_dvd_natAbs.mpr ha) (Nat.Coprime.coprime_dvd_right (Int.natAbs_dvd_natAbs.mpr hd) h)
theorem cop_mul {a b c d:Int} (h1:Int.gcd a d = 1) (h2:Int.gcd a b = 1) (h3:Int.gcd c d = 1) (h4:Int.gcd c b = 1):Int.gcd (a * c) (d * b) = 1:=by
 show Nat.Coprime (a * c).natAbs (d * b).natAbs
 rw [Int.natAbs_mul,Int.natAbs_mul]
 exact Nat.coprime_mul_iff_left.mpr ⟨Nat.coprime_mul_iff_right.mpr ⟨h1,h2⟩,Nat.coprime_mul_iff_right.mpr ⟨h3,h4⟩⟩
theorem times_ok {t1 b1 t2 b2:Int} (h1:0 < b1) (h2:b2 ≠ 0) (c1:Int.gcd t1 b1 = 1) (c2:Int.gcd t2 b2 = 1) {l r:Int} (hl:l = dv t1 b2) (hr:r = dv t2 b1) :
  (t1.fdiv l) * (t2.fdiv r) = (Rat.divInt (t1 * t2) (b1 * b2)).num /\ (b1.fdiv r) * (b2.fdiv l) = ((Rat.divInt (t1 * t2) (b1 * b2)).den:Int):=by
 have l0:l ≠ 0:=by rw [hl]; exact dv_ne h2
 have r0:0 < r:=by rw [hr,dv_pos h1]; have:=gcd_pos (t:=t2) (b:=b1) (by lia); lia
 obtain ⟨a,ha⟩:l ∣ t1:=by rw [hl]; exact dv_dvd_left _ _
 obtain ⟨b,hb⟩:l ∣ b2:=by rw [hl]; exact dv_dvd_right _ _
 obtain ⟨c,hc⟩:r ∣ t2:=by rw [hr]; exact dv_dvd_left _ _
 obtain ⟨d,hd⟩:r ∣ b1:=by rw [hr]; exact dv_dvd_right _ _
 have e1:t1.fdiv l = a:=by rw [ha,Int.mul_fdiv_cancel_left _ l0]
 have e2:b2.fdiv l = b:=by rw [hb,Int.mul_fdiv_cancel_left _ l0]
 have e3:t2.fdiv r = c:=by rw [hc,Int.mul_fdiv_cancel_left _ (by lia)]
 have e4:b1.fdiv r = d:=by rw [hd,Int.mul_fdiv_cancel_left _ (by lia)]
 have gl:Int.gcd t1 b2 = l.natAbs:=by rw [hl,dv_abs]
 have gr:Int.gcd t2 b1 = r.natAbs:=by rw [hr,dv_abs]
 have la:0 < l.natAbs:=by lia
 have ra:0 < r.natAbs:=by lia
 have cab:Int.gcd a b = 1:=by
  rw [ha,hb,Int.gcd_mul_left] at gl
  exact Nat.eq_of_mul_eq_mul_left la (by lia)
 have ccd:Int.gcd c d = 1:=by
  rw [hc,hd,Int.gcd_mul_left] at gr
  exact Nat.eq_of_mul_eq_mul_left ra (by lia)
 have cad:Int.gcd a d = 1:=cop_dvd c1 ⟨l,by rw [ha,Int.mul_comm]⟩ ⟨r,by rw [hd,Int.mul_comm]⟩
 have cbc:Int.gcd c b = 1:=cop_dvd c2 ⟨r,by rw [hc,Int.mul_comm]⟩ ⟨l,by rw [hb,Int.mul_comm]⟩
 have dp:0 < d:=by
  rcases Int.lt_trichotomy d 0 with z | z | z
  ·have:=Int.mul_neg_of_pos_of_neg r0 z; lia
  ·subst z; lia
  ·exact z
 have bp:0 < b:=by
  rcases Int.lt_or_gt_of_ne h2 with z | z
  ·have ln:l < 0:=by
    rw [hl]; unfold dv; rw [if_pos z]; have:=gcd_pos (t:=t1) h2; lia
   rcases Int.lt_trichotomy b 0 with y | y | y
   ·have:=Int.mul_pos_of_neg_of_neg ln y; lia
   ·subst y; lia
   ·exact y
  ·have lp:0 < l:=by
    rw [hl,dv_pos z]; have:=gcd_pos (t:=t1) h2; lia
   rcases Int.lt_trichotomy b 0 with y | y | y
   ·have:=Int.mul_neg_of_pos_of_neg lp y; lia
   ·subst y; lia
   ·exact y
 have lw:=low (n:=a * c) (d:=d * b) (Int.mul_pos dp bp) ?_
 ·have ee:Rat.divInt (t1 * t2) (b1 * b2) = Rat.divInt (a * c) (d * b):=by
   rw [Rat.divInt_eq_divInt_iff (Int.mul_ne_zero (by lia) h2) (Int.mul_ne_zero (by lia) (by lia))]
   rw [ha,hb,hc,hd]; grind
  rw [e1,e2,e3,e4,ee]
  exact ⟨lw.1.symm,lw.2.symm⟩
 ·exact cop_mul cad cab ccd cbc
theorem mul_eq (r q:Rat):Rat.divInt (r.num * q.num) (r.den * q.den) = r * q:=by
 rw [<- Rat.divInt_mul_divInt,Rat.num_divInt_den,Rat.num_divInt_den]
theorem div_eq (r q:Rat) (h:q.num ≠ 0):Rat.divInt (r.num * q.den) (r.den * q.num) = r / q:=by
 rw [<- Rat.divInt_mul_divInt,Rat.num_divInt_den,Rat.div_def]
 congr 1
 rw [Rat.inv_def]
theorem gcd_swap (r:Rat):Int.gcd (r.den:Int) r.num = 1:=by rw [Int.gcd_comm]; exact rat_gcd r
theorem neg_ok (r:Rat):(0 - r.num) = (-r).num /\ (r.den:Int) = ((-r).den:Int):=by
 constructor
 ·rw [Rat.neg_num]; lia
 ·rw [Rat.neg_den]
theorem sub_eq (r q:Rat):r + -q = r - q:=(Rat.sub_eq_add_neg r q).symm
theorem lt_ok (r q:Rat):decide (r.num * q.den < q.num * r.den) = decide (r < q):=by
 rw [decide_eq_decide,Rat.lt_iff]
theorem fq_inj {r q:Rat} (h1:r.num = q.num) (h2:(r.den:Int) = q.den):r = q:=Rat.ext h1 (by lia)
end Tc
namespace L2
open PySem PySem.Spec PyProof.Rows
theorem bt_abs:bootBuiltins "abs" = some (.builtin "abs"):=by decide +kernel
theorem bt_isinstance:bootBuiltins "isinstance" = some (.builtin "isinstance"):=by decide +kernel
theorem bt_int:bootBuiltins "int" = some (.type "int"):=by decide +kernel
theorem bt_bool:bootBuiltins "bool" = some (.type "bool"):=by decide +kernel
theorem bt_str:bootBuiltins "str" = some (.type "str"):=by decide +kernel
theorem bt_list:bootBuiltins "list" = some (.type "list"):=by decide +kernel
theorem bt_tuple:bootBuiltins "tuple" = some (.type "tuple"):=by decide +kernel
theorem bt_dict:bootBuiltins "dict" = some (.type "dict"):=by decide +kernel
theorem bt_ValueError:bootBuiltins "ValueError" = some (.type "ValueError"):=by decide +kernel
section
variable {X:Cx}
theorem op_mulB:OpR X (binaryOp .Mult) (rI IntMulOk fun i j=>.int (i * j)):=opI fun _ _ _ _ _ _ _ hc q=>mul_int q hc
noncomputable def CDivB (_ j:Int):Prop:=j ≠ 0 /\ j.natAbs.log2 < 9000
theorem op_fdivB:OpR X (binaryOp .FloorDiv) (rI CDivB fun i j=>.int (i.fdiv j)):=opI fun _ _ _ _ _ _ _ hc q=>floordiv_int hc.1 q (.inl (PyProof.noPylong_of_log2 hc.2))
theorem log2_lt {n k:Nat} (h:n < 2 ^ k) (hk:0 < k):n.log2 < k:=by
 rcases Nat.eq_zero_or_pos n with h0 | hp
 ·subst h0
  have:Nat.log2 0 = 0:=by decide
  lia
 ·exact (Nat.log2_lt (Nat.ne_of_gt hp)).mpr h
theorem mulOk_of {a b:Int} (k:Nat) (ha:a.natAbs < 2 ^ k) (hb:b.natAbs < 2 ^ k) (h:k <= 67108864):IntMulOk a b:=by
 have bits:∀ x:Int,x.natAbs < 2 ^ k->Builtin.Int.intBits x <= k:=fun x hx=>by
  unfold Builtin.Int.intBits
  split
  ·exact Nat.zero_le _
  ·rename_i hx0
   rcases Nat.eq_zero_or_pos k with h0 | hp
   ·subst h0
    have:x = 0:=by
     have:x.natAbs < 1:=hx
     lia
    simp [this] at hx0
   ·have:=log2_lt hx hp
    lia
 exact IntMulOk.of_le (bits a ha) (bits b hb) (by lia)
theorem divB_of {i j:Int} (h:j ≠ 0) (hb:j.natAbs < 2 ^ 9000):CDivB i j:=⟨h,log2_lt hb (by decide)⟩
theorem call_isi:CallR X (.builtin "isinstance") (fun xs H Q=>∃ x n t b,xs = [x,.ty n] /\ TyOf X.K H x t /\ PySem.W.kitOne X.K t (.type n) = some b /\ Q (.bl b) H):=by
 intro pins s σ H xs us Q I r h
 obtain ⟨x,n,t,b,rfl,ty,e,q⟩:=h
 obtain ⟨u,u',rfl,ru,ru'⟩:=vals2 r
 cases ru'
 exact isinst_ok I ru ty e fun tk=>⟨.bl b,H,I.tok tk,rfl,q⟩
end
structure FnAt (P:Program) (w:World) (K:PySem.W.Frag) (mg:Str->Option Value) (base:Heap) (CX:CXT) (k:Nat) (x:Str) (ps:List Str) (sp:Sp):Prop where
 ex:∃ (f:Addr) (fd:FuncData),FnOk P w K mg base CX k f fd ps sp /\ mg x = some (.ref f) /\ PySem.W.keepIn K (.ref f) = true /\ Binds K fd ps []
structure DefAt (K:PySem.W.Frag) (mg:Str->Option Value) (x:Str) (st:Stmt):Prop where
 ex:∃ (f:Addr) (fd:FuncData),Fun K x x st f fd /\ mg x = some (.ref f)
theorem DefAt.mk' {K:PySem.W.Frag} {h:Heap} {mg:Str->Option Value} {x:Str} {st:Stmt} {f:Addr} {oc:Value} {od an:Option Addr} {osl:Array (Option Value)} {kV doc pm cdv ct:Value} (X:K.In h) (G:h.Ns mainGlobals mg)
  (a:PySem.W.nsIn K mainGlobals x = some (some (.ref f))) (l:K.lookup f = some ⟨oc,od,.func (PySem.W.fnOf x x (defArgs st) (defBody st) (defScope st) .none kV doc pm an cdv ct),osl⟩)
  (c:PySem.W.codeIn K cdv x = true) (k:PySem.W.keepIn K (.ref f) = true):DefAt K mg x st:=⟨f,_,fun_mk (st:=st) l c k,PySem.W.mg_of X G a⟩
section
variable {P:Program} {w:World} {K:PySem.W.Frag} {mg:Str->Option Value} {base:Heap}
theorem DefAt.ok {x:Str} {st:Stmt} {N ps:List Str} {k:Nat} {sp:Sp} (D:DefAt K mg x st) (S:FnScope N ps (defScope st)) (len:∀ vs H Q E,sp vs H Q E->vs.length = ps.length)
  (hb:∀ (kV doc pm:Value) (an:Option Addr) (cdv ct:Value) (us:List Value),us.length = ps.length->bindArgs (PySem.W.fnOf x x (defArgs st) (defBody st) (defScope st) .none kV doc pm an cdv ct) ⟨us,[]⟩ = pure (ps.zip us))
  (hbody:∀ (f:Addr) (cdv:Value) (A:Around) (outer:List Env) (s:Shared) (H:Hp) (vs:List V) (Q:VK) (E:XK),Room k (A.deeper (envOfC x (defScope st) s.heap.objs.size f cdv))->sp vs H Q E ->
   ∃ t,PSs (cxOf CX0 P w K mg base N x (defScope st) f cdv A outer s H E).nox (defBody st) t /\ t { nx:=fun _ H'=>Q .non H',rt:=Q } (start N vs) H):FnAt P w K mg base CX0 (k + 1) x ps sp:=by
 obtain ⟨f,fd,F,m⟩:=D.ex
 exact ⟨f,fd,F.ok S len fun cdv A outer s H vs Q E hr h=>hbody f cdv A outer s H vs Q E hr h,m,F.kp,F.binds hb⟩
end
section
variable {X:Cx} {CX:CXT} {k j:Nat} {ps:List Str} {sp:Sp} {E:XK} {x:Str} {p pos:Pos} {e:Expr} {es:List Expr} {t:TA}
theorem pe_fn (F:FnAt X.prog X.w X.K X.mg X.base CX j x ps sp) (hr:Room k X.A) (hg:Gl X x) (hx:Passes CX X E) (ha:PA X (e :: es) t) (hj:j <= k:=by decide)
  (hdb:(x == ("__debug__":Str)) = false:=by decide) (he:starEach (e :: es) X.env = (false,eval e X.env) :: starEach es X.env:=by rfl) (hpl:(backTo pos (starEach es X.env)).any (·.1) = false:=by rfl) :
  PE X (.Call (.Name x p) (e :: es) [] pos) (tCall sp [] E t):=by
 obtain ⟨f,fd,G,m,kp,b⟩:=F.ex
 exact pe_call G (hr.mono hj) hg m kp b .nil hx ha hdb he hpl
end
end L2
namespace L2
open PySem PySem.Spec PyProof.Rows
noncomputable def tyH:Option HO->Option String
 | some (.lst _)=>some "list"
 | some (.frz _ (.lst _))=>some "list"
 | some (.tup _)=>some "tuple"
 | some (.dK _)=>some "dict"
 | some (.dT _)=>some "dict"
 | _=>none
noncomputable def tyS (H:Hp):V->Option String
 | .non=>some "NoneType"
 | .bl _=>some "bool"
 | .int _=>some "int"
 | .str _=>some "str"
 | .ref a=>tyH (H a)
 | _=>none
theorem tyH_cases {o:Option HO} {n:String} (h:tyH o = some n) :
  (n = "list" /\ ((∃ xs,o = some (.lst xs)) \/ ∃ ob xs,o = some (.frz ob (.lst xs)))) \/ (n = "tuple" /\ ∃ xs,o = some (.tup xs)) \/ (n = "dict" /\ ((∃ kvs,o = some (.dK kvs)) \/ ∃ kvs,o = some (.dT kvs))):=by
 cases o with
 | none=>cases h
 | some u =>
  cases u with
  | lst xs=>cases h; exact .inl ⟨rfl,.inl ⟨xs,rfl⟩⟩
  | tup xs=>cases h; exact .inr (.inl ⟨rfl,xs,rfl⟩)
  | dK kvs=>cases h; exact .inr (.inr ⟨rfl,.inl ⟨kvs,rfl⟩⟩)
  | dT kvs=>cases h; exact .inr (.inr ⟨rfl,.inr ⟨kvs,rfl⟩⟩)
  | frz ob v =>
   cases v with
   | lst xs=>cases h; exact .inl ⟨rfl,.inr ⟨ob,xs,rfl⟩⟩
   | _=>cases h
  | _=>cases h
theorem tyOf_of {K:PySem.W.Frag} {H:Hp} {v:V} {n:String} (h:tyS H v = some n):TyOf K H v (.type n):=by
 cases v with
 | non=>cases h; exact .non
 | bl b=>cases h; exact .bl b
 | int i=>cases h; exact .int i
 | str x=>cases h; exact .str x
 | byt b=>cases h
 | flt b=>cases h
 | ty b=>cases h
 | ref a =>
  rcases tyH_cases (show tyH (H a) = some n from h) with ⟨rfl,⟨xs,e⟩ | ⟨ob,xs,e⟩⟩ | ⟨rfl,xs,e⟩ | ⟨rfl,⟨kvs,e⟩ | ⟨kvs,e⟩⟩
  ·exact .lst e
  ·exact .frz e
  ·exact .tup e
  ·exact .dK e
  ·exact .dT e
theorem tyS_mem {H:Hp} {v:V} {n:String} (h:tyS H v = some n):n ∈ ["NoneType","bool","int","str","list","tuple","dict"]:=by
 cases v with
 | ref a=>rcases tyH_cases (show tyH (H a) = some n from h) with ⟨rfl,_⟩ | ⟨rfl,_⟩ | ⟨rfl,_⟩ <;> simp
 | _=>first | (cases h; done) | (cases h; simp)
noncomputable def subS (n m:String):Bool:=n == m || (n == "bool" && m == "int")
theorem kit_tt {K:PySem.W.Frag} {n m:String} (hn:n ∈ ["NoneType","bool","int","str","list","tuple","dict"]) (hm:m ∈ ["int","bool","str","list","tuple","dict"]) :
  PySem.W.kitOne K (.type n) (.type m) = some (subS n m):=by
 simp only [List.mem_cons,List.not_mem_nil,or_false] at hn hm
 rcases hn with rfl | rfl | rfl | rfl | rfl | rfl | rfl <;> rcases hm with rfl | rfl | rfl | rfl | rfl | rfl <;> first | rfl | (with_unfolding_all rfl) | decide +kernel
theorem Same.upd {H:Hp} {p:Addr} {o:HO} (h:H p = none):Same H (upd H p o):=fun b u e=>by
 rw [upd_ne (ne_of_none e h)]; exact e
end L2
namespace L2
open PySem PySem.Spec PyProof.Rows
section
variable {P:Program} {w:World} {H H':Hp} {h h':Heap} {a:Addr} {o:HO}
theorem ObjOk.there (x:ObjOk P w H h a o):∃ ob,h.get? a = some ob:=by
 cases o with
 | lst xs=>obtain ⟨_,_,_,_,e⟩:=x; exact ⟨_,e⟩
 | tup xs=>obtain ⟨_,_,_,ob,e,_⟩:=x; exact ⟨ob,e⟩
 | dK kvs=>obtain ⟨_,_,_,_,ob,_,_,e,_⟩:=x; exact ⟨ob,e⟩
 | dT kvs=>obtain ⟨_,_,_,_,ob,_,_,e,_⟩:=x; exact ⟨ob,e⟩
 | set S n=>obtain ⟨ob,_,_,_,e,_⟩:=x; exact ⟨ob,e⟩
 | ins C dx fs=>obtain ⟨_,_,_,e,_⟩:=x; exact ⟨_,e⟩
 | own y=>obtain ⟨ob,e⟩:=x; exact ⟨ob,e⟩
 | xd fs=>obtain ⟨_,⟨ob,_,_,e,_⟩,_⟩:=x; exact ⟨ob,e⟩
 | rng lo hi=>obtain ⟨_,_,_,e⟩:=x; exact ⟨_,e⟩
 | frz ob u=>obtain ⟨e,_⟩:=x; exact ⟨_,e⟩
 | tbl ps=>exact ⟨_,(show h.get? a = some _ from x)⟩
 | met f y=>exact ⟨_,(show h.get? a = some _ from x)⟩
 | ext φ=>obtain ⟨_,⟨ob,e⟩,_⟩:=x; exact ⟨ob,e⟩
theorem HOk.via (x:HOk P w H h) (k:∀ b u ob,H b = some u->h.get? b = some ob->h'.get? b = some ob):HOk P w H h':=fun b u e =>
 (x b u e).stay (fun c ob hc q=>by
  rcases hc with z | z
  ·subst z; exact k c u ob e q
  ·exact k c _ ob z q) (fun _ q=>q) fun _ _ q=>q
end
theorem frs_cons {env:Env} {L:Addr} {outer:List Env} (hf:env.frame = some L):frs (env :: outer) = L :: frs outer:=by
 unfold frs; rw [List.filterMap_cons,hf]
structure Kp (P:Program) (w:World) (outer:List Env) (H:Hp) (h:Heap) (H':Hp) (h':Heap) (B:Heap):Prop where
 hok:HOk P w H' h'
 un:Un (frs outer) [] H H' h h'
 old:∀ b o,h.get? b = some o->H b = none->b ∉ frs outer->B.get? b = some o
 has:∀ b o,h.get? b = some o->b ∉ frs outer->∃ o',B.get? b = some o'
 trk:∀ b u,H' b = some u->∃ o,h'.get? b = some o /\ B.get? b = some o
section
variable {X:Cx} {pins:List (Addr × Obj)} {σ:St} {H1 H2:Hp} {s1:Shared} {h2 h3 B:Heap} {a:Addr} {C a0:Value} {vs:List Value}
theorem Kp.raise (I:Inv X pins σ H1 s1) (hx:Heap.MadeExcOf s1.heap h2 a C vs):Kp X.prog X.w X.stack H1 s1.heap H1 h2 (PySem.W.hideAll s1.heap (frs X.stack)) where
 hok:=I.hok.kept hx.keeps
 un:=Un.kept hx.keeps
 old:=fun b o e _ hb=>PySem.W.hideAll_get _ e hb
 has:=fun b o e hb=>⟨o,PySem.W.hideAll_get _ e hb⟩
 trk:=fun b u e=>by
  obtain ⟨o,q⟩:=(I.hok b u e).there
  refine ⟨o,hx.keeps b o q,PySem.W.hideAll_get _ q fun hb=>?_⟩
  rw [I.stkFree b hb] at e; cases e
theorem Kp.slots (I:Inv X pins σ H1 s1) (K:Kp X.prog X.w X.stack H1 s1.heap H2 h2 B) (st:B.StaysIn h3) (sl:h2.UpToSlots h3):Kp X.prog X.w X.stack H1 s1.heap H2 h3 B:=by
 have trk3:∀ b u,H2 b = some u->∃ o,h3.get? b = some o /\ B.get? b = some o:=fun b u e=>by
  obtain ⟨o,_,q⟩:=K.trk b u e
  exact ⟨o,st b o q,q⟩
 have fr:∀ b o,s1.heap.get? b = some o->H1 b = none->b ∈ frs X.stack->∃ sl,h3.get? b = some { o with slots:=sl }:=fun b o e n hb=>by
  obtain ⟨sl1,e1⟩:=K.un.slot b o e n hb (by simp)
  obtain ⟨_,o',e',d⟩:=I.stack.mem hb
  rw [e] at e'
  cases e'
  obtain ⟨sl2,e2⟩:=sl b _ e1 d
  exact ⟨sl2,e2⟩
 refine ⟨K.hok.via fun b u ob e q=>?_,⟨fun b o e n hb _=>st b o (K.old b o e n hb),fun b o e n hb _=>fr b o e n hb,K.un.free,fun b o e hx=>?_,K.un.tups,K.un.frzs,K.un.tbls⟩,K.old,K.has,trk3⟩
 ·obtain ⟨o,q1,q2⟩:=K.trk b u e
  rw [q] at q1
  cases q1
  exact st b ob q2
 ·by_cases hb:b ∈ frs X.stack
  ·obtain ⟨sl1,e1⟩:=fr b o e (I.stkFree b hb) hb
   exact ⟨_,e1⟩
  ·obtain ⟨o',e'⟩:=K.has b o e hb
   exact ⟨o',st b o' e'⟩
theorem Kp.leave (I:Inv X pins σ H1 s1) (hex:X.ex = []) (hst:X.stack = X.env :: X.outer) (hf:X.env.frame = some X.env.locals) (K:Kp X.prog X.w X.stack H1 s1.heap H2 h2 B) (st:B.StaysIn h3) (sl:h2.UpToSlots h3) :
  Kp X.prog X.w X.outer X.H₀ X.s₀.heap H2 h3 B:=by
 have K3:=K.slots I st sl
 have fe:frs X.stack = X.env.locals :: X.fs:=by rw [hst]; exact frs_cons hf
 have nex:∀ b:Addr,b ∉ X.ex:=fun b z=>by rw [hex] at z; cases z
 have nin:∀ b o,X.s₀.heap.get? b = some o->b ∉ X.fs->b ∉ frs X.stack:=fun b o e hb z=>by
  rw [fe] at z
  rcases List.mem_cons.mp z with z | z
  ·have h1:=Heap.lt_size e
   have h2:=I.ok.above
   rw [z] at h1
   exact absurd (Nat.lt_of_lt_of_le h1 h2) (Nat.lt_irrefl _)
  ·exact hb z
 have old:∀ b o,X.s₀.heap.get? b = some o->X.H₀ b = none->b ∉ frs X.outer->B.get? b = some o:=fun b o e n hb =>
  K.old b o (I.base.keep b o e n hb (nex b)) (I.base.free b o e n (nex b)) (nin b o e hb)
 refine ⟨K3.hok,⟨fun b o e n hb _=>st b o (old b o e n hb),fun b o e n hb _=>?_,fun b o e n _=>?_,fun b o e _=>?_,fun b xs e=>K3.un.tups b xs (I.base.tups b xs e),fun b o u e=>K3.un.frzs b o u (I.base.frzs b o u e),fun b ps e=>?_⟩,old,fun b o e hb=>?_,K3.trk⟩
 ·obtain ⟨sl1,e1⟩:=I.base.slot b o e n hb (nex b)
  obtain ⟨sl2,e2⟩:=K3.un.slot b _ e1 (I.base.free b o e n (nex b)) (by rw [fe]; exact List.mem_cons_of_mem _ hb) (by simp)
  exact ⟨sl2,e2⟩
 ·obtain ⟨o1,e1⟩:=I.base.there b o e (nex b)
  exact K3.un.free b o1 e1 (I.base.free b o e n (nex b)) (by simp)
 ·obtain ⟨o1,e1⟩:=I.base.there b o e (nex b)
  exact K3.un.there b o1 e1 (by simp)
 ·obtain ⟨m1,e1⟩:=I.base.tbls b ps e
  obtain ⟨m2,e2⟩:=K3.un.tbls b _ e1
  exact ⟨m1 ++ m2,by rw [e2,Array.append_assoc]⟩
 ·obtain ⟨o1,e1⟩:=I.base.there b o e (nex b)
  exact K.has b o1 e1 (nin b o e hb)
end
noncomputable def CXE (P:Program) (w:World):CXT:=fun outer H s E e s'=>∃ (a:Addr) (C:Value) (H':Hp) (B:Heap) (a0:Value),
 e = .ref a /\ s'.os = s.os /\ AllBare s'.gens /\ Kp P w outer H s.heap H' s'.heap B /\ Heap.FlyingW B outer a C a0 s'.heap /\ E C none H'
noncomputable def Raises (X:Cx) (E:XK):Prop:=∀ (C:Value) (pins:List (Addr × Obj)) (σ:St) (H1:Hp) (s1:Shared) (h2:Heap) (a:Addr) (vs:List Value),Inv X pins σ H1 s1->Heap.MadeExcOf s1.heap h2 a C vs->E C none H1->X.xe (.ref a) { s1 with heap:=h2 }
section
variable {P:Program} {w:World} {K:PySem.W.Frag} {mg:Str->Option Value} {base:Heap} {N:List Str} {qual:Str} {scope:Scope} {f:Addr} {cd:Value} {A:Around} {outer:List Env} {s:Shared} {H:Hp} {E:XK}
theorem raises_cx:Raises (cxOf (CXE P w) P w K mg base N qual scope f cd A outer s H E) E:=by
 intro C pins σ H1 s1 h2 a vs I hx q
 have hl:=PySem.W.funFrames_hide (as:=frs (cxOf (CXE P w) P w K mg base N qual scope f cd A outer s H E).stack) I.stack fun env he b hb=>List.mem_filterMap.mpr ⟨env,he,hb⟩
 refine wpAny_leaves_madeW I.ok.frames rfl (fun b o q=>PySem.W.of_hideAll _ q) hl hx fun h3 t fl _ _ sl=>?_
 exact ⟨a,C,H1,_,.ref t,rfl,I.os,I.bare,(Kp.raise I hx).leave I rfl rfl rfl fl.1 sl,fl,q⟩
theorem passE:Passes (CXE P w) (cxOf (CXE P w) P w K mg base N qual scope f cd A outer s H E) E:=by
 intro pins σ H1 s1 e s2 I hq
 obtain ⟨a,C,H2,B,a0,rfl,os,bare,Kq,fl,q⟩:=hq
 refine wpAny_leaves_onW I.ok.frames rfl fl fun h3 fl3 sl=>?_
 exact ⟨a,C,H2,B,a0,rfl,os.trans I.os,bare,Kq.leave I rfl rfl rfl fl3.1 sl,fl3,q⟩
end
theorem excObj_of {K:PySem.W.Frag} {h:Heap} {C:Addr} {bmB:List Value} {newId:String} (X:K.In h) (q:PySem.W.excIn K C bmB newId = true) :
  ∃ bm N nm qn bs hdct sn sub ab col dd k0 k1 k2 k3 k5 mN,h.get? C = some (excClassObj nm qn C N bs bm hdct sn sub ab col dd k0 k1 k2 k3 k5 newId) /\ h.Ns N mN /\ mN "__init__" = none /\ OwnTail h bmB bm:=by
 unfold PySem.W.excIn at q
 split at q
 ·rename_i d1 cd1 sl1 look
  split at q
  ·rename_i C1 bm1 s0 s1 s2 s3 n1 s5 hmro hslots
   simp only [beq_iff_eq,Bool.not_eq_true',Bool.and_eq_true] at q
   obtain ⟨⟨⟨⟨⟨q1,q2⟩,hdel⟩,htl⟩,hns⟩,hini⟩:=q
   subst q1 q2
   obtain ⟨u1,u2,u3,u4,u5,u6,u7,u8,u9,u10,u11⟩:=cd1
   dsimp only at hmro hdel hns hini
   subst hmro hdel
   have es:sl1 = #[s0,s1,s2,s3,some (.builtin n1),s5]:=by
    cases sl1 with
    | mk l =>
     have:l = [s0,s1,s2,s3,some (.builtin n1),s5]:=hslots
     rw [this]
   subst es
   have at_:=X _ _ look
   refine ⟨bm1,u4,u1,u5,u2,u6,u7,u8,u9,u10,d1,s0,s1,s2,s3,s5,_,at_,.of_isNs (PySem.W.isNs_of_in X hns),?_,PySem.W.tail_of_in X htl⟩
   exact PySem.W.nsMap_none_of_in X hns hini
  ·cases q
 ·cases q
section
variable {X:Cx} {E:XK} {C:Addr} {B newId initId:String} {bmB:List Value} {x:Str} {np cpos pos:Pos} {e₀:Expr} {rest:List Expr} {t:TA}
noncomputable def tRaise (C:Addr) (E:XK) (t:TA):TS:=fun _ σ H=>t σ H fun vs H1=>vs.length <= sizeLine /\ E (.ref C) none H1
theorem ps_raise (R:Raises X E) (hc:X.calm = true) (hg:Gl X x) (hm:X.mg x = some (.ref C)) (hq:PySem.W.excIn X.K C bmB newId = true) (FB:ExcBaseFacts B newId initId bmB) (ha:PA X (e₀ :: rest) t)
  (he:starEach (e₀ :: rest) X.env = (false,eval e₀ X.env) :: starEach rest X.env:=by rfl) (hpl:(backTo cpos (starEach rest X.env)).any (·.1) = false:=by rfl) (hd:(x == ("__debug__":Str)) = false:=by decide) :
  PS X (.Raise (some (.Call (.Name x np) (e₀ :: rest) [] cpos)) none pos) (tRaise C E t):=by
 intro pins s σ H D I h
 obtain ⟨tl,N,nm,qn,bs,hdct,sn,sub,ab,col,dd,k0,k1,k2,k3,k5,mN,hC,hN,hni,T⟩:=excObj_of I.mod.kin hq
 refine wpAny_Raise_call_subT (k5:=k5) (k3:=k3) (k2:=k2) (k1:=k1) (k0:=k0) (dd:=dd) (col:=col) (ab:=ab) (sub:=sub) (sn:=sn) (hdct:=hdct) (bm:=tl) (bs:=bs) (N:=N) (q:=qn) (nm:=nm) (C:=C) FB (mN:=mN) (T.hasType FB.hasBase) (I.ok.hd hc) ?_ hni (ld_glob I hg hm ⟨rfl,?_⟩ hd)
 ·rw [he]
  show (false || (backTo cpos (starEach rest X.env)).any (·.1)) = false
  rw [hpl]; rfl
 ·have h1:=ha cpos pins s σ H _ I h
  rw [he] at h1 ⊢
  refine Calls.evalArgs_plain (wpAny_mono h1 (fun us s1 z=>?_) fun _ _ y=>y)
  obtain ⟨vs,H1,I1,r,hz,q⟩:=z
  exact ⟨rfl,by rw [<- r.length]; exact hz,I1.bk _ _ hC,hN.keeps I1.bk,T.keeps I1.bk,fun h' a hx=>R _ pins σ H1 s1 h' a us I1 hx q⟩
end
end L2
namespace L2
open PySem PySem.Spec PyProof.Rows
section
variable {X:Cx} {pins:List (Addr × Obj)} {σ:St} {H H1 H2:Hp} {s s1 s2:Shared} {B:Heap}
theorem Kp.inv (I:Inv X pins σ H1 s1) (K:Kp X.prog X.w X.stack H1 s1.heap H2 s2.heap B) (os:s2.os = s1.os) (bare:AllBare s2.gens):Inv X pins σ H2 s2 :=
 I.call' os K.un K.hok bare fun b z=>absurd z (by simp)
noncomputable abbrev Cx.hand (X:Cx) (a:Addr):Cx:={ X with A:=X.A.mark (some (.ref a)),calm:=false,xe:=fun _ _=>False }
theorem Inv.hand (I:Inv X pins σ H s) (a:Addr):Inv (X.hand a) pins σ H s :=
 ⟨⟨I.ok.mod,I.ok.kind,I.ok.glob,I.ok.blt,I.ok.above,I.ok.inj,I.ok.has,I.ok.cab,fun z=>(Bool.false_ne_true z).elim,I.ok.frames,I.ok.stk,I.ok.exf,I.ok.bs,I.ok.bsz,I.ok.noex,I.ok.exfs,I.ok.funs,I.ok.frf⟩,
  I.os,I.bare,I.base,I.loc,I.cell,I.free,I.freeC,I.pin,I.hok,I.len⟩
theorem Inv.unhand {a:Addr} (ok:X.Ok) (I:Inv (X.hand a) pins σ H s):Inv X pins σ H s:=⟨ok,I.os,I.bare,I.base,I.loc,I.cell,I.free,I.freeC,I.pin,I.hok,I.len⟩
theorem name_goesI {M:Model} {A:Around} {E:Value->Shared->Prop} {i:Nat} {n:Str} {pos:Pos} {Q:Unit->Shared->Prop} (I:Inv X pins σ H s) (hN:X.N.Nodup) (hi:X.N[i]? = some n) (hk:X.env.scope.names.lookup n = some .local)
  (h:∀ s',Inv X pins (σ.set i none) H s'->Q () s'):wpAny M A (do bindName X.env n .none; unbindBehindTheSuite X.env n pos) Q E s:=by
 obtain ⟨m,hn,hl⟩:=id I.loc
 have hcls:(X.env.scope.kind == .class || (X.env.scope.kind == .module && X.env.locals != X.env.globals)) = false:=by rw [I.ok.kind]; rfl
 obtain ⟨oL,_,_,hoL,_⟩:=id hn
 refine wpAny_nameGoes_keeps hk hn hcls fun h' v hn' hs=>?_
 have old:∀ b o,X.s₀.heap.get? b = some o->b ≠ X.env.locals:=fun b o e=>Nat.ne_of_lt (Nat.lt_of_lt_of_le (Heap.lt_size e) I.ok.above)
 refine h _ ⟨I.ok,I.os,I.bare,⟨fun b o e n' hb hx=>?_,fun b o e n' hb hx=>?_,I.base.free,fun b o e hx=>?_,I.base.tups,I.base.frzs,I.base.tbls⟩,⟨_,hn',fun j y v' e1 e2 e3=>?_⟩,fun y c e=>?_,I.free,I.freeC,fun p hp=>?_,fun b ob e=>?_,by simpa using I.len⟩
 ·exact (hs.2 b (old b o e)).trans (I.base.keep b o e n' hb hx)
 ·obtain ⟨sl,q⟩:=I.base.slot b o e n' hb hx
  exact ⟨sl,(hs.2 b (old b o e)).trans q⟩
 ·obtain ⟨o',q⟩:=I.base.there b o e hx
  exact ⟨o',(hs.2 b (old b o e)).trans q⟩
 ·have hj:j ≠ i:=by
   intro z; subst z
   rw [List.getElem?_set] at e2
   split at e2
   ·split at e2 <;> cases e2
   ·exact absurd rfl (by assumption)
  rw [List.getElem?_set_ne (Ne.symm hj)] at e2
  obtain ⟨u',r',q⟩:=hl j y v' e1 e2 e3
  refine ⟨u',r',?_⟩
  rcases q with ⟨k,e⟩ | ⟨k,c,e,z⟩
  ·refine .inl ⟨k,?_⟩
   have hy:y ≠ n:=fun e=>hj (nodup_ix hN e1 (e ▸ hi))
   simp [hy,e]
  ·exact .inr ⟨k,c,e,z.sameBut hs (I.cne y c e)⟩
 ·obtain ⟨w',z⟩:=I.cell y c e
  exact ⟨w',z.sameBut hs (I.cne y c e)⟩
 ·obtain ⟨e,n',ne,nf,d⟩:=I.pin p hp
  exact ⟨(hs.2 p.1 ne).trans e,n',ne,nf,d⟩
 ·refine (I.hok b ob e).stay (fun c w' hc q=>(hs.2 c ?_).trans q) (fun _ q=>q) fun _ _ q=>q
  rintro rfl
  rcases hc with z | z
  ·rw [<- z,I.free] at e; cases e
  ·rw [I.free] at z; cases z
end
noncomputable def excO (a:Addr) (C:Value):HO:=.ext fun h=>∃ oe vs,h.get? a = some oe /\ oe.cls = C /\ oe.data = .fields vs
noncomputable def Hd (X:Cx) (hds:List ExceptHandler) (th:Value->TS):Prop :=
 ∀ (pins:List (Addr × Obj)) (σ:St) (H1 H2:Hp) (s1 s2:Shared) (D:Ends) (a:Addr) (C:Value) (B:Heap) (a0:Value),Inv X pins σ H1 s1->s2.os = s1.os->AllBare s2.gens->Kp X.prog X.w X.stack H1 s1.heap H2 s2.heap B ->
  Heap.FlyingW B X.stack a C a0 s2.heap->th C D σ H2->wpAny (model X.prog X.w) X.A (handleBy (.ref a) X.env hds) (SP X pins D) X.xe s2
noncomputable def PEX (X:Cx) (e:Expr) (t:St->Hp->VK->XK->Prop):Prop :=
 ∀ (pins:List (Addr × Obj)) (s:Shared) (σ:St) (H:Hp) (Q:VK) (E:XK),Inv X pins σ H s->t σ H Q E ->
  wpAny (model X.prog X.w) X.A (eval e X.env) (EP X pins σ Q) (fun x s'=>∃ s1 H1,Inv X pins σ H1 s1 /\ CXE X.prog X.w X.stack H1 s1 E x s') s
section
variable {X:Cx} {k j:Nat} {ps:List Str} {sp:Sp} {x:Str} {p pos:Pos} {e:Expr} {es:List Expr} {t:TA}
theorem to_hands {hd:ExceptHandler} {hds:List ExceptHandler} {th:Value->TS} {pins:List (Addr × Obj)} {σ:St} {H1:Hp} {s1 s2:Shared} {D:Ends} {E:XK} {ex:Value} (hst:X.stack = X.env :: X.outer) (hf:X.env.frame = some X.env.locals)
  (hh:Hd X (hd :: hds) th) (I1:Inv X pins σ H1 s1) (hx:CXE X.prog X.w X.stack H1 s1 E ex s2) (hE:∀ C dx H',E C dx H'->th C D σ H') :
  wpAny (model X.prog X.w) X.A (noteFrame ex X.env) (fun _ s₂=>wpAny (model X.prog X.w) X.A (setFlight ex none) (fun _ s₃=>wpAny (model X.prog X.w) X.A (handleBy ex X.env (hd :: hds)) (SP X pins D) X.xe s₃) X.xe s₂) X.xe s2:=by
 obtain ⟨a,C,H2,B,a0,rfl,os,bare,K,fl,q⟩:=hx
 rw [hst] at fl
 refine wpAny_looks_onW (by rw [I1.ok.frames,hst]) hf fl fun h3 held sl3=>?_
 refine wpAny_landsW held fun h4 fl4 sl4=>?_
 have st3:B.StaysIn h3:=held.1
 have K3:=K.slots I1 st3 sl3
 have K4:=K3.slots I1 fl4.1 sl4
 rw [<- hst] at fl4
 exact hh pins σ H1 H2 s1 { s2 with heap:=h4 } D a C B a0 I1 os bare K4 fl4 (hE _ _ _ q)
end
section
variable {X:Cx} {pins:List (Addr × Obj)} {σ:St} {H:Hp} {s:Shared} {a:Addr} {o:HO}
theorem Inv.track (I:Inv X pins σ H s) (hn:H a = none) (hnew:X.s₀.heap.get? a = none) (hL:a ≠ X.env.locals) (hC:∀ x c,X.env.cells.lookup x = some c->c ≠ a) (hP:∀ p ∈ X.pn ++ pins,p.1 ≠ a)
  (ho:ObjOk X.prog X.w (upd H a o) s.heap a o):Inv X pins σ (upd H a o) s:=by
 have ne:∀ b u,H b = some u->b ≠ a:=fun b u e z=>by rw [z,hn] at e; cases e
 refine ⟨I.ok,I.os,I.bare,⟨I.base.keep,I.base.slot,fun b ob e n hx=>?_,I.base.there,fun b xs e=>?_,fun b ob u e=>?_,fun b ps e=>?_⟩,I.loc,I.cell,?_,fun x c e=>?_,fun p hp=>?_,fun b u e=>?_,I.len⟩
 ·rw [upd_ne (fun z=>by rw [z,hnew] at e; cases e)]
  exact I.base.free b ob e n hx
 ·have q:=I.base.tups b xs e
  rw [upd_ne (ne b _ q)]; exact q
 ·have q:=I.base.frzs b ob u e
  rw [upd_ne (ne b _ q)]; exact q
 ·obtain ⟨m,q⟩:=I.base.tbls b ps e
  exact ⟨m,by rw [upd_ne (ne b _ q)]; exact q⟩
 ·rw [upd_ne (Ne.symm hL)]; exact I.free
 ·rw [upd_ne (hC x c e)]; exact I.freeC x c e
 ·obtain ⟨e1,e2,e3⟩:=I.pin p hp
  exact ⟨e1,by rw [upd_ne (hP p hp)]; exact e2,e3⟩
 ·by_cases z:b = a
  ·subst z; rw [upd_same] at e; cases e; exact ho
  ·rw [upd_ne z] at e
   exact (I.hok b u e).stay (fun _ _ _ q=>q) (fun c q=>by rw [upd_ne (ne c _ q)]; exact q) fun c xs q=>by rw [upd_ne (ne c _ q)]; exact q
end
noncomputable def handEnds (i:Nat) (D:Ends):Ends where
 nx:=fun σ' H'=>D.nx (σ'.set i none) H'
 rt:=D.rt
 bk:=fun σ' H'=>D.bk (σ'.set i none) H'
 ct:=fun σ' H'=>D.ct (σ'.set i none) H'
section
variable {X:Cx} {x n:Str} {C':Addr} {i:Nat} {np pos:Pos} {b₀:Stmt} {suite:List Stmt} {rest:List ExceptHandler} {ts:TS} {tr:Value->TS}
noncomputable def hAs (K:PySem.W.Frag) (C':Addr) (i:Nat) (ts:TS) (tr:Value->TS):Value->TS:=fun C D σ H=>∃ b,PySem.W.exmOne K C (.ref C') = some b /\
 if b = true then ∀ a,H a = none->ts (handEnds i D) (σ.set i (some (.ref a))) (upd H a (excO a C)) else tr C D σ H
theorem hd_as (hex:X.ex = []) (hN:X.N.Nodup) (hg:Gl X x) (hm:X.mg x = some (.ref C')) (hi:X.N[i]? = some n) (hk:X.env.scope.names.lookup n = some .local) (hs:∀ a,PSs (X.hand a) (b₀ :: suite) ts) (hr:Hd X rest tr)
  (hd:(x == ("__debug__":Str)) = false:=by decide):Hd X (.ExceptHandler (some (.Name x np)) (some n) (b₀ :: suite) pos :: rest) (hAs X.K C' i ts tr):=by
 intro pins σ H1 H2 s1 s2 D a C B a0 I1 os bare K fl h
 have I2:=K.inv I1 os bare
 obtain ⟨b,hb,h⟩:=h
 refine wpAny_handleBy_cons (codeAny_handlers_test (ld_glob (X:=X.hand a) (I2.hand a) hg hm ?_ hd)) (by intro z; cases z)
 obtain ⟨oe,he,hcls⟩:=fl.there
 have LT:PySem.W.Looks (model X.prog X.w) s2.heap (typeOf (.ref a)) C:=hcls ▸ (PySem.W.Looks.ld he).andThen .now
 refine (PySem.W.exm_one I2.kIn LT hb).here ?_
 cases b with
 | false=>exact hr pins σ H1 H2 s1 s2 D a C B a0 I1 os bare K fl h
 | true =>
  refine codeAny_handlers_suite_as (lands_againW fl fun h6 fl6 sl6=>?_)
  have K6:Kp X.prog X.w X.stack H1 s1.heap H2 ({ s2 with heap:=h6 }:Shared).heap B:=K.slots I1 fl6.1 sl6
  have I6:=K6.inv I1 os bare
  have new1:s1.heap.get? a = none:=by
   cases q:s1.heap.get? a with
   | none=>rfl
   | some ob =>
    by_cases hb:a ∈ frs X.stack
    ·obtain ⟨_,o',e',d'⟩:=I6.stack.mem hb
     obtain ⟨oe6,vs6,e6,_,d6,_⟩:=fl6.first
     rw [e6] at e'
     cases e'
     exact absurd d6 (d' vs6)
    ·obtain ⟨o',e'⟩:=K.has a ob q hb
     rw [fl.2.1] at e'; cases e'
  have hn:H2 a = none:=by
   cases q:H2 a with
   | none=>rfl
   | some u =>
    obtain ⟨o',_,e'⟩:=K.trk a u q
    rw [fl.2.1] at e'; cases e'
  have new0:X.s₀.heap.get? a = none:=by
   cases q:X.s₀.heap.get? a with
   | none=>rfl
   | some ob =>
    obtain ⟨o',e'⟩:=I1.base.there a ob q (by rw [hex]; simp)
    rw [new1] at e'; cases e'
  have hL:a ≠ X.env.locals:=by
   intro z
   obtain ⟨m,⟨oL,_,_,hoL,_⟩,_⟩:=I1.loc
   rw [<- z,new1] at hoL; cases hoL
  have hCe:∀ y c,X.env.cells.lookup y = some c->c ≠ a:=fun y c e z=>by
   obtain ⟨v,oc,hoc,_⟩:=I1.cell y c e
   rw [z,new1] at hoc; cases hoc
  have hPe:∀ p ∈ X.pn ++ pins,p.1 ≠ a:=fun p hp z=>by
   have q:=(I1.pin p hp).1
   rw [z,new1] at q; cases q
  have ho:ObjOk X.prog X.w (upd H2 a (excO a C)) h6 a (excO a C):=by
   obtain ⟨oe6,vs6,e6,c6,d6,_⟩:=fl6.first
   exact ⟨⟨oe6,vs6,e6,c6,d6⟩,⟨oe6,e6⟩,fun g1 g2 ⟨o1,v1,q1,q2,q3⟩ kk=>⟨o1,v1,kk o1 q1,q2,q3⟩⟩
  have I7:Inv X pins σ (upd H2 a (excO a C)) { s2 with heap:=h6 }:=I6.track hn new0 hL hCe hPe ho
  refine store_ok (X:=X.hand a) (v:=.ref a) (I7.hand a) hN hi (Or.inl hk) rfl (fun s8 I8=>?_) (Or.inr hk)
  refine wpAny_mono (hs a pins s8 _ _ (handEnds i D) I8 (h a hn)) (fun f s9 q=>?_) fun _ _ z=>z.elim
  cases f with
  | next =>
   obtain ⟨σ',H',I',q⟩:=q
   exact name_goesI (I'.unhand I1.ok) hN hi hk fun s10 I10=>⟨_,_,I10,q⟩
  | brk =>
   obtain ⟨σ',H',I',q⟩:=q
   exact name_goesI (I'.unhand I1.ok) hN hi hk fun s10 I10=>⟨_,_,I10,q⟩
  | cont =>
   obtain ⟨σ',H',I',q⟩:=q
   exact name_goesI (I'.unhand I1.ok) hN hi hk fun s10 I10=>⟨_,_,I10,q⟩
  | ret u =>
   obtain ⟨v,σ',H',I',r,q⟩:=q
   exact name_goesI (I'.unhand I1.ok) hN hi hk fun s10 I10=>⟨v,_,H',I10,r,q⟩
end
end L2
namespace L2
open PySem PySem.Spec PyProof.Rows PySem.W PySem.Builtin PySem.Builtin.ObjectAttr PySem.Builtin.Getset_descriptor
section
variable {prog:Program} {w:World} {A:Around} {E:Value->Shared->Prop}
theorem exc_get {a C:Addr} {tp:Value} {R:Result->Shared->Prop} {hh:Heap} {g:Array GenState} {dr:Drawn} {t:Nat} {os:OsState} (L0:Looks (model prog w) hh (typeOf (.ref a)) (.ref C)) (L1:Looks (model prog w) hh (isSubtype (.ref C) (.type "object")) true)
  (h:R (.ok (.ret (.ref C))) ⟨hh,g,dr,t,os⟩):codeAny (model prog w) A (.call (.builtin "getset_descriptor.__get__") ⟨[.builtin "object.__class__",.ref a,tp],[]⟩) R ⟨hh,g,dr,t,os⟩:=by
 have chk:=KF.args_gs (.builtin "object.__class__") (.ref a) tp
 refine codeAny_call_builtin KF.slot_gs.plain KF.entry_gs ?_
 refine KF.slot_gs.check _ _ _ _ _ _ _ _ KF.type_class chk ?_
 unfold Builtin.«getset_descriptor.__get__» descrGet
 rw [dga_obj]
 refine wpAny_bind (wpAny_pure ?_)
 unfold descrGetter
 unfold descrCheckInstance descrNameAndClass isInstance
 simp only [KF.owner_class]
 repeat lk
 refine ⟨Code.quiet_builtin _ (by decide +kernel),?_⟩
 refine codeAny_builtin KF.entry_class ?_
 unfold Builtin.«object.__class__»
 unfold shownTypeOf
 repeat lk
 exact h
theorem exc_ga {a C:Addr} {tk:Tok} {R:Result->Shared->Prop} {hh:Heap} {g:Array GenState} {dr:Drawn} {t:Nat} {os:OsState} {oe:Obj} (he:hh.get? a = some oe) (hc:oe.cls = .ref C) (L0:Looks (model prog w) hh (typeOf (.ref a)) (.ref C))
  (L3:Looks (model prog w) hh (typeLookup (.ref C) "__class__") (some (.builtin "object.__class__"))) (LB:Looks (model prog w) hh (isSubtype (.ref C) (.type "BaseException")) true)
  (LO:Looks (model prog w) hh (isSubtype (.ref C) (.type "object")) true) (h:R (.ok (.ret (.ref C))) ⟨hh,g,dr,t,os⟩) :
  codeAny (model prog w) A (.call (.builtin "BaseException.__getattribute__") ⟨[.ref a,.str "__class__" tk],[]⟩) R ⟨hh,g,dr,t,os⟩:=by
 refine codeAny_call_builtin PySem.F.attr_ValueError.ga.plain PySem.F.entry_bexc_ga ?_
 have k1:builtinKind "BaseException.__getattribute__" = some .slot:=by decide +kernel
 have k2:splitId "BaseException.__getattribute__" = some ("BaseException","__getattribute__"):=by decide +kernel
 have ha:=PySem.F.args_bexc_ga (.ref a) (.str "__class__" tk)
 have f5:=PySem.F.typeOf_object_class
 have f6:=PySem.F.slot_gs_get.lookup
 have f7:=PySem.F.slot_gs_set.lookup
 simp only [checkBuiltinCall,k1,k2]
 refine wpAny_bind ?_
 unfold isInstance
 repeat (first | (with_reducible refine wpAny_loadPart_at he ?_; rw [hc]) | (with_reducible refine LB.at ?_) | wp_step)
 repeat (any_goals (first | assumption | (with_reducible refine wpAny_loadPart_at he ?_; rw [hc]) | (with_reducible refine L3.at ?_) | wp_step))
 refine exc_get L0 LO ?_
 repeat (any_goals (first | assumption | wp_step))
theorem exc_class {K:Frag} {a C:Addr} {s:Shared} {oe:Obj} {Q:Option Value->Shared->Prop} (X:K.In s.heap) (he:s.heap.get? a = some oe) (hc:oe.cls = .ref C)
  (hga:findIn K (.ref C) "__getattribute__" = some (some (.builtin "BaseException.__getattribute__"))) (hg2:findIn K (.ref C) "__getattr__" = some none)
  (hcl:findIn K (.ref C) "__class__" = some (some (.builtin "object.__class__"))) (hmB:mroIn K C (.type "BaseException") = some true) (hmO:mroIn K C (.type "object") = some true)
  (h:Q (some (.ref C)) { s with toks:=s.toks + 1 }):wpAny (model prog w) A (getAttr? (.ref a) "__class__") Q E s:=by
 obtain ⟨hh,g,d,t,os⟩:=s
 have L0:Looks (model prog w) hh (typeOf (.ref a)) (.ref C):=hc ▸ (Looks.ld he).andThen .now
 have L1:Looks (model prog w) hh (typeLookup (.ref C) "__getattribute__") (some (.builtin "BaseException.__getattribute__")):=looks_findIn X hga
 have L2:Looks (model prog w) hh (typeLookup (.ref C) "__getattr__") none:=looks_findIn X hg2
 have L3:Looks (model prog w) hh (typeLookup (.ref C) "__class__") (some (.builtin "object.__class__")):=looks_findIn X hcl
 have LB:Looks (model prog w) hh (isSubtype (.ref C) (.type "BaseException")) true:=looks_mroIn X hmB
 have LO:Looks (model prog w) hh (isSubtype (.ref C) (.type "object")) true:=looks_mroIn X hmO
 have f3:=PySem.F.attr_ValueError.ga.bind (.ref a)
 unfold getAttr? getAttrBy? getAttrBy
 refine wpAny_bind (wpAny_mkText (wpAny_bind (wpAny_attempt (wpAny_holding (wpAny_bind (L0.at (wpAny_bind (L1.at ?_))))))))
 have hx2:(Value.builtin "BaseException.__getattribute__" == Value.builtin "object.__getattribute__") = false:=by decide +kernel
 dsimp only
 rw [hx2,Bool.and_false,if_neg Bool.false_ne_true]
 unfold getAttrByItsOwn
 repeat (any_goals (first | assumption | wp_step | (with_reducible refine L2.at ?_) | (with_reducible refine L0.at ?_)))
 refine exc_ga he hc L0 L3 LB LO ?_
 repeat (any_goals (first | assumption | wp_step))
structure ExcK (K:Frag) (C:Addr):Prop where
 ga:findIn K (.ref C) "__getattribute__" = some (some (.builtin "BaseException.__getattribute__"))
 g2:findIn K (.ref C) "__getattr__" = some none
 cl:findIn K (.ref C) "__class__" = some (some (.builtin "object.__class__"))
 mB:mroIn K C (.type "BaseException") = some true
 mO:mroIn K C (.type "object") = some true
theorem ExcK.cls {K:Frag} {C:Addr} (k:ExcK K C):∃ c d cd sl,K.lookup C = some ⟨c,d,.cls cd,sl⟩:=by
 have h:=k.mO
 unfold mroIn clsIn at h
 split at h
 ·rename_i c d cd sl e; exact ⟨c,d,cd,sl,e⟩
 ·cases h
theorem kitx_exc {K:Frag} {a C:Addr} (k:ExcK K C):KitX K (.ref a) (.ref C) (fun h=>∃ oe vs,h.get? a = some oe /\ oe.cls = .ref C /\ oe.data = .fields vs) where
 ty:=fun _ _ _ ⟨oe,_,e,c,_⟩=>c ▸ (Looks.ld e).andThen .now
 it:=fun _ _ X _=>by
  obtain ⟨c,d,cd,sl,e⟩:=k.cls
  intro A' Q' E' s' kk q
  unfold isType loadHead
  refine wpAny_bind (wpAny_loadPart (kk _ _ (X _ _ e)) ?_)
  exact wpAny_pure q
 ne:=fun h tp dd its n sl X htp=>by
  obtain ⟨c,d,cd,sl',e⟩:=k.cls
  cases q:(Value.ref C == Value.ref tp) with
  | false=>rfl
  | true =>
   have z:C = tp:=Value.ref.inj (beq_iff_eq.mp q)
   subst z
   have z2:=(X _ _ e).symm.trans htp
   cases z2
 ca:=fun X ⟨oe,vs,e,c,_⟩ q=>exc_class X e c k.ga k.g2 k.cl k.mB k.mO q
end
section
variable {X:Cx}
theorem refs_of:∀ {Ds:List Addr} {its:List Value},Vals (Ds.map V.ref) its->its = Ds.map Value.ref
 | [],_,.nil=>rfl
 | D :: Ds,_,.cons z zs=>by cases z; rw [List.map_cons,refs_of zs]
theorem call_isiE:CallR X (.builtin "isinstance") (fun xs H Q=>∃ a C c b,xs = [.ref a,c] /\ H a = some (excO a (.ref C)) /\ ExcK X.K C /\
  ((∃ n,c = .ty n /\ kitOne X.K (.ref C) (.type n) = some b) \/ (∃ D,c = .ref D /\ kitOne X.K (.ref C) (.ref D) = some b) \/ (∃ (p:Addr) (Ds:List Addr),c = .ref p /\ H p = some (.tup (Ds.map V.ref)) /\ kitAny X.K (.ref C) (Ds.map Value.ref) = some b)) /\ Q (.bl b) H):=by
 intro pins s σ H xs us Q I r h
 obtain ⟨a,C,c,b,rfl,hH,hk,hc,q⟩:=h
 obtain ⟨u,u',rfl,ru,ru'⟩:=vals2 r
 cases ru
 have ho:=I.hok a _ hH
 unfold excO at ho
 obtain ⟨hφ,_,_⟩:=ho
 have fin:∀ tk,EP X pins σ Q (.bool b) { s with toks:=tk }:=fun tk=>⟨.bl b,H,I.tok tk,rfl,q⟩
 rcases hc with ⟨n,rfl,e⟩ | ⟨D,rfl,e⟩ | ⟨p,Ds,rfl,hp,e⟩
 ·cases ru'
  exact kia_one (kitx_exc hk) I.kIn hφ e (fun z=>nomatch z) fin
 ·cases ru'
  exact kia_one (kitx_exc hk) I.kIn hφ e (fun z=>nomatch z) fin
 ·cases ru'
  obtain ⟨hz0,its,rv,ob,e1,e2,n,e3⟩:=(show ObjOk X.prog X.w H s.heap p (.tup (Ds.map V.ref)) from I.hok p _ hp)
  have ei:its = Ds.map Value.ref:=refs_of rv
  subst ei
  obtain ⟨oc,od,oda,osl⟩:=ob
  dsimp only at e2 e3
  subst e2 e3
  exact kia_tup (kitx_exc hk) I.kIn hφ e1 e (fun z=>nomatch z) fin
end
end L2
namespace L2
open PySem PySem.Spec PyProof.Rows
noncomputable def closOf (cells:List (Str × Addr)):List (Str × NameKind)->List (Str × Addr)->List (Str × Addr)
 | [],cs=>cs
 | x :: r,cs=>closOf cells r (if x.2 == .free then (match cells.lookup x.1 with | some a=>(x.1,a) :: cs | none=>cs) else cs)
theorem closureFor_eq {scope:Scope} {env:Env} (h:∀ x ∈ scope.names,x.2 = .free->∃ a,env.cells.lookup x.1 = some a):closureFor scope env = pure (closOf env.cells scope.names []):=by
 have aux:∀ (names:List (Str × NameKind)) (cs:List (Str × Addr)),(∀ x ∈ names,x.2 = .free->∃ a,env.cells.lookup x.1 = some a) ->
   (forIn (m:=Sem) names cs fun x r=>do
    if (x.2 == NameKind.free) = true then do
     let a <- cellOf env x.1
     pure (ForInStep.yield ((x.1,a) :: r))
    else pure (ForInStep.yield r)) = pure (closOf env.cells names cs):=by
  intro names
  induction names with
  | nil=>intro cs _; rfl
  | cons x r ih =>
   intro cs hx
   rw [List.forIn_cons]
   cases hk:(x.2 == NameKind.free) with
   | false =>
    simp only [Bool.false_eq_true,if_false,pure_bind]
    rw [ih cs fun y hy=>hx y (List.mem_cons_of_mem _ hy)]
    show _ = pure (closOf env.cells r (if x.2 == .free then _ else cs))
    rw [hk]; rfl
   | true =>
    obtain ⟨a,ha⟩:=hx x List.mem_cons_self (by simpa using hk)
    have e:cellOf env x.1 = pure a:=by unfold cellOf; rw [ha]
    simp only [if_true,e,pure_bind]
    rw [ih _ fun y hy=>hx y (List.mem_cons_of_mem _ hy)]
    show _ = pure (closOf env.cells r (if x.2 == .free then (match env.cells.lookup x.1 with | some a=>(x.1,a) :: cs | none=>cs) else cs))
    rw [hk,ha]; rfl
 have h1:=aux scope.names [] h
 unfold closureFor
 simp only [bind_pure]
 exact h1
theorem closOf_sub {cells:List (Str × Addr)}:∀ {names:List (Str × NameKind)} {cs:List (Str × Addr)},(∀ p ∈ cs,cells.lookup p.1 = some p.2)->∀ p ∈ closOf cells names cs,cells.lookup p.1 = some p.2
 | [],_,h=>h
 | x :: r,cs,h=>closOf_sub (names:=r) fun p hp=>by
  split at hp
  ·split at hp
   ·rename_i a ha
    rcases List.mem_cons.mp hp with rfl | hp
    ·exact ha
    ·exact h p hp
   ·exact h p hp
  ·exact h p hp
theorem closOf_mono {cells:List (Str × Addr)}:∀ {names:List (Str × NameKind)} {cs:List (Str × Addr)} {p:Str × Addr},p ∈ cs->p ∈ closOf cells names cs
 | [],_,_,h=>h
 | x :: r,cs,p,h=>closOf_mono (names:=r) (by
  split
  ·split
   ·exact List.mem_cons_of_mem _ h
   ·exact h
  ·exact h)
theorem closOf_has {cells:List (Str × Addr)} {x:Str} {a:Addr} (ha:cells.lookup x = some a):∀ {names:List (Str × NameKind)} {cs:List (Str × Addr)},(x,NameKind.free) ∈ names->(x,a) ∈ closOf cells names cs
 | y :: r,cs,h=>by
  rcases List.mem_cons.mp h with rfl | h
  ·refine closOf_mono (names:=r) ?_
   simp [ha]
  ·exact closOf_has ha (names:=r) h
theorem lookup_mem {α:Type} {x:Str} {v:α}:∀ {l:List (Str × α)},l.lookup x = some v->(x,v) ∈ l
 | [],h=>by simp at h
 | (y,u) :: r,h=>by
  rw [List.lookup_cons] at h
  cases e:x == y with
  | true=>rw [e] at h; cases h; rw [beq_iff_eq.mp e]; exact List.mem_cons_self
  | false=>rw [e] at h; exact List.mem_cons_of_mem _ (lookup_mem h)
theorem mem_lookup {α:Type} {x:Str} {v:α}:∀ {l:List (Str × α)},(x,v) ∈ l->∃ u,l.lookup x = some u
 | (y,u) :: r,h=>by
  rw [List.lookup_cons]
  cases e:x == y with
  | true=>exact ⟨u,rfl⟩
  | false =>
   rcases List.mem_cons.mp h with z | z
   ·cases z; simp at e
   ·exact mem_lookup z
noncomputable def compOk (osc scope:Scope) (N Tn Fn:List Str) (js:List Nat):Bool :=
 (scope.kind == .function) && (osc.kind == .function) && (scope.names.all fun y=>match y.2 with
  | .cell=>false
  | .local=>scope.names.lookup y.1 == some .local
  | .free=>osc.names.lookup y.1 == some .cell && scope.names.lookup y.1 == some .free
  | _=>true) && (js.map (fun j=>N[j]?) == Fn.map some) && (Fn.all fun x=>scope.names.lookup x == some .free) && (Tn.all fun x=>scope.names.lookup x == some .local) && decide (Tn ++ Fn).Nodup
structure CompScope (osc scope:Scope) (N Tn Fn:List Str) (js:List Nat):Prop where
 kind:scope.kind = .function
 okind:osc.kind = .function
 nocell:∀ y ∈ scope.names,y.2 ≠ .cell
 loc:∀ y ∈ scope.names,y.2 = .local->scope.names.lookup y.1 = some .local
 fre:∀ y ∈ scope.names,y.2 = .free->osc.names.lookup y.1 = some .cell
 idx:js.map (fun j=>N[j]?) = Fn.map some
 fn:∀ x ∈ Fn,scope.names.lookup x = some .free
 tn:∀ x ∈ Tn,scope.names.lookup x = some .local
 nd:(Tn ++ Fn).Nodup
theorem CompScope.of {osc scope:Scope} {N Tn Fn:List Str} {js:List Nat} (h:compOk osc scope N Tn Fn js = true):CompScope osc scope N Tn Fn js:=by
 unfold compOk at h
 simp only [Bool.and_eq_true,beq_iff_eq,decide_eq_true_eq,List.all_eq_true] at h
 obtain ⟨⟨⟨⟨⟨⟨h1,h1'⟩,h2⟩,h3⟩,h4⟩,h5⟩,h6⟩:=h
 refine ⟨h1,h1',fun y hy e=>?_,fun y hy e=>?_,fun y hy e=>?_,h3,h4,h5,h6⟩
 ·have:=h2 y hy; rw [e] at this; cases this
 ·have:=h2 y hy; rw [e] at this; simpa using this
 ·have:=h2 y hy; rw [e] at this; simp only [Bool.and_eq_true,beq_iff_eq] at this; exact this.1
noncomputable def cxIn (X:Cx) (N:List Str) (scope:Scope) (cl:List (Str × Addr)) (C:Addr) (s:Shared) (H:Hp) (fp:List Addr):Cx :=
 { X with N:=N,s₀:=s,H₀:=H,env:=compEnvC scope cl C X.env,outer:=X.stack,ex:=fp,fn:=fun _=>false,pn:=[],xe:=fun _ _=>False }
noncomputable def innS (k:Nat) (js:List Nat) (σ:St):St:=List.replicate k none ++ js.map fun j=>(σ[j]?).join
theorem lookup_relabel {env:Env} (hk:env.scope.kind = .function):∀ {names:List (Str × NameKind)} {x:Str} {k:NameKind},(∀ y ∈ names,y.2 = .free->env.kindOf y.1 = some .cell)->names.lookup x = some k ->
  (names.map fun (n,k)=>if (k == NameKind.free && env.scope.kind == .function && env.kindOf n == some .cell) then (n,NameKind.cell) else (n,k)).lookup x = some (if k = .free then .cell else k)
 | [],_,_,_,h=>by simp at h
 | (n,k') :: r,x,k,hf,h=>by
  have ih:=@lookup_relabel env hk r x k fun y hy=>hf y (List.mem_cons_of_mem _ hy)
  have h0:=hf (n,k') List.mem_cons_self
  rw [List.map_cons]
  show List.lookup x ((if (k' == NameKind.free && env.scope.kind == .function && env.kindOf n == some .cell) = true then (n,NameKind.cell) else (n,k')) :: _) = _
  rw [List.lookup_cons] at h
  by_cases hk':k' = .free
  ·subst hk'
   have e:(NameKind.free == NameKind.free && env.scope.kind == .function && env.kindOf n == some .cell) = true:=by rw [h0 rfl,hk]; decide
   rw [if_pos e,List.lookup_cons]
   cases hx:x == n with
   | true=>rw [hx] at h; cases h; rfl
   | false=>rw [hx] at h; exact ih h
  ·have e:¬ (k' == NameKind.free && env.scope.kind == .function && env.kindOf n == some .cell) = true:=by
    intro z; simp only [Bool.and_eq_true,beq_iff_eq] at z; exact hk' z.1.1
   rw [if_neg e,List.lookup_cons]
   cases hx:x == n with
   | true=>rw [hx] at h; cases h; simp [hk']
   | false=>rw [hx] at h; exact ih h
theorem relabel_of {env:Env}:∀ {names:List (Str × NameKind)} {x:Str} {k:NameKind},(names.map fun (n,k)=>if (k == NameKind.free && env.scope.kind == .function && env.kindOf n == some .cell) then (n,NameKind.cell) else (n,k)).lookup x = some k ->
  ∃ k',(x,k') ∈ names /\ (k' = k \/ (k' = .free /\ k = .cell))
 | [],_,_,h=>by simp at h
 | (n,k') :: r,x,k,h=>by
  have ih:=@relabel_of env r x k
  rw [List.map_cons] at h
  have h:List.lookup x ((if (k' == NameKind.free && env.scope.kind == .function && env.kindOf n == some .cell) = true then (n,NameKind.cell) else (n,k')) :: _) = some k:=h
  by_cases e:(k' == NameKind.free && env.scope.kind == .function && env.kindOf n == some .cell) = true
  ·rw [if_pos e,List.lookup_cons] at h
   cases hx:x == n with
   | true =>
    rw [hx] at h; cases h
    simp only [Bool.and_eq_true,beq_iff_eq] at e
    refine ⟨.free,?_,.inr ⟨rfl,rfl⟩⟩
    rw [beq_iff_eq.mp hx,<- e.1.1]; exact List.mem_cons_self
   | false=>rw [hx] at h; obtain ⟨q,m,z⟩:=ih h; exact ⟨q,List.mem_cons_of_mem _ m,z⟩
  ·rw [if_neg e,List.lookup_cons] at h
   cases hx:x == n with
   | true=>rw [hx] at h; cases h; refine ⟨k',?_,.inl rfl⟩; rw [beq_iff_eq.mp hx]; exact List.mem_cons_self
   | false=>rw [hx] at h; obtain ⟨q,m,z⟩:=ih h; exact ⟨q,List.mem_cons_of_mem _ m,z⟩
section
variable {X:Cx} {pins:List (Addr × Obj)} {σ:St} {H:Hp} {s:Shared} {scope:Scope} {Tn Fn:List Str} {js:List Nat} {fp:List Addr}
theorem inv_in {C:Addr} {h1:Heap} {tk:Nat} {mC:Str->Option Value} (cs:CompScope X.env.scope scope X.N Tn Fn js) (I:Inv X pins σ H s) (hC:C = s.heap.objs.size) (hn:h1.Ns C mC) (k1:∀ b o,s.heap.get? b = some o->h1.get? b = some o)
  (hf:∀ b ∈ fp,FpOk X pins H b) (ho:∀ b ∈ fp,∃ o,s.heap.get? b = some o) :
  Inv (cxIn X (Tn ++ Fn) scope (closOf X.env.cells scope.names []) C s H fp) (X.pn ++ pins) (innS Tn.length js σ) H { s with heap:=h1,toks:=tk }:=by
 have hcl:∀ x c,(closOf X.env.cells scope.names []).lookup x = some c->X.env.cells.lookup x = some c:=fun x c e=>closOf_sub (names:=scope.names) (cs:=[]) (fun _ z=>nomatch z) _ (lookup_mem e)
 have hlen:(js.map fun j=>X.N[j]?).length = (Fn.map some).length:=congrArg List.length cs.idx
 rw [List.length_map,List.length_map] at hlen
 have hfr:∀ y ∈ scope.names,y.2 = .free->X.env.kindOf y.1 = some .cell:=cs.fre
 subst hC
 refine ⟨⟨I.ok.mod,cs.kind,I.ok.glob,I.ok.blt,Nat.le_refl _,fun x y c e1 e2=>I.ok.inj x y c (hcl x c e1) (hcl y c e2),fun x hx=>?_,fun x c z=>absurd z Bool.false_ne_true,I.ok.hd,I.ok.frames,.inl rfl,fun b hb=>⟨?_,fun x c e=>(hf b hb).2.2.2.2.1 x c (hcl x c e)⟩,I.bs,
  Nat.le_trans I.ok.bsz I.sz,fun b o e hb=>?_,fun b hb z=>?_,I.stack,I.stkFree⟩,rfl,I.bare,Un.kept k1,⟨mC,hn,fun i x v e1 e2 e3=>?_⟩,fun x c e=>?_,I.fresh,fun x c e=>I.freeC x c (hcl x c e),fun p hp=>?_,I.hok.kept k1,?_⟩
 ·-- has
  have hx:(relabel scope X.env).names.lookup x = some .cell \/ (relabel scope X.env).names.lookup x = some .free:=hx
  have key:(x,NameKind.free) ∈ scope.names:=by
   rcases hx with hx | hx
   ·obtain ⟨k',m,z⟩:=relabel_of hx
    rcases z with z | ⟨z,_⟩
    ·subst z; exact absurd rfl (cs.nocell _ m)
    ·subst z; exact m
   ·obtain ⟨k',m,z⟩:=relabel_of hx
    rcases z with z | ⟨_,z⟩
    ·subst z; exact m
    ·cases z
  obtain ⟨a,ha⟩:=I.ok.has x (.inl (hfr _ key rfl))
  exact mem_lookup (closOf_has ha key)
 ·obtain ⟨o,e⟩:=ho b hb
  exact Nat.ne_of_lt (Heap.lt_size e)
 ·rcases (hf b hb).2.2.2.1 with z | z
  ·exact I.ok.noex b o e z
  ·exact absurd (Nat.lt_of_lt_of_le (Heap.lt_size (I.ok.bs b o e).1) z) (Nat.lt_irrefl _)
 ·rcases List.mem_cons.mp (I.stkSub b z) with q | q
  ·exact (hf b hb).2.1 q
  ·exact (hf b hb).2.2.1 q
 ·-- names
  have e1:(Tn ++ Fn)[i]? = some x:=e1
  have e2:(List.replicate Tn.length none ++ js.map fun j=>(σ[j]?).join)[i]? = some (some v):=e2
  by_cases hi:i < Tn.length
  ·rw [List.getElem?_append_left (by simpa using hi),List.getElem?_replicate] at e2
   split at e2 <;> cases e2
  ·rw [List.getElem?_append_right (by simpa using hi)] at e2
   rw [List.getElem?_append_right (by simpa using hi)] at e1
   rw [List.length_replicate,List.getElem?_map] at e2
   cases ej:js[i - Tn.length]? with
   | none=>rw [ej] at e2; cases e2
   | some j =>
    rw [ej] at e2
    have e2:(σ[j]?).join = some v:=by simpa using e2
    have e2':σ[j]? = some (some v):=by
     cases q:σ[j]? with
     | none=>rw [q] at e2; cases e2
     | some o=>rw [q] at e2; cases o with
      | none=>cases e2
      | some v'=>cases e2; rfl
    have ej':X.N[j]? = some x:=by
     have h0:(js.map fun j=>X.N[j]?)[i - Tn.length]? = (Fn.map some)[i - Tn.length]?:=by rw [cs.idx]
     rw [List.getElem?_map,ej,List.getElem?_map,e1] at h0
     simpa using h0
    have hx:scope.names.lookup x = some .free:=cs.fn x (List.mem_of_getElem? e1)
    have hox:X.env.kindOf x = some .cell:=hfr _ (lookup_mem hx) rfl
    obtain ⟨m,hm,hl⟩:=I.loc
    obtain ⟨u,r,l⟩:=hl j x v ej' e2' (.inr (.inl hox))
    refine ⟨u,r,.inr ⟨.inl ?_,?_⟩⟩
    ·show (relabel scope X.env).names.lookup x = some .cell
     have z:=lookup_relabel (env:=X.env) cs.okind (names:=scope.names) hfr hx
     rw [if_pos rfl] at z
     exact z
    ·rcases l with ⟨k,_⟩ | ⟨_,c,ec,z⟩
     ·rw [hox] at k; cases k
     ·obtain ⟨c',e'⟩:=mem_lookup (closOf_has (cs:=[]) ec (lookup_mem hx))
      have:c' = c:=Option.some.inj ((hcl x c' e').symm.trans ec)
      subst this
      obtain ⟨o,q1,q2⟩:=z
      exact ⟨c',e',o,k1 _ _ q1,q2⟩
 ·obtain ⟨v,o,q1,q2⟩:=I.cell x c (hcl x c e)
  exact ⟨v,o,k1 _ _ q1,q2⟩
 ·have hp:p ∈ ([]:List (Addr × Obj)) ++ (X.pn ++ pins):=hp
  rw [List.nil_append] at hp
  obtain ⟨e,n,ne,nf,d⟩:=I.pin p hp
  refine ⟨k1 _ _ e,n,Nat.ne_of_lt (Heap.lt_size e),fun z=>?_,d⟩
  rcases List.mem_cons.mp (I.stkSub p.1 z) with q | q
  ·exact ne q
  ·exact nf q
 ·show (List.replicate Tn.length none ++ js.map fun j=>(σ[j]?).join).length = (Tn ++ Fn).length
  rw [List.length_append,List.length_append,List.length_replicate,List.length_map,hlen]
structure CFree (X:Cx) (pins:List (Addr × Obj)) (C:Addr):Prop where
 nl:C ≠ X.env.locals
 yg:X.s₀.heap.objs.size <= C
 nc:∀ x c,X.env.cells.lookup x = some c->c ≠ C
 np:∀ p ∈ X.pn ++ pins,p.1 ≠ C
theorem Inv.letgo {C:Addr} {h2:Heap} (I:Inv X pins σ H s) (hn:H C = none) (c:CFree X pins C) (sb:Heap.SameBut C s.heap h2):Inv X pins σ H { s with heap:=h2 } :=
 I.turned (t':=s.toks) (it:=C) (fun b o hb e=>(sb.2 b hb).trans e) hn c.nl (.inr c.yg) c.nc c.np
theorem Inv.cfree {C:Addr} (I:Inv X pins σ H s) (hC:C = s.heap.objs.size):CFree X pins C:=by
 refine ⟨by rw [hC]; exact Nat.ne_of_gt I.lt,by rw [hC]; exact I.sz,fun x c e z=>?_,fun p hp z=>?_⟩
 ·obtain ⟨v,q⟩:=I.cell x c e
  have:=q.lt
  rw [z,hC] at this; exact absurd this (Nat.lt_irrefl _)
 ·have:=Heap.lt_size (I.pin p hp).1
  rw [z,hC] at this; exact absurd this (Nat.lt_irrefl _)
theorem inv_out {C:Addr} {cl:List (Str × Addr)} {N:List Str} {σ':St} {H':Hp} {pins':List (Addr × Obj)} {s':Shared} (I:Inv X pins σ H s) (hf:∀ b ∈ fp,FpOk X pins H b) (J:Inv (cxIn X N scope cl C s H fp) pins' σ' H' s'):Inv X pins σ H' s' :=
 I.call' (ch:=fp) J.os J.base J.hok J.bare fun b hb=>⟨(hf b hb).2.2.2.1,(hf b hb).2.1,(hf b hb).2.2.2.2.1,(hf b hb).2.2.2.2.2⟩
end
section
variable {prog:Program} {w:World} {A:Around} {s:Shared}
theorem compLoop_go {elt target iter:Expr} {ifs:List Expr} {scope:Scope} {pos:Pos} {it acc:Value} {env:Env} {R:Result->Shared->Prop} (I:Nat->Shared->Prop)
  (turn:∀ n s,I n s->wpAny (model prog w) A (pyNext it) (fun r s₁=>match r with
   | none=>R (.ok .next) s₁
   | some v=>wpAny (model prog w) A (letOwnedTupleGo target it v) (fun _ s₀=>wpAny (model prog w) A (assign target env v) (fun _ s₂ =>
     wpAny (model prog w) A (forIn ifs true fun c r=>if r = true then do let ok <- isTrue c env (eval c env); pure (ForInStep.yield ok) else pure (ForInStep.yield r)) (fun ok s₃ =>
      if ok = true then wpAny (model prog w) A (eval elt env) (fun x s₄ =>
       wpAny (model prog w) A (call (.builtin "list.append") [acc,x]) (fun _ s₅=>∃ m,m < n /\ I m s₅) (fun _ _=>False) s₄) (fun _ _=>False) s₃
      else ∃ m,m < n /\ I m s₃) (fun _ _=>False) s₂) (fun _ _=>False) s₀) (fun _ _=>False) s₁) (fun _ _=>False) s)
  (n:Nat) (h:I n s):codeAny (model prog w) A (.compLoop (.ListComp elt [⟨target,iter,ifs,0⟩] scope pos) 0 it acc env) R s:=by
 refine codeAny_loop rfl I (fun n s hI=>?_) n h
 show wpAny _ A ((compTurn (.ListComp elt [⟨target,iter,ifs,0⟩] scope pos) 0 it acc env).onRaise (fun x=>do noteFrame x env; theTreesLotGoes x)) _ _ s
 refine wpAny_noted ?_
 rw [compTurn_list]
 refine wpAny_bind (wpAny_standAt (wpAny_bind (wpAny_mono (turn n s hI) (fun r s₁ h₁=>?_) fun _ _ h'=>h'.elim)))
 cases r with
 | none=>exact wpAny_pure h₁
 | some v =>
  refine wpAny_bind (wpAny_mono h₁ (fun _ s₀ h₀'=>?_) fun _ _ h'=>h'.elim)
  refine wpAny_bind (wpAny_mono h₀' (fun _ s₂ h₂=>wpAny_bind (wpAny_mono h₂ (fun ok s₃ h₃=>?_) fun _ _ h'=>h'.elim)) fun _ _ h'=>h'.elim)
  cases ok with
  | false=>exact wpAny_pure ⟨rfl,h₃⟩
  | true =>
   exact wpAny_bind (wpAny_bind (wpAny_mono h₃ (fun x s₄ h₄=>wpAny_bind (wpAny_mono h₄ (fun _ s₅ h₅=>wpAny_pure (wpAny_pure ⟨rfl,h₅⟩)) fun _ _ h'=>h'.elim)) fun _ _ h'=>h'.elim))
end
noncomputable def PIfs (X:Cx) (ifs:List Expr) (t:TT):Prop :=
 ∀ (pins:List (Addr × Obj)) (s:Shared) (σ:St) (H:Hp) (Q:Bool->Hp->Prop),Inv X pins σ H s->t σ H Q ->
  wpAny (model X.prog X.w) X.A (forIn ifs true fun c r=>if r = true then do let ok <- isTrue c X.env (eval c X.env); pure (ForInStep.yield ok) else pure (ForInStep.yield r)) (TP X pins σ Q) X.xe s
noncomputable abbrev tTrue:TT:=fun _ H Q=>Q true H
theorem pif_none {X:Cx}:PIfs X [] tTrue:=fun _ _ _ H _ I h=>wpAny_tests_nil ⟨H,I,h⟩
theorem pif_one {X:Cx} {c:Expr} {t:TT} (h:PT X c t):PIfs X [c] t:=fun pins s σ H Q I hq=>wpAny_tests_one (h pins s σ H Q I hq)
noncomputable def tBlock (J:It) (g:TG) (tc:TT) (te:TE) (D:Addr) (Z:Hp->Prop) (σ:St) (H:Hp):Prop :=
 ∃ W:Nat->Nat->St->Hp->Prop,(∃ m,W 0 m σ H) /\ ∀ i m σ H,W i m σ H ->
  (J.stop i H /\ Z H) \/ (J.go i H /\ ∃ N:St->Hp->Prop,(∀ σ' H',N σ' H'->∃ m',m' < m /\ W (i + 1) m' σ' H') /\
   ∀ x H',J.yld i H x H'->g x σ H' fun σ2 H2=>tc σ2 H2 fun b H3=>if b = true then te σ2 H3 fun y H4=>∃ ys,H4 D = some (.lst ys) /\ ys.length < sizeLine /\ N σ2 (upd H4 D (.lst (ys ++ [y]))) else N σ2 H3)
section
variable {X:Cx} {scope:Scope} {Tn Fn:List Str} {js:List Nat} {tg iter elt:Expr} {ifs:List Expr} {wi:TI} {g:TG} {tc:TT} {te:TE} {pos:Pos}
theorem block_run {pins:List (Addr × Obj)} {σ:St} {H2:Hp} {s2:Shared} {it:Addr} {fp:List Addr} {tn:Nat->Heap->Prop} {J:It} {Z:Addr->Hp->Prop} {RR:Value->Addr->Result->Shared->Prop} {E:Value->Shared->Prop} (hc:X.calm = true)
  (cs:CompScope X.env.scope scope X.N Tn Fn js)
  (hg:∀ C s H fp,PG (cxIn X (Tn ++ Fn) scope (closOf X.env.cells scope.names []) C s H fp) tg g) (ht:∀ C s H fp,PIfs (cxIn X (Tn ++ Fn) scope (closOf X.env.cells scope.names []) C s H fp) ifs tc)
  (he:∀ C s H fp,PE (cxIn X (Tn ++ Fn) scope (closOf X.env.cells scope.names []) C s H fp) elt te)
  (I2:Inv X pins σ H2 s2) (T:Turn X.prog X.w X.K tg J fp it tn) (st2:tn 0 s2.heap) (f2:∀ b ∈ fp,FpOk X pins H2 b)
  (hb:∀ D,H2 D = none->tBlock J g tc te D (Z D) (innS Tn.length js σ) (upd H2 D (.lst [])))
  (fin:∀ D C s' H' m,s'.heap.Ns C m->Inv X pins σ H' s'->H' C = none->CFree X pins C->Z D H'->RR (.ref D) C (.ok .next) s') :
  wpAny (model X.prog X.w) X.A (newList []) (fun acc s₃=>wpAny (model X.prog X.w) X.A (newFunctionEnv scope X.env.globals (closOf X.env.cells scope.names []) [] X.env.qual none .none (some X.env)) (fun cenv s₄ =>
   codeAny (model X.prog X.w) X.A (.compStart (.ListComp elt [⟨tg,iter,ifs,0⟩] scope pos) 0 (.ref it) acc { cenv with scope:=relabel scope X.env }) (RR acc cenv.locals) s₄) E s₃) E s2:=by
 refine wpAny_newObj_type (wpAny_newFunctionEnv cs.nocell (by intro y hy; simp at hy) (fun h₁ hns₁ hsb₁=>?_) cs.kind)
 dsimp only at hns₁ hsb₁ ⊢
 have I3:=I2.lnew (its:=[]) (ys:=[]) (t':=s2.toks) .nil (Nat.zero_le _)
 have fD:H2 s2.heap.objs.size = none:=I2.fresh
 obtain ⟨W,⟨m0,w0⟩,turn⟩:=hb _ fD
 generalize hH2:s2.heap.push { cls:=.type "list",dict:=none,data:=.seq ([]:List Value).toArray } = g2 at hns₁ hsb₁ I3 ⊢
 have up2:∀ b o,s2.heap.get? b = some o->g2.get? b = some o:=fun b o e=>hH2 ▸ Heap.get?_push_of_some _ e
 generalize hD:s2.heap.objs.size = D at *
 have up3:∀ b o,g2.get? b = some o->h₁.get? b = some o:=fun b o e=>hsb₁.extBut b o (Nat.ne_of_lt (Heap.lt_size e)) (Heap.get?_push_of_some _ e)
 have hob:∀ b ∈ fp,∃ o,s2.heap.get? b = some o:=fun b hb=>let ⟨o,e,_⟩:=T.obj 0 _ st2 b hb; ⟨o,e⟩
 have neD:∀ b ∈ fp,b ≠ D:=fun b hb=>by
  obtain ⟨o,e⟩:=hob b hb
  rw [<- hD]; exact Nat.ne_of_lt (Heap.lt_size e)
 have f3:∀ b ∈ fp,FpOk X pins (upd H2 D (.lst [])) b:=fun b hb=>⟨by rw [upd_ne (neD b hb)]; exact (f2 b hb).1,(f2 b hb).2⟩
 have J0:=inv_in (fp:=fp) (tk:=s2.toks + ([]:List (Str × Value)).length) cs I3 rfl hns₁ up3 f3 fun b hb=>let ⟨o,e⟩:=hob b hb; ⟨o,up2 b o e⟩
 have tn0:tn 0 h₁:=T.keep _ _ _ st2 fun b hb o e=>up3 b o (up2 b o e)
 have cf:CFree X pins g2.objs.size:=I3.cfree rfl
 generalize hX':cxIn X (Tn ++ Fn) scope (closOf X.env.cells scope.names []) g2.objs.size { s2 with heap:=g2,toks:=s2.toks } (upd H2 D (.lst [])) fp = X' at J0
 have eP:X'.prog = X.prog:=by rw [<- hX']; rfl
 have ew:X'.w = X.w:=by rw [<- hX']; rfl
 have eK:X'.K = X.K:=by rw [<- hX']; rfl
 have eA:X'.A = X.A:=by rw [<- hX']; rfl
 have ec:X'.calm = true:=by rw [<- hX']; exact hc
 have ee:X'.env = compEnvC scope (closOf X.env.cells scope.names []) g2.objs.size X.env:=by rw [<- hX']; rfl
 have ex:X'.xe = fun _ _=>False:=by rw [<- hX']; rfl
 have Hg:PG X' tg g:=by rw [<- hX']; exact hg _ _ _ _
 have Ht:PIfs X' ifs tc:=by rw [<- hX']; exact ht _ _ _ _
 have He:PE X' elt te:=by rw [<- hX']; exact he _ _ _ _
 have out:∀ {pins' σ' H' s'},Inv X' pins' σ' H' s'->Inv X pins σ H' s':=by
  intro pins' σ' H' s' J
  rw [<- hX'] at J
  exact inv_out I3 f3 J
 have fsX:∀ b ∈ fp,b ∉ X'.fs:=by
  intro b hb z
  rw [<- hX'] at z
  rcases List.mem_cons.mp (I3.stkSub b z) with q | q
  ·exact (f3 b hb).2.1 q
  ·exact (f3 b hb).2.2.1 q
 have stat:∀ {H':Hp},(∀ b ∈ fp,H' b = none)->∀ b ∈ fp,FpOk X' (X.pn ++ pins) H' b:=fun {H'} hn b hb=>by
  refine ⟨hn b hb,?_,fsX b hb,.inl (by rw [<- hX']; exact hb),?_,?_⟩
  ·rw [ee]
   obtain ⟨o,e⟩:=hob b hb
   exact Nat.ne_of_lt (Heap.lt_size (up2 b o e))
  ·intro x c e
   rw [ee] at e
   exact (f3 b hb).2.2.2.2.1 x c (closOf_sub (names:=scope.names) (cs:=[]) (fun _ z=>nomatch z) _ (lookup_mem e))
  ·intro p hp
   have hp:p ∈ X.pn ++ pins:=by rw [<- hX'] at hp; simpa [cxIn] using hp
   exact (f3 b hb).2.2.2.2.2 p hp
 have loop:∀ s4:Shared,s4 = { s2 with heap:=h₁,toks:=s2.toks + ([]:List (Str × Value)).length } ->
   codeAny (model X.prog X.w) X.A (.compLoop (.ListComp elt [⟨tg,iter,ifs,0⟩] scope pos) 0 (.ref it) (.ref D) (compEnvC scope (closOf X.env.cells scope.names []) g2.objs.size X.env)) (RR (.ref D) g2.objs.size) s4:=by
  rintro s4 rfl
  refine compLoop_go (fun n s'=>∃ i σ' H',Inv X' (X.pn ++ pins) σ' H' s' /\ tn i s'.heap /\ (∀ b ∈ fp,H' b = none) /\ W i n σ' H') ?_ m0 ⟨0,_,_,J0,tn0,fun b hb=>(f3 b hb).1,w0⟩
  rintro n s5 ⟨i,σ5,H5,I5,st5,fr5,w5⟩
  rw [<- ee,<- eA,<- eP,<- ew,<- ex]
  rcases turn i n σ5 H5 w5 with ⟨stop,qz⟩ | ⟨go,N,hN,step⟩
  ·have td:=T.done X' eP ew eK ec i (X.pn ++ pins) s5 σ5 H5 X'.xe I5 (stat fr5) st5 stop
   rw [<- eP,<- ew] at td
   refine thn td fun r s6 ⟨hr,I6⟩=>?_
   subst hr
   obtain ⟨m,hm,_⟩:=id I6.loc
   rw [ee] at hm
   have hfr:=I6.free
   rw [ee] at hfr
   exact fin D _ s6 H5 m hm (out I6) hfr cf qz
  ·have ti:=T.item X' eP ew eK ec i (X.pn ++ pins) s5 σ5 H5 X'.xe I5 (stat fr5) st5 go
   rw [<- eP,<- ew] at ti
   refine thn ti fun r s6 ⟨u,hr,h6⟩=>?_
   subst hr
   refine thn h6 fun _ s7 ⟨x,H7,I7,r7,y7,st7,fr7⟩=>?_
   have I7':=I7.pinned (stat fr7) (T.obj _ _ st7)
   refine thn (Hg _ s7 σ5 H7 x u _ I7' r7 (step x H7 y7)) fun _ s8 ⟨σ8,H8,I8,q8⟩=>?_
   refine thn (Ht _ s8 σ8 H8 _ I8 q8) fun ok s9 ⟨H9,I9,q9⟩=>?_
   have again:∀ {σa:St} {Ha:Hp} {sa:Shared},Inv X' ((X.pn ++ pins) ++ pinsAt fp s7.heap) σa Ha sa->N σa Ha->∃ m,m < n /\ ∃ i σ' H',Inv X' (X.pn ++ pins) σ' H' sa /\ tn i sa.heap /\ (∀ b ∈ fp,H' b = none) /\ W i m σ' H':=fun {σa Ha sa} Ia na=>by
    obtain ⟨m',hm,wa⟩:=hN σa Ha na
    refine ⟨m',hm,i + 1,σa,Ha,Ia.unpinned,T.keep _ _ _ st7 fun b hb o e=>(Ia.pin (b,o) (List.mem_append_right _ (List.mem_append_right _ (mem_pinsAt hb e)))).1,fun b hb=>?_,wa⟩
    obtain ⟨o,e,d⟩:=T.obj _ _ st7 b hb
    exact (Ia.pin (b,o) (List.mem_append_right _ (List.mem_append_right _ (mem_pinsAt hb e)))).2.1
   cases ok with
   | false=>exact again I9 q9
   | true =>
    refine thn (He _ s9 σ8 H9 _ I9 q9) fun y s10 ⟨yv,H10,I10,r10,ys,e10,l10,n10⟩=>?_
    exact thn (mt_append (X:=X') _ s10 σ8 H10 (.ref D) [yv] (.ref D) [y] (fun _ H'=>N σ8 H') I10 rfl (.cons r10 .nil) ⟨D,ys,yv,rfl,rfl,e10,l10,n10⟩) fun _ s11 ⟨_,H11,I11,_,n11⟩=>again I11 n11
 exact codeAny_compStart_list (loop _ rfl) (T.self _ 0 _ _ _ tn0 (loop _ rfl))
noncomputable def tComp (wi:TI) (g:TG) (tc:TT) (te:TE) (k:Nat) (js:List Nat):TE:=fun σ H Q=>wi σ H fun J H1=>∀ D,H1 D = none->tBlock J g tc te D (Q (.ref D)) (innS k js σ) (upd H1 D (.lst []))
theorem pe_comp (Tn Fn:List Str) (js:List Nat) (hc:X.calm = true) (h:compOk X.env.scope scope X.N Tn Fn js = true) (hi:PI X tg iter wi)
  (hg:∀ C s H fp,PG (cxIn X (Tn ++ Fn) scope (closOf X.env.cells scope.names []) C s H fp) tg g) (ht:∀ C s H fp,PIfs (cxIn X (Tn ++ Fn) scope (closOf X.env.cells scope.names []) C s H fp) ifs tc)
  (he:∀ C s H fp,PE (cxIn X (Tn ++ Fn) scope (closOf X.env.cells scope.names []) C s H fp) elt te) (hs:∀ x,foldedSetIterable iter X.env x = pure x:=by intro _; rfl) :
  PE X (.ListComp elt [⟨tg,iter,ifs,0⟩] scope pos) (tComp wi g tc te Tn.length js):=by
 intro pins s σ H Q I hq
 have cs:=CompScope.of h
 rw [eval_ListComp]
 refine wpAny_comprehension_free (use:=none) rfl hs (closureFor_eq ?_) cs.kind cs.loc (thn (hi pins s σ H _ I hq) fun xv s1 h1=>thn h1 fun itv s2 h2=>?_)
 ·intro x hx e; exact I.ok.has x.1 (.inl (cs.fre x hx e))
 obtain ⟨it,fp,tn,J,H2,rfl,I2,T,st2,f2,hb⟩:=h2
 refine block_run (Z:=fun D H'=>Q (.ref D) H') (RR:=fun acc C=>compPost (model X.prog X.w) X.A X.xe none (EP X pins σ Q) acc C) hc cs hg ht he I2 T st2 f2 hb ?_
 intro D C s' H' m hm I' hn cf z
 exact ⟨m,hm,fun h' sb=>⟨.ref D,H',I'.letgo hn cf sb,rfl,z⟩⟩
theorem ps_setcomp (Tn Fn:List Str) (js:List Nat) {i:Nat} {y:Str} {py spos:Pos} (hN:X.N.Nodup) (hiN:X.N[i]? = some y) (hy:X.env.scope.names.lookup y = some .local) (hc:X.calm = true) (h:compOk X.env.scope scope X.N Tn Fn js = true) (hi:PI X tg iter wi)
  (hg:∀ C s H fp,PG (cxIn X (Tn ++ Fn) scope (closOf X.env.cells scope.names []) C s H fp) tg g) (ht:∀ C s H fp,PIfs (cxIn X (Tn ++ Fn) scope (closOf X.env.cells scope.names []) C s H fp) ifs tc)
  (he:∀ C s H fp,PE (cxIn X (Tn ++ Fn) scope (closOf X.env.cells scope.names []) C s H fp) elt te) (hsw:swapsWith (.ListComp elt [⟨tg,iter,ifs,0⟩] scope pos) (some (.Name y py)) spos.line X.env = pure true:=by rfl)
  (hs:∀ x,foldedSetIterable iter X.env x = pure x:=by intro _; rfl) :
  PS X (.Assign [.Name y py] (.ListComp elt [⟨tg,iter,ifs,0⟩] scope pos) spos) (tAsg (tComp wi g tc te Tn.length js) (gName i)):=by
 intro pins s σ H D0 I hq
 have cs:=CompScope.of h
 rw [exec_Assign_Name_used _ _ _ _ hsw]
 refine wpAny_bind (wpAny_standAt (wpAny_bind ?_))
 show wpAny _ X.A (do let _ <- comprehension (.ListComp elt [⟨tg,iter,ifs,0⟩] scope pos) scope X.env _ (newList []) false (eval iter X.env) (some (assign (.Name y py) X.env))) _ _ s
 refine wpAny_bind (wpAny_mono (wpAny_comprehension_free (use:=some (assign (.Name y py) X.env)) (Q:=fun _ s'=>SP X pins D0 .next s') rfl hs (closureFor_eq ?_) cs.kind cs.loc
  (thn (hi pins s σ H _ I hq) fun xv s1 h1=>thn h1 fun itv s2 h2=>?_)) (fun _ s' hq=>wpAny_pure (wpAny_pure hq)) fun _ _ e=>e)
 ·intro x hx e; exact I.ok.has x.1 (.inl (cs.fre x hx e))
 obtain ⟨it,fp,tn,J,H2,rfl,I2,T,st2,f2,hb⟩:=h2
 refine block_run (Z:=fun D H'=>D0.nx (σ.set i (some (.ref D))) H') (RR:=fun acc C=>compPost (model X.prog X.w) X.A X.xe (some (assign (.Name y py) X.env)) (fun _ s'=>SP X pins D0 .next s') acc C) hc cs hg ht he I2 T st2 f2 hb ?_
 intro D C s' H' m hm I' hn cf z
 show wpAny _ X.A (assign (.Name y py) X.env (.ref D)) _ _ s'
 refine wpAny_assign_Name (store_ok2 (v:=.ref D) I' hN hiN (.inl hy) rfl (fun s'' I'' sb=>?_) (.inr hy))
 obtain ⟨a,sb,ha⟩:=sb
 have hCa:C ≠ a:=by
  rcases ha with e | e
  ·rw [e]; exact cf.nl
  ·exact fun z=>cf.nc _ _ e z.symm
 exact ⟨m,hm.sameBut sb hCa,fun h' sb'=>⟨_,H',I''.letgo hn cf sb',z⟩⟩
end
theorem block_list {K:PySem.W.Frag} {a:Addr} {xs:List V} {g:TG} {tc:TT} {te:TE} {D:Addr} {Z:Hp->Prop} {σ:St} {H:Hp} (Pv:Nat->St->Hp->Prop) (h0:Pv 0 σ H) (hl:∀ i σ H,i <= xs.length->Pv i σ H->SqL K H a xs)
  (hs:∀ i x σ H,xs[i]? = some x->Pv i σ H->g x σ H fun σ2 H2=>tc σ2 H2 fun b H3=>if b = true then te σ2 H3 fun y H4=>∃ ys,H4 D = some (.lst ys) /\ ys.length < sizeLine /\ Pv (i + 1) σ2 (upd H4 D (.lst (ys ++ [y]))) else Pv (i + 1) σ2 H3)
  (hd:∀ σ H,Pv xs.length σ H->Z H):tBlock (Itl K a) g tc te D Z σ H:=by
 refine ⟨fun i m σ H=>m = xs.length - i /\ i <= xs.length /\ Pv i σ H,⟨xs.length,by simp,Nat.zero_le _,h0⟩,?_⟩
 rintro i m σ H ⟨rfl,hi,p⟩
 have q:=hl i σ H hi p
 by_cases hlt:i < xs.length
 ·refine .inr ⟨⟨xs,xs[i],q,by simp [hlt]⟩,Pv (i + 1),fun σ' H' p'=>⟨xs.length - (i + 1),by lia,rfl,hlt,p'⟩,fun x H' y=>?_⟩
  obtain ⟨e,y⟩:=y
  subst e
  exact hs i x σ _ (y xs q) p
 ·have e:i = xs.length:=by lia
  subst e
  exact .inl ⟨⟨xs,q,Nat.le_refl _⟩,hd σ H p⟩
theorem block_tup {K:PySem.W.Frag} {a:Addr} {xs:List V} {g:TG} {tc:TT} {te:TE} {D:Addr} {Z:Hp->Prop} {σ:St} {H:Hp} (Pv:Nat->St->Hp->Prop) (h0:Pv 0 σ H) (hl:∀ i σ H,i <= xs.length->Pv i σ H->SqT K H a xs)
  (hs:∀ i x σ H,xs[i]? = some x->Pv i σ H->g x σ H fun σ2 H2=>tc σ2 H2 fun b H3=>if b = true then te σ2 H3 fun y H4=>∃ ys,H4 D = some (.lst ys) /\ ys.length < sizeLine /\ Pv (i + 1) σ2 (upd H4 D (.lst (ys ++ [y]))) else Pv (i + 1) σ2 H3)
  (hd:∀ σ H,Pv xs.length σ H->Z H):tBlock (Itt K a) g tc te D Z σ H:=by
 refine ⟨fun i m σ H=>m = xs.length - i /\ i <= xs.length /\ Pv i σ H,⟨xs.length,by simp,Nat.zero_le _,h0⟩,?_⟩
 rintro i m σ H ⟨rfl,hi,p⟩
 have q:=hl i σ H hi p
 by_cases hlt:i < xs.length
 ·refine .inr ⟨⟨xs,xs[i],q,by simp [hlt]⟩,Pv (i + 1),fun σ' H' p'=>⟨xs.length - (i + 1),by lia,rfl,hlt,p'⟩,fun x H' y=>?_⟩
  obtain ⟨e,y⟩:=y
  subst e
  exact hs i x σ _ (y xs q) p
 ·have e:i = xs.length:=by lia
  subst e
  exact .inl ⟨⟨xs,q,Nat.le_refl _⟩,hd σ H p⟩
theorem block_range {lo:Int} {n:Nat} {g:TG} {tc:TT} {te:TE} {D:Addr} {Z:Hp->Prop} {σ:St} {H:Hp} (Pv:Nat->St->Hp->Prop) (h0:Pv 0 σ H)
  (hs:∀ i σ H,i < n->Pv i σ H->g (.int (lo + i)) σ H fun σ2 H2=>tc σ2 H2 fun b H3=>if b = true then te σ2 H3 fun y H4=>∃ ys,H4 D = some (.lst ys) /\ ys.length < sizeLine /\ Pv (i + 1) σ2 (upd H4 D (.lst (ys ++ [y]))) else Pv (i + 1) σ2 H3)
  (hd:∀ σ H,Pv n σ H->Z H):tBlock (Itr lo n) g tc te D Z σ H:=by
 refine ⟨fun i m σ H=>m = n - i /\ i <= n /\ Pv i σ H,⟨n,by simp,Nat.zero_le _,h0⟩,?_⟩
 rintro i m σ H ⟨rfl,hi,p⟩
 by_cases hlt:i < n
 ·refine .inr ⟨hlt,Pv (i + 1),fun σ' H' p'=>⟨n - (i + 1),by lia,rfl,hlt,p'⟩,fun x H' y=>?_⟩
  obtain ⟨e,y⟩:=y
  subst e y
  exact hs i σ _ hlt p
 ·have e:i = n:=by lia
  subst e
  exact .inl ⟨Nat.le_refl _,hd σ H p⟩
end L2
namespace L2
open PySem PySem.Spec PyProof.Rows
mutual
noncomputable def RepD (K:PySem.W.Frag) (H:Hp):PyData->V->Prop
 | .none,v=>v = .non
 | .bool b,v=>v = .bl b
 | .int i,v=>v = .int i
 | .str x,v=>v = .str x /\ (PyData.str x).canLay0 = true
 | .tuple xs,v=>∃ a vs,v = .ref a /\ SqT K H a vs /\ RepDs K H xs vs
 | .list xs,v=>∃ a vs,v = .ref a /\ SqL K H a vs /\ RepDs K H xs vs
 | .dict _,_=>False
noncomputable def RepDs (K:PySem.W.Frag) (H:Hp):List PyData->List V->Prop
 | [],vs=>vs = []
 | d :: ds,vs=>∃ v r,vs = v :: r /\ RepD K H d v /\ RepDs K H ds r
end
section
variable {X:Cx} {pins:List (Addr × Obj)} {σ:St} {H:Hp} {s:Shared}
mutual
theorem RepD.reads (I:Inv X pins σ H s):∀ {d:PyData} {v:V} {u:Value},RepD X.K H d v->RelV v u->∃ as,Reads s.heap u d as
 | .none,v,u,h,r=>by
  have h:v = .non:=by simpa [RepD] using h
  subst h; cases r; exact ⟨_,.none⟩
 | .bool b,v,u,h,r=>by
  have h:v = .bl b:=by simpa [RepD] using h
  subst h; cases r; exact ⟨_,.bool b⟩
 | .int i,v,u,h,r=>by
  have h:v = .int i:=by simpa [RepD] using h
  subst h; obtain ⟨t,rfl⟩:=r; exact ⟨_,.int i t⟩
 | .str x,v,u,h,r=>by
  simp only [RepD] at h
  obtain ⟨rfl,_⟩:=h
  obtain ⟨t,rfl⟩:=r; exact ⟨_,.str x t⟩
 | .tuple xs,v,u,h,r=>by
  have h:∃ a vs,v = .ref a /\ SqT X.K H a vs /\ RepDs X.K H xs vs:=by simpa [RepD] using h
  obtain ⟨a,vs,rfl,q,rs⟩:=h
  cases r
  obtain ⟨its,rv,p,_⟩:=I.tuple q
  obtain ⟨o,e,c,n,d⟩:=(show s.heap.IsTuple a its.toArray from p)
  obtain ⟨as,ra⟩:=RepDs.reads I rs rv
  exact ⟨_,.tuple e c d (by simpa using ra)⟩
 | .list xs,v,u,h,r=>by
  have h:∃ a vs,v = .ref a /\ SqL X.K H a vs /\ RepDs X.K H xs vs:=by simpa [RepD] using h
  obtain ⟨a,vs,rfl,q,rs⟩:=h
  cases r
  obtain ⟨its,rv,p,_⟩:=I.list q
  obtain ⟨o,e,c,n,d⟩:=p.isList
  obtain ⟨as,ra⟩:=RepDs.reads I rs rv
  exact ⟨_,.list e c d (by simpa using ra)⟩
 | .dict _,v,u,h,r=>by
  have h:False:=by simpa [RepD] using h
  exact h.elim
theorem RepDs.reads (I:Inv X pins σ H s):∀ {ds:List PyData} {vs:List V} {us:List Value},RepDs X.K H ds vs->Vals vs us->∃ as,ReadsAll s.heap us ds as
 | [],vs,us,h,r=>by
  have h:vs = []:=by simpa [RepDs] using h
  subst h; cases r; exact ⟨_,.nil⟩
 | d :: ds,vs,us,h,r=>by
  have h:∃ v r,vs = v :: r /\ RepD X.K H d v /\ RepDs X.K H ds r:=by simpa [RepDs] using h
  obtain ⟨v,rs,rfl,h1,h2⟩:=h
  cases r with
  | cons a b =>
   obtain ⟨as,r1⟩:=RepD.reads I h1 a
   obtain ⟨bs,r2⟩:=RepDs.reads I h2 b
   exact ⟨_,.cons r1 r2⟩
end
mutual
theorem RepD.lay {K:PySem.W.Frag}:∀ {d:PyData} {v:V},RepD K H d v->d.canLay0 = true
 | .none,_,_=>rfl
 | .bool _,_,_=>rfl
 | .int _,_,_=>rfl
 | .str x,v,h=>by
  simp only [RepD] at h
  exact h.2
 | .tuple xs,v,h=>by
  have h:∃ a vs,v = .ref a /\ SqT K H a vs /\ RepDs K H xs vs:=by simpa [RepD] using h
  obtain ⟨a,vs,rfl,q,rs⟩:=h
  have:=RepDs.lay rs
  simpa [PyData.canLay0] using this
 | .list xs,v,h=>by
  have h:∃ a vs,v = .ref a /\ SqL K H a vs /\ RepDs K H xs vs:=by simpa [RepD] using h
  obtain ⟨a,vs,rfl,q,rs⟩:=h
  have:=RepDs.lay rs
  simpa [PyData.canLay0] using this
 | .dict _,v,h=>by
  have h:False:=by simpa [RepD] using h
  exact h.elim
theorem RepDs.lay {K:PySem.W.Frag}:∀ {ds:List PyData} {vs:List V},RepDs K H ds vs->PyData.canLayAll0 ds = true
 | [],_,_=>rfl
 | d :: ds,vs,h=>by
  have h:∃ v r,vs = v :: r /\ RepD K H d v /\ RepDs K H ds r:=by simpa [RepDs] using h
  obtain ⟨v,rs,rfl,h1,h2⟩:=h
  have a:=RepD.lay h1
  have b:=RepDs.lay h2
  simp [PyData.canLayAll0,a,b]
end
end
section
variable {X:Cx} {k:Nat}
noncomputable def rEqD (K:PySem.W.Frag):R2:=fun x y H Q=>∃ d d',RepD K H d x /\ RepD K H d' y /\ d.depth <= 64 /\ Q (.bl (PyData.eqv d d')) H
noncomputable def rNeD (K:PySem.W.Frag):R2:=fun x y H Q=>∃ d d',RepD K H d x /\ RepD K H d' y /\ d.depth <= 64 /\ Q (.bl (!PyData.eqv d d')) H
theorem op_eqD (hr:Room k X.A):OpR X (compareOp .Eq) (rEqD X.K):=by
 intro pins s σ H x y v u Q I rx ry h
 obtain ⟨d,d',h1,h2,hd,q⟩:=h
 obtain ⟨as,r1⟩:=h1.reads I rx
 obtain ⟨bs,r2⟩:=h2.reads I ry
 exact SeqAt.compareEq_reads r1 r2 h1.lay h2.lay (by have:=hr.units; have:min d.depth d'.depth <= d.depth:=Nat.min_le_left _ _; lia) ⟨.bl _,H,I,rfl,q⟩
theorem op_neD (hr:Room k X.A):OpR X (compareOp .NotEq) (rNeD X.K):=by
 intro pins s σ H x y v u Q I rx ry h
 obtain ⟨d,d',h1,h2,hd,q⟩:=h
 obtain ⟨as,r1⟩:=h1.reads I rx
 obtain ⟨bs,r2⟩:=h2.reads I ry
 exact SeqAt.compareNe_reads r1 r2 h1.lay h2.lay (by have:=hr.units; have:min d.depth d'.depth <= d.depth:=Nat.min_le_left _ _; lia) ⟨.bl _,H,I,rfl,q⟩
end
noncomputable def pq (t b:Int):PyData:=.tuple [.int t,.int b]
theorem rep_pq {K:PySem.W.Frag} {H:Hp} {a:Addr} {t b:Int} (h:SqT K H a [.int t,.int b]):RepD K H (pq t b) (.ref a):=by
 simp only [pq,RepD,RepDs]
 exact ⟨a,_,rfl,h,_,_,rfl,rfl,_,_,rfl,rfl,rfl⟩
theorem eqv_pq (t b t' b':Int):PyData.eqv (pq t b) (pq t' b') = decide (t = t' /\ b = b'):=by
 simp [pq,PyData.eqv,PyData.eqvAll,Bool.beq_eq_decide_eq]
theorem pq_depth (t b:Int):(pq t b).depth <= 64:=by
 simp [pq,PyData.depth,PyData.depthAll]
section
variable {P:Program} {w:World} {K:PySem.W.Frag} {mg:Str->Option Value} {base:Heap}
theorem DefAt.okE {x:Str} {st:Stmt} {N ps:List Str} {k:Nat} {sp:Sp} (D:DefAt K mg x st) (S:FnScope N ps (defScope st)) (len:∀ vs H Q E,sp vs H Q E->vs.length = ps.length)
  (hb:∀ (kV doc pm:Value) (an:Option Addr) (cdv ct:Value) (us:List Value),us.length = ps.length->bindArgs (PySem.W.fnOf x x (defArgs st) (defBody st) (defScope st) .none kV doc pm an cdv ct) ⟨us,[]⟩ = pure (ps.zip us))
  (hbody:∀ (f:Addr) (cdv:Value) (A:Around) (outer:List Env) (s:Shared) (H:Hp) (vs:List V) (Q:VK) (E:XK),Room k (A.deeper (envOfC x (defScope st) s.heap.objs.size f cdv))->sp vs H Q E ->
   ∃ t,PSs (cxOf (CXE P w) P w K mg base N x (defScope st) f cdv A outer s H E) (defBody st) t /\ t { nx:=fun _ H'=>Q .non H',rt:=Q } (start N vs) H):FnAt P w K mg base (CXE P w) (k + 1) x ps sp:=by
 obtain ⟨f,fd,F,m⟩:=D.ex
 have hF:=F
 obtain ⟨oc,od,kV,doc,pm,an,cdv,ct,osl,rfl,lk,hcd⟩:=F.ex
 exact ⟨f,_,fn_of lk hcd S len fun A outer s H vs Q E hr hsp=>hbody f cdv A outer s H vs Q E hr hsp,m,hF.kp,hF.binds hb⟩
end
theorem pass00 {X:Cx}:Passes (CXE X.prog X.w) X E0:=fun _ _ _ _ _ _ _ ⟨_,_,_,_,_,_,_,_,_,_,q⟩=>q.elim
theorem hd_none {X:Cx}:Hd X [] (fun _=>tNever):=fun _ _ _ _ _ _ _ _ _ _ _ _ _ _ _ _ h=>h.elim
end L2
namespace Tc
open PySem L2
noncomputable abbrev fq (r:Rat):List V:=[.int r.num,.int (r.den:Nat)]
noncomputable def FrV (H:Hp) (v:V) (r:Rat):Prop:=∃ a,v = .ref a /\ H a = some (.tup (fq r))
theorem FrV.same {H H':Hp} {v:V} {r:Rat} (h:FrV H v r) (s:Same H H'):FrV H' v r:=let ⟨a,e,h⟩:=h; ⟨a,e,s _ _ h⟩
theorem FrV.upd {H:Hp} {v:V} {r:Rat} {p:Addr} {o:HO} (h:FrV H v r) (n:H p = none):FrV (upd H p o) v r:=h.same (Same.upd n)
theorem FrV.new {H:Hp} {r:Rat} {p:Addr}:FrV (L2.upd H p (.tup (fq r))) (.ref p) r:=⟨p,rfl,upd_same⟩
theorem FrV.newOf {H:Hp} {r:Rat} {p:Addr} {t b:Int} (h1:t = r.num) (h2:b = (r.den:Int)):FrV (L2.upd H p (.tup [.int t,.int b])) (.ref p) r:=by
 subst h1 h2; exact FrV.new
theorem FrV.rep {K:PySem.W.Frag} {H:Hp} {v:V} {r:Rat} (h:FrV H v r):RepD K H (pq r.num r.den) v:=by
 obtain ⟨a,rfl,h⟩:=h
 exact rep_pq (SqT.of h)
theorem fq_dec (r q:Rat):decide (r.num = q.num /\ (r.den:Int) = q.den) = decide (r = q):=by
 rw [decide_eq_decide]
 constructor
 ·rintro ⟨h1,h2⟩; exact fq_inj h1 h2
 ·rintro rfl; exact ⟨rfl,rfl⟩
structure Bd (n:Nat) (r:Rat):Prop where
 num:r.num.natAbs < 2 ^ n
 den:r.den < 2 ^ n
theorem pow_le {m n:Nat} (h:m <= n):(2:Nat) ^ m <= 2 ^ n:=Nat.pow_le_pow_right (by decide) h
theorem Bd.mono {m n:Nat} {r:Rat} (b:Bd m r) (h:m <= n):Bd n r:=⟨Nat.lt_of_lt_of_le b.num (pow_le h),Nat.lt_of_lt_of_le b.den (pow_le h)⟩
theorem Bd.neg {n:Nat} {r:Rat} (b:Bd n r):Bd n (-r):=⟨by rw [Rat.neg_num,Int.natAbs_neg]; exact b.num,by rw [Rat.neg_den]; exact b.den⟩
theorem natAbs_mul_lt {a b:Int} {m n:Nat} (ha:a.natAbs < 2 ^ m) (hb:b.natAbs < 2 ^ n):(a * b).natAbs < 2 ^ (m + n):=by
 rw [Int.natAbs_mul,Nat.pow_add]
 exact Nat.mul_lt_mul'' ha hb
theorem natAbs_add_lt {a b:Int} {n:Nat} (ha:a.natAbs < 2 ^ n) (hb:b.natAbs < 2 ^ n):(a + b).natAbs < 2 ^ (n + 1):=by
 rw [Nat.pow_succ]; lia
theorem fq_num_le (t b:Int) (hb:b ≠ 0):(Rat.divInt t b).num.natAbs <= t.natAbs:=by
 rw [<- dv_num hb]
 have h:=Int.fdiv_mul_cancel (dv_dvd_left t b)
 have h2:((t.fdiv (dv t b)) * dv t b).natAbs = t.natAbs:=by rw [h]
 rw [Int.natAbs_mul] at h2
 have h3:0 < (dv t b).natAbs:=by have:=dv_ne (t:=t) hb; lia
 rw [<- h2]
 exact Nat.le_mul_of_pos_right _ h3
theorem fq_den_le (t b:Int) (hb:b ≠ 0):(Rat.divInt t b).den <= b.natAbs:=by
 have e:=dv_den (t:=t) hb
 have h:=Int.fdiv_mul_cancel (dv_dvd_right t b)
 have h2:((b.fdiv (dv t b)) * dv t b).natAbs = b.natAbs:=by rw [h]
 rw [Int.natAbs_mul,e] at h2
 have h3:0 < (dv t b).natAbs:=by have:=dv_ne (t:=t) hb; lia
 have:(((Rat.divInt t b).den:Int)).natAbs <= b.natAbs:=by rw [<- h2]; exact Nat.le_mul_of_pos_right _ h3
 lia
theorem Bd.divInt {n:Nat} {t b:Int} (hb:b ≠ 0) (h1:t.natAbs < 2 ^ n) (h2:b.natAbs < 2 ^ n):Bd n (Rat.divInt t b):=⟨Nat.lt_of_le_of_lt (fq_num_le t b hb) h1,Nat.lt_of_le_of_lt (fq_den_le t b hb) h2⟩
theorem add_eq (r q:Rat):r + q = Rat.divInt (r.num * q.den + q.num * r.den) (r.den * q.den):=by
 have h:=Rat.divInt_add_divInt r.num q.num (d₁:=r.den) (d₂:=q.den) (by have:=rat_den_pos r; lia) (by have:=rat_den_pos q; lia)
 rw [Rat.num_divInt_den,Rat.num_divInt_den] at h
 exact h
theorem Bd.add {m n:Nat} {r q:Rat} (b1:Bd m r) (b2:Bd n q):Bd (m + n + 1) (r + q):=by
 rw [add_eq]
 have d1:=rat_den_pos r
 have d2:=rat_den_pos q
 have n1:((r.den:Int)).natAbs < 2 ^ m:=b1.den
 have n2:((q.den:Int)).natAbs < 2 ^ n:=b2.den
 refine Bd.divInt (Int.mul_ne_zero (by lia) (by lia)) ?_ ?_
 ·refine natAbs_add_lt (natAbs_mul_lt b1.num n2) ?_
  have:=natAbs_mul_lt b2.num n1
  rw [Nat.add_comm]; exact this
 ·exact Nat.lt_of_lt_of_le (natAbs_mul_lt n1 n2) (pow_le (by lia))
theorem Bd.divR {n:Nat} {r:Rat} (b:Bd n r) (h:n <= 8999) {i d:Int} (hd:d ≠ 0) (hl:d.natAbs <= r.den):CDivB i d :=
 divB_of hd (Nat.lt_of_le_of_lt hl (Nat.lt_of_lt_of_le b.den (pow_le (by lia))))
theorem paired_get {α β:Type} {F:α->β->Prop}:∀ {xs:List α} {ys:List β} {i:Nat} {x:α},Paired F xs ys->xs[i]? = some x->∃ y,ys[i]? = some y /\ F x y
 | _,_,_,_,.nil,e=>by simp at e
 | _,_,0,_,.cons r _,e=>by simp at e; subst e; exact ⟨_,rfl,r⟩
 | _,_,i + 1,x,.cons _ t,e=>by
  obtain ⟨u,h1,h2⟩:=paired_get (i:=i) (x:=x) t (by simpa using e)
  exact ⟨u,by simpa using h1,h2⟩
noncomputable def spWhole:Sp:=fun vs H Q _=>∃ v n,vs = [v] /\ tyS H v = some n /\ Q (.bl (n == "int")) H
noncomputable def spCd:Sp:=fun vs H Q _=>∃ t b:Int,vs = [.int t,.int b] /\ b ≠ 0 /\ Q (.int (dv t b)) H
noncomputable def sp2 (n:Nat) (f:Rat->Rat->Rat):Sp:=fun vs H Q _=>∃ x y r q,vs = [x,y] /\ FrV H x r /\ FrV H y q /\ Bd n r /\ Bd n q /\ ∀ v H',Same H H'->FrV H' v (f r q)->Q v H'
noncomputable abbrev spPlus:Sp:=sp2 8000 (· + ·)
noncomputable abbrev spMinus:Sp:=sp2 8000 (· - ·)
noncomputable abbrev spTimes:Sp:=fun vs H Q _=>∃ x y a b t1 b1 t2 b2,vs = [x,y] /\ x = .ref a /\ H a = some (.tup [.int t1,.int b1]) /\ y = .ref b /\ H b = some (.tup [.int t2,.int b2]) /\ 0 < b1 /\ b2 ≠ 0 /\ Int.gcd t1 b1 = 1 /\ Int.gcd t2 b2 = 1 /\
 (t1.natAbs < 2 ^ 8000 /\ b1.natAbs < 2 ^ 8000 /\ t2.natAbs < 2 ^ 8000 /\ b2.natAbs < 2 ^ 8000) /\ ∀ v H',Same H H'->FrV H' v (Rat.divInt (t1 * t2) (b1 * b2))->Q v H'
theorem spTimes.of {vs:List V} {H:Hp} {Q:VK} {E:XK} {x y:V} {r q:Rat} (e:vs = [x,y]) (h1:FrV H x r) (h2:FrV H y q) (b1:Bd 8000 r) (b2:Bd 8000 q) (k:∀ v H',Same H H'->FrV H' v (r * q)->Q v H'):spTimes vs H Q E:=by
 obtain ⟨a,rfl,ha⟩:=h1
 obtain ⟨b,rfl,hb⟩:=h2
 have d1:=rat_den_pos r
 have d2:=rat_den_pos q
 exact ⟨_,_,a,b,r.num,r.den,q.num,q.den,e,rfl,ha,rfl,hb,d1,by lia,rat_gcd r,rat_gcd q,⟨b1.num,b1.den,b2.num,b2.den⟩,fun v H' s h=>k v H' s (by rw [<- mul_eq]; exact h)⟩
noncomputable def spOver (C:Addr):Sp:=fun vs H Q E=>∃ x y r q,vs = [x,y] /\ FrV H x r /\ FrV H y q /\ Bd 8000 r /\ Bd 8000 q /\ (q ≠ 0->∀ v H',Same H H'->FrV H' v (r / q)->Q v H') /\ (q = 0->E (.ref C) none H)
noncomputable def spUnder:Sp:=fun vs H Q _=>∃ x y r q,vs = [x,y] /\ FrV H x r /\ FrV H y q /\ Bd 8000 r /\ Bd 8000 q /\ Q (.bl (decide (r < q))) H
noncomputable def sumQ (rs:List Rat):Rat:=rs.foldl (· + ·) 0
theorem sumQ_take {rs:List Rat} {i:Nat} {r:Rat} (h:rs[i]? = some r):sumQ (rs.take (i + 1)) = sumQ (rs.take i) + r:=by
 unfold sumQ
 rw [List.take_add_one,h,List.foldl_append]; rfl
noncomputable def spSumOf (K:PySem.W.Frag):Sp:=fun vs H Q _=>∃ (a:Addr) (xs:List V) (rs:List Rat),vs = [.ref a] /\ SqL K H a xs /\ Paired (FrV H) xs rs /\ (∀ r ∈ rs,Bd 8000 r) /\ (∀ k,k <= rs.length->Bd 8000 (sumQ (rs.take k))) /\ ∀ v H',Same H H'->FrV H' v (sumQ rs)->Q v H'
noncomputable def spCell (K:PySem.W.Frag):Sp:=fun vs H Q _=>∃ (a:Addr) (ns:List Int) (k:Int),vs = [.ref a,.int k] /\ SqL K H a (ns.map V.int) /\ 0 <= k /\ ∀ c:Int,Q (.int c) H
noncomputable def spLaw (K:PySem.W.Frag):Sp:=fun vs H Q _=>∃ (a:Addr) (ns:List Int),vs = [.ref a] /\ SqL K H a (ns.map V.int) /\ ns.length <= 63 /\ ∀ H',Q (.bl true) H'
theorem sz {n:Nat} (h:n <= 1000):n <= sizeLine:=Nat.le_of_lt (small1000 h)
theorem map_at {ns:List Int} {k:Int} (h0:0 <= k) (h1:k < (ns.map V.int).length):∃ c:Int,atI (ns.map V.int) k = some (V.int c):=by
 obtain ⟨j,rfl⟩:=Int.eq_ofNat_of_zero_le h0
 have hj:j < ns.length:=by rw [List.length_map] at h1; lia
 refine ⟨ns[j],atI_nat ?_⟩
 rw [List.getElem?_map,List.getElem?_eq_getElem hj]
 rfl
theorem fmod_lt {c m:Int} (h:0 < m):0 <= c.fmod m /\ c.fmod m < m:=fmod_pos h
theorem sub_int (n:String):subS n "int" = (n == "int" || n == "bool"):=by simp [subS]
theorem sub_bool (n:String):subS n "bool" = (n == "bool"):=by simp [subS]
theorem dec_true {p:Prop} [Decidable p] {A B:Prop} (hp:p) (h:A):if decide p = true then A else B:=by
 rw [decide_eq_true hp]; exact iteT h
theorem dec_false {p:Prop} [Decidable p] {A B:Prop} (hp:¬ p) (h:B):if decide p = true then A else B:=by
 rw [decide_eq_false hp]; exact iteF h
theorem paired_same {H H':Hp} {xs:List V} {rs:List Rat} (s:Same H H') (h:Paired (FrV H) xs rs):Paired (FrV H') xs rs:=Paired.mapP h fun _ _ f=>f.same s
end Tc
namespace L2
open PySem PySem.Spec PyProof.Rows
theorem bt_all:bootBuiltins "all" = some (.builtin "all"):=by decide +kernel
theorem bools_of_vals:∀ {bs:List Bool} {vs:List Value},Vals (bs.map V.bl) vs->LSm.BoolsAre vs bs
 | [],_,.nil=>.nil
 | b :: bs,_,.cons r t=>by cases r; exact .cons b (bools_of_vals t)
section
variable {X:Cx}
theorem Inv.newsAll {pins:List (Addr × Obj)} {σ:St} {H:Hp} {s:Shared} {h':Heap} {tk:Nat} {m:Str->Option Value} (I:Inv X pins σ H s) (hm:s.heap.Ns X.env.locals m) (F:Fr X.base X.env.locals h' m)
  (N:News X.base X.env.locals h' (allNews X.base s.heap X.env.locals)):Inv X pins σ H { s with heap:=h',toks:=tk }:=by
 have kk:∀ b o,b ≠ X.env.locals->s.heap.get? b = some o->h'.get? b = some o:=fun b o hb e=>by
  cases q:X.base.get? b with
  | none=>exact (N (b,o) (mem_allNews hb q e)).1
  | some u =>
   have z:=I.bk b u q
   rw [e] at z; cases z
   exact F.keep b _ q
 have hL:∃ o',h'.get? X.env.locals = some o':=let ⟨o,_,_,e,_⟩:=F.ns; ⟨o,e⟩
 refine I.step (g':=s.gens) (d':=s.drawn) (ch:=[]) (fun _ z=>nomatch z) (fun b o hb _ _ e _=>kk b o hb e) (fun b o hb _ _ e _=>⟨o.slots,kk b o hb e⟩) (fun _ _ _ _ n=>n) (fun b o _ e=>?_)
  (fun _ _ e=>e) (fun _ _ _ e=>e) (fun b ps e=>⟨#[],by rw [e]; simp⟩) (fun m' hm'=>?_) (fun b u e=>?_) I.bare
 ·by_cases hb:b = X.env.locals
  ·rw [hb]; exact hL
  ·exact ⟨o,kk b o hb e⟩
 ·have em:m' = m:=by
   obtain ⟨o1,es1,ep1,g1,d1,_,f1⟩:=hm
   obtain ⟨o2,es2,ep2,g2,d2,_,f2⟩:=hm'
   rw [g1] at g2; cases g2
   rw [d1] at d2; cases d2
   funext z
   exact (f2 z).symm.trans (f1 z)
  rw [em]; exact F.ns
 ·refine (I.hok b u e).stay (fun c v hc q=>kk c v ?_ q) (fun _ q=>q) fun _ _ q=>q
  intro z
  subst z
  rcases hc with z | z
  ·rw [<- z,I.free] at e; cases e
  ·rw [I.free] at z; cases z
theorem call_all (hc:X.calm = true):CallR X (.builtin "all") (fun xs H Q=>∃ (a:Addr) (bs:List Bool),xs = [V.ref a] /\ SqL X.K H a (bs.map V.bl) /\ Q (.bl (bs.all id)) H):=by
 intro pins s σ H xs us Q I r h
 obtain ⟨l,bs,rfl,hq,q⟩:=h
 obtain ⟨u,rfl,ru⟩:=vals1 r
 cases ru
 obtain ⟨vs,rv,p,_⟩:=I.list hq
 obtain ⟨m,hm,_⟩:=id I.loc
 have F0:Fr X.base X.env.locals s.heap m:=⟨hm,I.bk,Nat.le_trans I.ok.bsz I.ok.above⟩
 exact LSm.all_bools F0 news_all (I.ok.hd hc) p.isList (bools_of_vals rv) fun h' tk F' N'=>⟨.bl _,H,I.newsAll hm F' N',rfl,q⟩
end
section
variable {X:Cx} {K:PySem.W.Frag}
theorem ix_tup' (h:X.K = K):IxR X (rIxT K):=by subst h; exact ix_tup
theorem ix_list' (h:X.K = K):IxR X (rIxL K):=by subst h; exact ix_list
theorem sl_tup' (h:X.K = K):SlR X (rSlT K):=by subst h; exact sl_tup
theorem sl_list' (h:X.K = K):SlR X (rSlL K):=by subst h; exact sl_list
theorem op_eqD' {k:Nat} (h:X.K = K) (hr:Room k X.A):OpR X (compareOp .Eq) (rEqD K):=by subst h; exact op_eqD hr
theorem op_neD' {k:Nat} (h:X.K = K) (hr:Room k X.A):OpR X (compareOp .NotEq) (rNeD K):=by subst h; exact op_neD hr
theorem call_len' (h:X.K = K):CallR X (.builtin "len") (fun xs H Q=>∃ x n,xs = [x] /\ LenV K x H n /\ Q (.int n) H):=by subst h; exact call_len
theorem call_isi' (h:X.K = K):CallR X (.builtin "isinstance") (fun xs H Q=>∃ x n t b,xs = [x,.ty n] /\ TyOf K H x t /\ PySem.W.kitOne K t (.type n) = some b /\ Q (.bl b) H):=by subst h; exact call_isi
theorem call_isiE' (h:X.K = K):CallR X (.builtin "isinstance") (fun xs H Q=>∃ a C c b,xs = [.ref a,c] /\ H a = some (excO a (.ref C)) /\ ExcK K C /\
  ((∃ n,c = .ty n /\ PySem.W.kitOne K (.ref C) (.type n) = some b) \/ (∃ D,c = .ref D /\ PySem.W.kitOne K (.ref C) (.ref D) = some b) \/
   (∃ (p:Addr) (Ds:List Addr),c = .ref p /\ H p = some (.tup (Ds.map V.ref)) /\ PySem.W.kitAny K (.ref C) (Ds.map Value.ref) = some b)) /\ Q (.bl b) H):=by subst h; exact call_isiE
theorem call_list_of' (h:X.K = K):CallR X (.type "list") (fun xs H Q=>∃ p ys,xs = [.ref p] /\ (SqL K H p ys \/ SqT K H p ys) /\ ∀ l,H l = none->Q (.ref l) (upd H l (.lst ys))):=by subst h; exact call_list_of
theorem call_all' (h:X.K = K) (hc:X.calm = true):CallR X (.builtin "all") (fun xs H Q=>∃ (a:Addr) (bs:List Bool),xs = [V.ref a] /\ SqL K H a (bs.map V.bl) /\ Q (.bl (bs.all id)) H):=by subst h; exact call_all hc
theorem pi_list' {tg l:Expr} {tl:TE} (h:X.K = K) (hl:PE X l tl):PI X tg l (iList K tl):=by subst h; exact pi_list hl
theorem pi_tup' {tg l:Expr} {tl:TE} (h:X.K = K) (hl:PE X l tl):PI X tg l (iTup K tl):=by subst h; exact pi_tup hl
end
theorem pe_gstr {X:Cx} {x z:Str} {pos:Pos} (hg:Gl X x) (h:∃ t,X.mg x = some (.str z t)) (hd:(x == ("__debug__":Str)) = false:=by decide):PE X (.Name x pos) (tC (.str z)):=by
 obtain ⟨t,h⟩:=h
 exact pe_glob hg h ⟨t,rfl⟩ hd
theorem Same.updD {H H':Hp} {D:Addr} {o:HO} (s:Same H H') (h:H D = none):Same H (L2.upd H' D o):=fun b u e=>by
 rw [L2.upd_ne (ne_of_none e h)]; exact s b u e
end L2
namespace L2
open PySem PySem.Spec PyProof.Rows
section
variable {X:Cx} {K:PySem.W.Frag}
theorem pe_bm' {o e:Expr} {es:List Expr} {to:TE} {t:TA} {name:Str} {apos cpos:Pos} {T id:String} {r:V->List V->Hp->VK->Prop} (h:X.K = K) (pa:PlainAttrs T) (slot:Slot T name id) (hty:typeOf (.builtin id) = pure (.type "method_descriptor"))
  (hm:MtR X id r) (ho:PE X o to) (ha:PA X (e :: es) t) (hbase:attributeBase o name X.env (eval o X.env) = eval o X.env:=by rfl)
  (hfew:((backTo cpos (starEach (e :: es) X.env)).all (fun x=>!x.1) && (backToKw cpos (keywordEach [] X.env)).all (fun x=>x.1.isSome) && decide ((e :: es).length + ([]:List Keyword).length + (if ([]:List Keyword).isEmpty then 0 else 1) < 30)) = true:=by rfl)
  (hline:(apos.endLine == cpos.line) = true:=by rfl) (hs:starEach (e :: es) X.env = (false,eval e X.env) :: starEach es X.env:=by rfl) (hplain:(backTo cpos (starEach es X.env)).any (·.1) = false:=by rfl) :
  PE X (.Call (.Attribute o name apos) (e :: es) [] cpos) (tBM K T r to t):=by subst h; exact pe_bm pa slot hty hm ho ha hbase hfew hline hs hplain
noncomputable def Its (z:Str):It:=⟨fun i _=>i < z.cps.size,fun i H x H'=>H' = H /\ ∃ c,z.cps[i]? = some c /\ x = .str ⟨#[c]⟩,fun i _=>i = z.cps.size⟩
theorem turn_str {P:Program} {w:World} {tg:Expr} {it:Addr} {z:Str} {t:Tok} {ty:String} (hty:ty = "str_ascii_iterator" \/ ty = "str_iterator")
  (W:∀ A':Around,A'.handled = none->Walks P w A' it [it] [it] z.cps.size (SignAt z) (fun i h=>h.IsStrIter it ty z t i)):Turn P w K tg (Its z) [it] it (fun i h=>h.IsStrIter it ty z t i) where
 mem:=by simp
 obj:=fun i h st b hb=>by
  have e:b = it:=by simpa using hb
  subst e
  obtain ⟨o,e,_,d⟩:=st
  exact ⟨o,e,fun v z=>by rw [d] at z; cases z⟩
 keep:=fun i h h' st k=>let ⟨o,e,r⟩:=st; ⟨o,k it (by simp) o e,r⟩
 item:=by
  intro X hP hw hK hc i pins s σ H E I hf st hg
  subst hP hw hK
  obtain ⟨f0,f1,_,f3,f4,f5⟩:=hf it (by simp)
  refine (W X.A (I.ok.hd hc)).item i s _ _ hg st fun v h' tk hv st' kk=>?_
  obtain ⟨c,u,hcp,rfl⟩:=hv
  have I1:Inv X pins σ H { s with heap:=h',toks:=tk }:=I.turned (fun b o hb e=>kk b o (by simpa using hb) e) f0 f1 f3 f4 f5
  obtain ⟨o,e,cl,d⟩:=id st'
  refine ⟨_,rfl,go_of (s:={ s with heap:=h',toks:=tk }) e cl d ?_ ⟨.str ⟨#[c]⟩,H,I1,⟨u,rfl⟩,⟨rfl,c,hcp,rfl⟩,st',fun b hb=>(hf b hb).1⟩⟩
  rcases hty with rfl | rfl <;> decide
 done:=by
  intro X hP hw hK hc i pins s σ H E I hf st hg
  subst hP hw hK
  obtain ⟨f0,f1,_,f3,f4,f5⟩:=hf it (by simp)
  have hg:i = z.cps.size:=hg
  subst hg
  exact (W X.A (I.ok.hd hc)).done s _ _ st fun h' tk kk=>⟨rfl,I.turned (fun b o hb e=>kk b o (by simpa using hb) e) f0 f1 f3 f4 f5⟩
 self:=fun A i s Q E st h=>by
  rcases hty with rfl | rfl
  ·exact wpAny_pyIter_striter_ascii st h
  ·exact wpAny_pyIter_striter_wide st h
noncomputable def iStr (tl:TE):TI:=fun σ H R=>tl σ H fun x H1=>∃ z,x = .str z /\ R (Its z) H1
theorem pi_str {tg l:Expr} {tl:TE} (hl:PE X l tl):PI X tg l (iStr tl):=by
 intro pins s σ H R I h
 refine thn (hl pins s σ H _ I h) fun v s1 ⟨x,H1,I1,r1,q1⟩=>?_
 obtain ⟨z,rfl,q⟩:=q1
 obtain ⟨t,rfl⟩:=r1
 have fp:∀ b ∈ [s1.heap.objs.size],FpOk X pins H1 b:=fun b hb=>by
  have e:b = s1.heap.objs.size:=by simpa using hb
  subst e
  exact I1.fpOk (Nat.le_refl _) I1.fresh
 cases ha:z.cps.all (· < 128)
 ·exact wpAny_pyIter_wide ha ⟨s1.heap.objs.size,[s1.heap.objs.size],_,_,H1,rfl,I1.kept (t':=s1.toks) fun b o e=>Heap.get?_push_of_some _ e,turn_str (.inr rfl) (fun A' hA=>Walks.strWide hA _ z t),⟨_,Heap.get?_push_size _ rfl,rfl,rfl⟩,fp,q⟩
 ·exact wpAny_pyIter_ascii ha ⟨s1.heap.objs.size,[s1.heap.objs.size],_,_,H1,rfl,I1.kept (t':=s1.toks) fun b o e=>Heap.get?_push_of_some _ e,turn_str (.inl rfl) (fun A' hA=>Walks.strAscii hA _ z t),⟨_,Heap.get?_push_size _ rfl,rfl,rfl⟩,fp,q⟩
theorem block_str {z:Str} {g:TG} {tc:TT} {te:TE} {D:Addr} {Z:Hp->Prop} {σ:St} {H:Hp} (Pv:Nat->St->Hp->Prop) (h0:Pv 0 σ H)
  (hs:∀ i c σ H,z.cps[i]? = some c->Pv i σ H->g (.str ⟨#[c]⟩) σ H fun σ2 H2=>tc σ2 H2 fun b H3=>if b = true then te σ2 H3 fun y H4=>∃ ys,H4 D = some (.lst ys) /\ ys.length < sizeLine /\ Pv (i + 1) σ2 (upd H4 D (.lst (ys ++ [y]))) else Pv (i + 1) σ2 H3)
  (hd:∀ σ H,Pv z.cps.size σ H->Z H):tBlock (Its z) g tc te D Z σ H:=by
 refine ⟨fun i m σ H=>m = z.cps.size - i /\ i <= z.cps.size /\ Pv i σ H,⟨_,rfl,Nat.zero_le _,h0⟩,?_⟩
 rintro i m σ H ⟨rfl,hi,p⟩
 by_cases hlt:i < z.cps.size
 ·refine .inr ⟨hlt,Pv (i + 1),fun σ' H' p'=>⟨z.cps.size - (i + 1),by lia,rfl,hlt,p'⟩,fun x H' y=>?_⟩
  obtain ⟨e,c,hc,e2⟩:=y
  subst e e2
  exact hs i c σ _ hc p
 ·have e:i = z.cps.size:=by lia
  subst e
  exact .inl ⟨rfl,hd σ H p⟩
end
end L2
namespace L2
open PySem PySem.Spec PyProof.Rows
section
variable {X:Cx} {K:PySem.W.Frag} {k:Nat}
end
end L2
namespace Tc
open PySem L2
noncomputable abbrev one1 (c:Nat):Str:=⟨#[c]⟩
noncomputable abbrev LT:Str:="abcdefghijklmnopqrstuvwxyz"
theorem ddv {i d:Int} (h1:0 < d) (h2:d <= 1000000):CDivB i d:=divB_of (by lia) (Nat.lt_of_le_of_lt (m:=1000000) (by lia) (by decide))
end Tc
namespace L2
open PySem PySem.Spec PyProof.Rows
noncomputable def RawD (h:Heap) (d:Addr) (es:Array DictEntry) (ep:Nat):Prop:=∃ o,h.get? d = some o /\ o.ExactDict /\ o.data = .dict es ep
theorem RawD.at {h h':Heap} {d:Addr} {es:Array DictEntry} {ep:Nat} (x:RawD h d es ep) (e:∀ o,h.get? d = some o->h'.get? d = some o):RawD h' d es ep:=let ⟨o,q,r⟩:=x; ⟨o,e o q,r⟩
theorem RawD.ty {s:Shared} {d:Addr} {es:Array DictEntry} {ep:Nat} (x:RawD s.heap d es ep):s.TypeIs (.ref d) "dict":=let ⟨o,q,c,_⟩:=x; ⟨o,q,c.1⟩
section
variable {prog:Program} {w:World} {A:Around} {E:Value->Shared->Prop} {s:Shared} {it d vw:Addr} {i ep:Nat} {es:Array DictEntry} {ok ov:Value}
theorem raw_items (hd:(d == sysModules) = false):MeetsIn prog w (Builtin.«dict.items» ⟨[.ref d],[]⟩) (fun _ R s=>(∃ es ep,RawD s.heap d es ep) /\ R (.ok (.ret (.ref s.heap.objs.size))) { s with heap:=s.heap.push { cls:=.type "dict_items",data:=.fields #[.ref d] } }) :=
 .of_wp fun A R s ⟨⟨es,ep,hm⟩,h⟩=>by
  unfold Builtin.«dict.items» Builtin.Dict.noArgs
  refine wpAny_bind (wpAny_bind (wpAny_notOrdered_dict hm.ty ?_)); show wpAny _ _ (pure d) _ _ s
  refine wpAny_pure ?_; show wpAny _ _ (Builtin.Dict.showsAll d >>= _) _ _ s
  unfold Builtin.Dict.showsAll
  rw [if_neg (show ¬ ((d == sysModules) = true) by rw [hd]; simp)]
  exact wpAny_bind (wpAny_pure (wpAny_bind (wpAny_newObj_type (wpAny_pure ⟨_,rfl,h⟩))))
theorem raw_iter {Q:Value->Shared->Prop} (hv:s.heap.IsItemsView vw d) (hm:RawD s.heap d es ep)
  (q:Q (.ref s.heap.objs.size) { s with heap:=s.heap.push { cls:=.type "dict_itemiterator",data:=.fields #[.none,.bool false,.ref d,.int 0 0,.int es.size 0,.int ep 0,.none,.none] } }):wpAny (model prog w) A (pyIter (.ref vw)) Q E s:=by
 obtain ⟨o1,g1,c1,f1⟩:=id hv
 obtain ⟨o2,g2,c2,f2⟩:=id hm
 refine wpAny_pyIter_slot hv.typeIs F.slot_dict_items_iter (wpAny_call_entry F.slot_dict_items_iter hv.typeIs F.entry_dict_items_iter (?_) (F.args_dict_items_iter_1 (_)))
 unfold Builtin.«dict_items.__iter__» Builtin.Dict_items.dictOf Builtin.Dict_items.newIterator
 refine wpAny_bind (wpAny_pure (wpAny_bind (wpAny_bind (wpAny_field g1 f1 (x:=.ref d) rfl (wpAny_pure (wpAny_bind (wpAny_bind (wpAny_dictEntries g2 f2 (wpAny_bind (wpAny_dictEpoch g2 f2 ?_))))))))))
 have hown:(Builtin.Dict_items.ownsTuple "dict_itemiterator") = true:=by decide
 simp only [hown,if_true]
 refine wpAny_newObj_type (wpAny_pure ⟨_,rfl,"dict_itemiterator",_,⟨_,Heap.get?_push_size (_) rfl,rfl⟩,F.slot_dict_itemiterator_next.lookup,(?_)⟩) (by
  simp only [sizeOk,Builtin.Dict_items.ownedTupleFields,List.size_toArray,List.length_append,List.length_cons,List.length_nil,sizeLine_eq]
  lia)
 simpa [rawInt,Builtin.Dict_items.ownedTupleFields] using q
theorem raw_next {Q:Option Value->Shared->Prop} (hit:IsItemIter s.heap it d i es.size ep ok ov) (hm:RawD s.heap d es ep) (hi:i < es.size)
  (q:∀ h',IsItemIterOut h' it d (i + 1) es.size ep es[i].key es[i].val s.heap.objs.size->h'.get? s.heap.objs.size = some { cls:=.type "tuple",data:=.seq #[es[i].key,es[i].val] } ->
   (∀ b o,b ≠ it->s.heap.get? b = some o->h'.get? b = some o)->Q (some (.ref s.heap.objs.size)) { s with heap:=h' }):wpAny (model prog w) A (pyNext (.ref it)) Q E s:=by
 obtain ⟨h0,g,dr,tk,os⟩:=s
 obtain ⟨o2,g2,c2,f2⟩:=id hm
 have ty:Shared.TypeIs ⟨h0,g,dr,tk,os⟩ (.ref it) "dict_itemiterator":=⟨_,hit,rfl⟩
 have hown:(Builtin.Dict_items.ownsTuple "dict_itemiterator") = true:=by decide
 unfold pyNext
 refine wpAny_bind (wpAny_attempt (wpAny_callSpecial?_slot (name:=Str.ofString "__next__") ty F.slot_dict_itemiterator_next (wpAny_call_entry F.slot_dict_itemiterator_next ty F.entry_dict_itemiterator_next ?_ (F.args_dict_itemiterator_next_1 _))))
 refine wpAny_bind (wpAny_pure (wpAny_bind (wpAny_bind ?_)))
 first | refine wpAny_bind (wpAny_typeNameOfWhole_itemiter ty (wpAny_pure (wpAny_bind (wpAny_fieldsOf hit rfl ?_)))) | refine wpAny_bind (wpAny_typeNameOf_itemiter ty (wpAny_pure (wpAny_bind (wpAny_fieldsOf hit rfl ?_))))
 simp only [hown,if_true]
 show wpAny _ _ (if (Value.ref d == .none) = true then _ else _) _ _ _
 rw [if_neg (show ¬ ((Value.ref d == .none) = true) from Bool.false_ne_true)]
 refine wpAny_bind (wpAny_pure (wpAny_bind (wpAny_dictEntries g2 f2 ?_)))
 rw [if_neg (show ¬ _ by simp)]
 refine wpAny_bind (wpAny_pure (wpAny_bind (wpAny_dictEpoch g2 f2 ?_)))
 rw [if_neg (show ¬ _ by simp)]
 refine wpAny_pure ?_
 simp only [show ¬ ((i:Int) < 0) by lia,if_false,Int.toNat_natCast,Array.getElem?_eq_getElem hi]
 refine wpAny_bind ?_
 first | refine wpAny_bind (wpAny_typeNameOfWhole_itemiter ty (wpAny_pure (wpAny_bind (wpAny_isOneOf_itemiter ty ?_)))) | refine wpAny_bind (wpAny_typeNameOf_itemiter ty (wpAny_pure (wpAny_bind (wpAny_isOneOf_itemiter ty ?_))))
 show wpAny _ _ (setField (.ref it) 3 (rawInt ((i:Int) + 1)) >>= _) _ _ (⟨h0,g,dr,tk,os⟩:Shared)
 refine wpAny_bind (wpAny_setField_rec hit (by simp) fun ha ia sa=>?_)
 have sa:Heap.SameBut it h0 ha:=sa
 have ia:IsItemIter ha it d (i + 1) es.size ep ok ov:=by
  have e:((i + 1:Nat):Int) = (i:Int) + 1:=rfl
  unfold IsItemIter; rw [e]; simpa [rawInt] using ia
 have tya:Shared.TypeIs ⟨ha,g,dr,tk,os⟩ (.ref it) "dict_itemiterator":=⟨_,ia,rfl⟩
 refine wpAny_bind (wpAny_holding (wpAny_bind (wpAny_isOneOf_itemiter tya (wpAny_bind (wpAny_isOneOf_itemiter tya ?_)))))
 show wpAny _ _ (Builtin.Dict_items.pairFromOwner (.ref it) 6 es[i].key es[i].val) _ _ (⟨ha,g,dr,tk,os⟩:Shared)
 unfold Builtin.Dict_items.pairFromOwner
 refine wpAny_bind (wpAny_newTuple ?_)
 have za:ha.objs.size = h0.objs.size:=sa.1
 have lt:it < h0.objs.size:=Heap.lt_size hit
 have ne:h0.objs.size ≠ it:=Nat.ne_of_gt lt
 obtain ⟨hb,ehb⟩:∃ hb,hb = ha.push { cls:=.type "tuple",data:=.seq #[es[i].key,es[i].val] }:=⟨_,rfl⟩
 have ib:IsItemIter hb it d (i + 1) es.size ep ok ov:=by rw [ehb]; exact Heap.get?_push_of_some _ ia
 have tb:hb.get? h0.objs.size = some { cls:=.type "tuple",data:=.seq #[es[i].key,es[i].val] }:=by rw [ehb,<- za]; exact Heap.get?_push_size _ rfl
 have kb:∀ b o,b ≠ it->h0.get? b = some o->hb.get? b = some o:=fun b o n e=>by rw [ehb]; exact Heap.get?_push_of_some _ (sa.extBut b o n e)
 rw [<- ehb]
 show wpAny _ _ (Builtin.Dict_items.ownedTupleIsFree (.ref it) >>= _) _ _ (⟨hb,g,dr,tk,os⟩:Shared)
 rw [za]
 unfold Builtin.Dict_items.ownedTupleIsFree
 refine wpAny_bind (wpAny_bind (wpAny_field ib rfl (x:=.none) rfl (wpAny_pure ?_)))
 simp only [if_true]
 refine wpAny_bind (wpAny_field ib rfl (x:=ok) rfl (wpAny_bind (wpAny_field ib rfl (x:=ov) rfl (wpAny_bind (wpAny_setField_rec ib (by simp) fun hc ic sc=>?_)))))
 have sc:Heap.SameBut it hb hc:=sc
 have ic:IsItemIter hc it d (i + 1) es.size ep es[i].key ov:=ic
 refine wpAny_bind (wpAny_setField_rec ic (by simp) fun hd' id' sd=>?_)
 have sd:Heap.SameBut it hc hd':=sd
 have id':IsItemIter hd' it d (i + 1) es.size ep es[i].key es[i].val:=id'
 refine wpAny_bind (wpAny_setField_rec id' (by simp) fun he ie se=>?_)
 have se:Heap.SameBut it hd' he:=se
 have ie:IsItemIterOut he it d (i + 1) es.size ep es[i].key es[i].val h0.objs.size:=ie
 refine wpAny_bind (wpAny_setField_rec ie (by simp) fun hf jf sf=>?_)
 have sf:Heap.SameBut it he hf:=sf
 have jf:IsItemIterOut hf it d (i + 1) es.size ep es[i].key es[i].val h0.objs.size:=jf
 have up:∀ b o,b ≠ it->hb.get? b = some o->hf.get? b = some o:=fun b o n e=>sf.extBut b o n (se.extBut b o n (sd.extBut b o n (sc.extBut b o n e)))
 exact wpAny_bind (wpAny_letGo (wpAny_pure (wpAny_pure ⟨_,rfl,wpAny_pure (q hf jf (up _ _ ne tb) fun b o n e=>up b o n (kb b o n e))⟩)))
theorem raw_end {Q:Option Value->Shared->Prop} (hh:A.handled = none) (hit:IsItemIter s.heap it d i es.size ep ok ov) (hm:RawD s.heap d es ep) (hi:es.size <= i)
  (q:∀ h',Heap.ExtBut it s.heap h'->Q none { s with heap:=h' }):wpAny (model prog w) A (pyNext (.ref it)) Q E s:=by
 obtain ⟨o2,g2,c2,f2⟩:=id hm
 have ty:s.TypeIs (.ref it) "dict_itemiterator":=⟨_,hit,rfl⟩
 have hown:(Builtin.Dict_items.ownsTuple "dict_itemiterator") = true:=by decide
 unfold pyNext
 refine wpAny_bind (wpAny_attempt (wpAny_callSpecial?_slot (name:=Str.ofString "__next__") ty F.slot_dict_itemiterator_next (wpAny_call_entry F.slot_dict_itemiterator_next ty F.entry_dict_itemiterator_next ?_ (F.args_dict_itemiterator_next_1 _))))
 refine wpAny_bind (wpAny_pure (wpAny_bind (wpAny_bind ?_)))
 first | refine wpAny_bind (wpAny_typeNameOfWhole_itemiter ty (wpAny_pure (wpAny_bind (wpAny_fieldsOf hit rfl ?_)))) | refine wpAny_bind (wpAny_typeNameOf_itemiter ty (wpAny_pure (wpAny_bind (wpAny_fieldsOf hit rfl ?_))))
 simp only [hown,if_true]
 show wpAny _ _ (if (Value.ref d == .none) = true then _ else _) _ _ _
 rw [if_neg (show ¬ ((Value.ref d == .none) = true) from Bool.false_ne_true)]
 refine wpAny_bind (wpAny_pure (wpAny_bind (wpAny_dictEntries g2 f2 ?_)))
 rw [if_neg (show ¬ _ by simp)]
 refine wpAny_bind (wpAny_pure (wpAny_bind (wpAny_dictEpoch g2 f2 ?_)))
 rw [if_neg (show ¬ _ by simp)]
 refine wpAny_pure ?_
 simp only [show ¬ ((i:Int) < 0) by lia,if_false,Int.toNat_natCast,Array.getElem?_eq_none hi]
 refine wpAny_bind ?_
 first | refine wpAny_bind (wpAny_typeNameOfWhole_itemiter ty (wpAny_pure ?_)) | refine wpAny_bind (wpAny_typeNameOf_itemiter ty (wpAny_pure ?_))
 show wpAny _ _ (setField (.ref it) 2 .none >>= _) _ _ (s)
 refine wpAny_bind (wpAny_setField hit rfl (by simp) (show wpAny _ _ (newExc (.type "StopIteration") [] >>= _) _ _ _ from wpAny_bind ?_))
 simp only [newExc,newTuple]
 refine wpAny_bind (wpAny_newObj_type (wpAny_bind (m:=firstArgMember _ _) (wpAny_of_eq (a:=Value.none) (by first | rfl | (simp only [firstArgMember]; rfl)) (wpAny_newObj_type ?_ (by size_fits)))) (by size_fits))
 simp only [raiseNew]
 refine wpAny_bind (wpAny_handled ?_)
 rw [show (Around.in1 A).handled = none from hh]
 refine wpAny_bind (wpAny_pure (wpAny_throw (?_)))
 refine wpAny_bind (wpAny_isInstance (b:=true) (T:="StopIteration") ⟨_,Heap.get?_push_size _ rfl,rfl⟩ isSubtype_stop (?_))
 exact wpAny_pure (q _ (((Heap.SameBut.update ..).extBut.push _).push _))
end
end L2
namespace L2
open PySem PySem.Spec PyProof.Rows
noncomputable def isDk:HO->Bool
 | .dK _=>true
 | .dT _=>true
 | _=>false
section
variable {X:Cx} {pins:List (Addr × Obj)} {σ:St} {H:Hp} {s:Shared} {d:Addr} {u:HO} {o:Obj}
theorem ne_dk (hd:H d = some u) (hu:isDk u = true):∀ c v,H c = some v->isDk v = false->c ≠ d:=fun c v e f z=>by
 subst z; rw [hd] at e; cases e; rw [hu] at f; cases f
theorem Inv.freeze (I:Inv X pins σ H s) (hd:H d = some u) (hu:isDk u = true) (ho:s.heap.get? d = some o):Inv X pins σ (upd H d (.frz o u)) s:=by
 have mu:Mut (H d):=by rw [hd]; cases u <;> first | trivial | (simp [isDk] at hu)
 refine I.write (x:=d) (e:=d) (o:=.frz o u) (h':=s.heap) (t':=s.toks) mu (.inl rfl) (fun _ _ _ q=>q) ⟨o,ho⟩ ⟨ho,?_⟩
 exact (I.hok d u hd).stay (fun _ _ _ q=>q) (fun c q=>by rw [upd_ne (ne_dk hd hu c _ q rfl)]; exact q) fun c xs q=>by rw [upd_ne (ne_dk hd hu c _ q rfl)]; exact q
theorem Inv.unfrozen (I:Inv X pins σ H s) (hd:H d = some u) (hu:isDk u = true) (ob:Obj) (v:HO):X.H₀ d ≠ some (.frz ob v):=fun e=>by
 have z:=I.base.frzs d ob v e
 rw [hd] at z; cases z; cases hu
theorem Inv.thaw (I:Inv X pins σ H s) (hd:H d = some (.frz o u)) (h0:∀ ob v,X.H₀ d ≠ some (.frz ob v)):Inv X pins σ (upd H d u) s:=by
 have ne:∀ c v,H c = some v->(∀ ob w,v ≠ .frz ob w)->c ≠ d:=fun c v e f z=>by
  subst z; rw [hd] at e; cases e; exact f _ _ rfl
 have nn:∀ c,H c = none->c ≠ d:=fun c e z=>by subst z; rw [hd] at e; cases e
 refine ⟨I.ok,I.os,I.bare,⟨I.base.keep,I.base.slot,fun b ob e n hx=>?_,I.base.there,fun b xs e=>?_,fun b ob w e=>?_,fun b ps e=>?_⟩,I.loc,I.cell,?_,fun x c e=>?_,fun p hp=>?_,fun b w e=>?_,I.len⟩
 ·have q:=I.base.free b ob e n hx
  rw [upd_ne (nn b q)]; exact q
 ·have q:=I.base.tups b xs e
  rw [upd_ne (ne b _ q fun _ _ z=>by cases z)]; exact q
 ·have q:=I.base.frzs b ob w e
  rw [upd_ne (fun z=>h0 ob w (by rw [<- z]; exact e))]; exact q
 ·obtain ⟨m,q⟩:=I.base.tbls b ps e
  exact ⟨m,by rw [upd_ne (ne b _ q fun _ _ z=>by cases z)]; exact q⟩
 ·rw [upd_ne (nn _ I.free)]; exact I.free
 ·rw [upd_ne (nn _ (I.freeC x c e))]; exact I.freeC x c e
 ·obtain ⟨e1,e2,e3⟩:=I.pin p hp
  exact ⟨e1,by rw [upd_ne (nn _ e2)]; exact e2,e3⟩
 ·have go:∀ {a:Addr} {v:HO},ObjOk X.prog X.w H s.heap a v->ObjOk X.prog X.w (upd H d u) s.heap a v:=fun q =>
   q.stay (fun _ _ _ q=>q) (fun c q=>by rw [upd_ne (ne c _ q fun _ _ z=>by cases z)]; exact q) fun c xs q=>by rw [upd_ne (ne c _ q fun _ _ z=>by cases z)]; exact q
  by_cases z:b = d
  ·subst z; rw [upd_same] at e; cases e
   exact go (I.hok b _ hd).2
  ·rw [upd_ne z] at e
   exact go (I.hok b w e)
noncomputable def thawE (d:Addr) (D:Ends):Ends where
 nx:=fun σ H=>∃ o u,H d = some (.frz o u) /\ D.nx σ (upd H d u)
 rt:=fun v H=>∃ o u,H d = some (.frz o u) /\ D.rt v (upd H d u)
 bk:=fun σ H=>∃ o u,H d = some (.frz o u) /\ D.bk σ (upd H d u)
 ct:=fun σ H=>∃ o u,H d = some (.frz o u) /\ D.ct σ (upd H d u)
noncomputable def tThaw (t:TS):TS:=fun D σ H=>∃ d u,H d = some u /\ isDk u = true /\ t (thawE d D) σ H
theorem ps_thaw {st:Stmt} {t:TS} (h:PS X st t):PS X st (tThaw t):=by
 intro pins s σ H D I hq
 obtain ⟨d,u,hd,hu,ht⟩:=hq
 have h0:=I.unfrozen hd hu
 refine thn (h pins s σ H _ I ht) fun f s1 q=>?_
 cases f with
 | next=>obtain ⟨σ',H',I',o,v,e,q⟩:=q; exact ⟨σ',_,I'.thaw e h0,q⟩
 | brk=>obtain ⟨σ',H',I',o,v,e,q⟩:=q; exact ⟨σ',_,I'.thaw e h0,q⟩
 | cont=>obtain ⟨σ',H',I',o,v,e,q⟩:=q; exact ⟨σ',_,I'.thaw e h0,q⟩
 | ret w=>obtain ⟨x,σ',H',I',r,o,v,e,q⟩:=q; exact ⟨x,σ',_,I'.thaw e h0,r,q⟩
noncomputable abbrev PsRel (ps:List (V × V)) (es:List DictEntry):Prop:=Paired (fun p e=>RelV p.1 e.key /\ RelV p.2 e.val) ps es
noncomputable def Pss (H:Hp):HO->List (V × V)->Prop
 | .dK kvs,ps=>ps = kvs.map fun kv=>(kV kv.1,kv.2)
 | .dT kvs,ps=>Paired (fun kv p=>∃ b,p = (V.ref b,kv.2) /\ H b = some (.tup (kv.1.map kV))) kvs ps
 | _,_=>False
theorem ps_of_pairs {P:Program} {w:World}:∀ {kvs:List (Key × V)} {vs:List (Key × Value)} {es:List DictEntry},KV kvs vs->Pairs (mixKind P w) es vs->PsRel (kvs.map fun kv=>(kV kv.1,kv.2)) es
 | [],[],_,_,p=>by cases p; exact .nil
 | [],_ :: _,_,r,_=>nomatch r
 | _ :: _,[],_,r,_=>nomatch r
 | kv :: kvs,v :: vs,es,.cons h r,p=>by
  cases p with
  | cons a b c =>
   refine .cons ⟨?_,?_⟩ (ps_of_pairs r c)
   ·have a:=a
    rw [<- h.1] at a
    rcases keyIs_shape a with ⟨i,t,e1,e2⟩ | ⟨x,t,e1,e2⟩
    ·show RelV (kV kv.1) _; rw [e1,e2]; exact ⟨t,rfl⟩
    ·show RelV (kV kv.1) _; rw [e1,e2]; exact ⟨t,rfl⟩
   ·rw [b]; exact h.2
theorem ps_of_keys {P:Program} {w:World} {H:Hp}:∀ {kvs:List (List Key × V)} {xs:List (List Key × Addr × Value)},KT H kvs xs->∃ ps,Paired (fun kv p=>∃ b,p = (V.ref b,kv.2) /\ H b = some (.tup (kv.1.map kV))) kvs ps /\ PsRel ps (xs.map (entryOfKey (tupleKind (mixKind P w))))
 | _,_,.nil=>⟨[],.nil,.nil⟩
 | kv :: _,x :: _,.cons h r=>by
  obtain ⟨ps,h1,h2⟩:=ps_of_keys (P:=P) (w:=w) r
  exact ⟨(.ref x.2.1,kv.2) :: ps,.cons ⟨x.2.1,rfl,h.2.1⟩ h1,.cons ⟨rfl,h.2.2⟩ h2⟩
theorem Inv.raw (I:Inv X pins σ H s) (hd:H d = some u) (hu:isDk u = true):∃ o es ep ps,s.heap.get? d = some o /\ o.ExactDict /\ o.data = .dict es ep /\ (d == sysModules) = false /\ Pss H u ps /\ PsRel ps es.toList:=by
 have ok:=I.hok d u hd
 cases u with
 | dK kvs =>
  obtain ⟨_,hs,vs,kv,o,es,ep,g,ex,dat,_,pr,_⟩:=ok
  exact ⟨o,es,ep,_,g,ex,dat,hs,rfl,ps_of_pairs kv pr⟩
 | dT kvs =>
  obtain ⟨_,hs,xs,kt,o,es,ep,g,ex,dat,he,_⟩:=ok
  obtain ⟨ps,h1,h2⟩:=ps_of_keys (P:=X.prog) (w:=X.w) kt
  exact ⟨o,es,ep,ps,g,ex,dat,hs,h1,by rw [he]; exact h2⟩
 | _=>cases hu
noncomputable def ItD (d:Addr) (o:Obj) (u:HO) (ps:List (V × V)):It :=
 ⟨fun i H=>i < ps.length /\ H d = some (.frz o u),fun i H x H'=>∃ k v T,ps[i]? = some (k,v) /\ x = .ref T /\ H T = none /\ H' = upd H T (.tup [k,v]),fun i H=>i = ps.length /\ H d = some (.frz o u)⟩
theorem pair_at {α β:Type} {F:α->β->Prop}:∀ {xs:List α} {ys:List β} {i:Nat} {x:α},Paired F xs ys->xs[i]? = some x->∃ y,ys[i]? = some y /\ F x y
 | _,_,_,_,.nil,e=>by simp at e
 | _,_,0,_,.cons r _,e=>by simp at e; subst e; exact ⟨_,rfl,r⟩
 | _,_,i + 1,x,.cons _ t,e=>by
  obtain ⟨u,h1,h2⟩:=pair_at (i:=i) (x:=x) t (by simpa using e)
  exact ⟨u,by simpa using h1,h2⟩
theorem turn_items {P:Program} {w:World} {K:PySem.W.Frag} {elts:List Expr} {kk:Nat} {pos:Pos} {d it:Addr} {o:Obj} {u:HO} {ps:List (V × V)} {es:Array DictEntry} {ep:Nat} (hx:o.ExactDict) (dat:o.data = .dict es ep) (rel:PsRel ps es.toList) :
  Turn P w K (.Tuple elts kk pos) (ItD d o u ps) [it] it (fun i h=>∃ ok ov,IsItemIter h it d i es.size ep ok ov) where
 mem:=by simp
 obj:=fun i h st b hb=>by
  have e:b = it:=by simpa using hb
  subst e
  obtain ⟨ok,ov,st⟩:=st
  exact ⟨_,st,fun v z=>by cases z⟩
 keep:=fun i h h' st k=>let ⟨ok,ov,st⟩:=st; ⟨ok,ov,k it (by simp) _ st⟩
 item:=by
  intro X hP hw hK hc i pins s σ H E I hf st hg
  subst hP hw hK
  obtain ⟨f0,f1,_,f3,f4,f5⟩:=hf it (by simp)
  obtain ⟨ok,ov,st⟩:=st
  obtain ⟨hi,hd⟩:=hg
  have hlen:ps.length = es.size:=by rw [rel.length]; simp
  have hi':i < es.size:=by lia
  refine raw_next st ⟨o,(I.hok d _ hd).1,hx,dat⟩ hi' fun h' jo ht kk=>?_
  refine ⟨_,rfl,wpAny_letOwnedTupleGo_items jo fun h2 he2 sb=>?_⟩
  obtain ⟨p,hp⟩:∃ p,ps[i]? = some p:=⟨ps[i],by simp [hi]⟩
  obtain ⟨e',he',rk,rv⟩:=pair_at rel hp
  have ee:e' = es[i]:=by
   have:es.toList[i]? = some es[i]:=by simp [hi']
   rw [this] at he'; exact (Option.some.inj he').symm
  subst ee
  have nT:s.heap.objs.size ≠ it:=Nat.ne_of_gt (Heap.lt_size st)
  have I1:Inv X pins σ H { s with heap:=h2,toks:=s.toks }:=I.turned (fun b ob hb e=>sb.extBut b ob hb (kk b ob hb e)) f0 f1 f3 f4 f5
  have hT2:h2.get? s.heap.objs.size = some { cls:=.type "tuple",data:=.seq #[es[i].key,es[i].val] }:=sb.extBut _ _ nT ht
  obtain ⟨g0,g1,_,_,g4,g5⟩:=I.fpOk (Nat.le_refl _) I.fresh
  have I2:=I1.track (a:=s.heap.objs.size) (o:=.tup [p.1,p.2]) g0 (by
   cases q:X.s₀.heap.get? s.heap.objs.size with
   | none=>rfl
   | some ob=>exact absurd (Nat.lt_of_lt_of_le (Heap.lt_size q) I.sz) (Nat.lt_irrefl _)) g1 g4 g5 ⟨small1000 (by simp) |> Nat.le_of_lt,[es[i].key,es[i].val],.cons rk (.cons rv .nil),⟨_,hT2,rfl,_,rfl⟩⟩
  refine ⟨.ref _,_,I2,rfl,⟨p.1,p.2,_,hp,rfl,g0,rfl⟩,⟨_,_,he2⟩,fun b hb=>?_⟩
  have e:b = it:=by simpa using hb
  subst e
  rw [upd_ne (Ne.symm nT)]; exact f0
 done:=by
  intro X hP hw hK hc i pins s σ H E I hf st hg
  subst hP hw hK
  obtain ⟨f0,f1,_,f3,f4,f5⟩:=hf it (by simp)
  obtain ⟨ok,ov,st⟩:=st
  obtain ⟨hi,hd⟩:=hg
  have hlen:ps.length = es.size:=by rw [rel.length]; simp
  exact raw_end (I.ok.hd hc) st ⟨o,(I.hok d _ hd).1,hx,dat⟩ (by rw [hi,hlen]; exact Nat.le_refl _) fun h' eb=>⟨rfl,I.turned (t':=s.toks) (fun b ob hb e=>eb b ob hb e) f0 f1 f3 f4 f5⟩
 self:=fun A i s Q E st h=>let ⟨_,_,st⟩:=st; PySem.W.kcp_self st h
noncomputable def viewO (v d:Addr):HO:=.ext fun h=>h.IsItemsView v d
noncomputable def rItems:V->List V->Hp->VK->Prop:=fun x vs H Q=>∃ d u,x = .ref d /\ vs = [] /\ H d = some u /\ isDk u = true /\ ∀ p,H p = none->Q (.ref p) (upd H p (viewO p d))
theorem mt_items:MtR X "dict.items" rItems:=by
 intro pins s σ H x xs v us Q I rx rv h
 obtain ⟨d,u,rfl,rfl,hd,hu,q⟩:=h
 cases rx
 cases rv
 obtain ⟨o,es,ep,ps,g,ex,dat,hs,_,_⟩:=I.raw hd hu
 have rw0:RawD s.heap d es ep:=⟨o,g,ex,dat⟩
 refine call_meetsIn PySem.F.slot_dict_items rw0.ty PySem.F.entry_dict_items (PySem.F.args_dict_items_1 (_)) (raw_items hs) ⟨⟨es,ep,rw0⟩,?_⟩
 refine ⟨.ref _,_,I.laid (t':=s.toks) (o:=viewO s.heap.objs.size d) (fun b ob e=>Heap.get?_push_of_some _ e) (Nat.le_refl _) ?_,rfl,q _ I.fresh⟩
 exact ⟨⟨_,Heap.get?_push_size _ rfl,rfl,rfl⟩,⟨_,Heap.get?_push_size _ rfl⟩,fun h1 h2 ⟨ob,e,c⟩ k=>⟨ob,k ob e,c⟩⟩
noncomputable def iItems (tl:TE):TI:=fun σ H R=>tl σ H fun x H1=>∃ v d u,x = .ref v /\ H1 v = some (viewO v d) /\ H1 d = some u /\ isDk u = true /\ ∀ o ps,Pss H1 u ps->R (ItD d o u ps) (upd H1 d (.frz o u))
theorem pi_items {elts:List Expr} {kk:Nat} {pos:Pos} {l:Expr} {tl:TE} (hl:PE X l tl):PI X (.Tuple elts kk pos) l (iItems tl):=by
 intro pins s σ H R I h
 refine thn (hl pins s σ H _ I h) fun v s1 ⟨x,H1,I1,r1,q1⟩=>?_
 obtain ⟨vw,d,u,rfl,hv,hd,hu,q⟩:=q1
 cases r1
 obtain ⟨o,es,ep,ps,g,ex,dat,hs,hps,rel⟩:=I1.raw hd hu
 have hv':s1.heap.IsItemsView vw d:=(I1.hok vw _ hv).1
 refine raw_iter hv' ⟨o,g,ex,dat⟩ ?_
 have I2:Inv X pins σ H1 _:=I1.kept (t':=s1.toks) (h':=s1.heap.push { cls:=.type "dict_itemiterator",data:=.fields #[.none,.bool false,.ref d,.int 0 0,.int es.size 0,.int ep 0,.none,.none] }) fun b ob e=>Heap.get?_push_of_some _ e
 refine ⟨s1.heap.objs.size,[s1.heap.objs.size],_,_,_,rfl,I2.freeze hd hu (Heap.get?_push_of_some _ g),turn_items ex dat rel,⟨_,_,Heap.get?_push_size _ rfl⟩,fun b hb=>?_,q o ps hps⟩
 have e:b = s1.heap.objs.size:=by simpa using hb
 subst e
 exact I1.fpOk (Nat.le_refl _) (by rw [upd_ne (ne_of_none hd I1.fresh).symm]; exact I1.fresh)
end
end L2
namespace L2
open PySem PySem.Spec PyProof.Rows
section
variable {prog:Program} {w:World} {A:Around} {E:Value->Shared->Prop} {s:Shared} {it d vw:Addr} {i ep:Nat} {es:Array DictEntry}
theorem raw_values (hd:(d == sysModules) = false):MeetsIn prog w (Builtin.«dict.values» ⟨[.ref d],[]⟩) (fun _ R s=>(∃ es ep,RawD s.heap d es ep) /\ R (.ok (.ret (.ref s.heap.objs.size))) { s with heap:=s.heap.push { cls:=.type "dict_values",data:=.fields #[.ref d] } }) :=
 .of_wp fun A R s ⟨⟨es,ep,hm⟩,h⟩=>by
  refine wpAny_bind (?_); unfold Builtin.Dict.noArgs
  refine wpAny_bind (wpAny_notOrdered_dict hm.ty ?_); show wpAny _ _ (pure d) _ _ s
  refine wpAny_pure ?_; show wpAny _ _ (Builtin.Dict.showsAll d >>= _) _ _ s
  unfold Builtin.Dict.showsAll
  rw [if_neg (show ¬ ((d == sysModules) = true) by rw [hd]; simp)]
  exact wpAny_bind (wpAny_pure (wpAny_bind (wpAny_newObj_type (wpAny_pure ⟨_,rfl,h⟩))))
theorem raw_viter {Q:Value->Shared->Prop} (hv:s.heap.IsValuesView vw d) (hm:RawD s.heap d es ep)
  (q:Q (.ref s.heap.objs.size) { s with heap:=s.heap.push { cls:=.type "dict_valueiterator",data:=.fields #[.ref d,.int 0 0,.int es.size 0,.int ep 0] } }):wpAny (model prog w) A (pyIter (.ref vw)) Q E s:=by
 obtain ⟨o1,g1,c1,f1⟩:=id hv
 obtain ⟨o2,g2,c2,f2⟩:=id hm
 refine wpAny_pyIter_slot hv.typeIs F.slot_dict_values_iter (wpAny_call_entry F.slot_dict_values_iter hv.typeIs F.entry_dict_values_iter (?_) (F.args_dict_values_iter_1 (_)))
 unfold Builtin.«dict_values.__iter__» Builtin.Dict_items.dictOf Builtin.Dict_items.newIterator
 refine wpAny_bind (wpAny_pure (wpAny_bind (wpAny_bind (wpAny_field g1 f1 (x:=.ref d) rfl (wpAny_pure (wpAny_bind (wpAny_bind (wpAny_dictEntries g2 f2 (wpAny_bind (wpAny_dictEpoch g2 f2 ?_))))))))))
 have hown:(Builtin.Dict_items.ownsTuple "dict_valueiterator") = false:=by decide
 simp only [hown,Bool.false_eq_true,if_false]
 refine wpAny_newObj_type (wpAny_pure ⟨_,rfl,"dict_valueiterator",_,⟨_,Heap.get?_push_size (_) rfl,rfl⟩,F.slot_dict_valueiterator_next.lookup,(?_)⟩)
 simpa [rawInt] using q
theorem raw_vnext {Q:Option Value->Shared->Prop} (hit:s.heap.IsValIter it d i es.size ep) (hm:RawD s.heap d es ep) (hi:i < es.size)
  (q:∀ h',h'.IsValIter it d (i + 1) es.size ep->Heap.SameBut it s.heap h'->Q (some es[i].val) { s with heap:=h' }):wpAny (model prog w) A (pyNext (.ref it)) Q E s:=by
 obtain ⟨o,ho,hc,hd⟩:=id hit
 obtain ⟨o2,g2,c2,f2⟩:=id hm
 have hown:(Builtin.Dict_items.ownsTuple "dict_valueiterator") = false:=by decide
 unfold pyNext
 refine wpAny_bind (wpAny_attempt (wpAny_callSpecial?_slot (name:=Str.ofString "__next__") hit.typeIs F.slot_dict_valueiterator_next (wpAny_call_entry F.slot_dict_valueiterator_next hit.typeIs F.entry_dict_valueiterator_next ?_ (F.args_dict_valueiterator_next_1 _))))
 refine wpAny_bind (wpAny_pure (wpAny_bind (wpAny_bind ?_)))
 first | refine wpAny_bind (wpAny_typeNameOfWhole_valiter hit.typeIs (wpAny_pure (wpAny_bind (wpAny_fieldsOf ho hd ?_)))) | refine wpAny_bind (wpAny_typeNameOf_valiter hit.typeIs (wpAny_pure (wpAny_bind (wpAny_fieldsOf ho hd ?_))))
 simp only [hown,Bool.false_eq_true,if_false]
 show wpAny _ _ (if (Value.ref d == .none) = true then _ else _) _ _ _
 rw [if_neg (show ¬ ((Value.ref d == .none) = true) from Bool.false_ne_true)]
 refine wpAny_bind (wpAny_pure (wpAny_bind (wpAny_dictEntries g2 f2 ?_)))
 rw [if_neg (show ¬ _ by simp)]
 refine wpAny_bind (wpAny_pure (wpAny_bind (wpAny_dictEpoch g2 f2 ?_)))
 rw [if_neg (show ¬ _ by simp)]
 refine wpAny_pure ?_
 simp only [show ¬ ((i:Int) < 0) by lia,if_false,Int.toNat_natCast,Array.getElem?_eq_getElem hi]
 refine wpAny_bind ?_
 first | refine wpAny_bind (wpAny_typeNameOfWhole_valiter hit.typeIs (wpAny_pure (wpAny_bind (wpAny_isOneOf_valiter hit.typeIs ?_)))) | refine wpAny_bind (wpAny_typeNameOf_valiter hit.typeIs (wpAny_pure (wpAny_bind (wpAny_isOneOf_valiter hit.typeIs ?_))))
 show wpAny _ _ (setField (.ref it) 1 (rawInt ((i:Int) + 1)) >>= _) _ _ (s)
 have st:(s.heap.update it (Obj.mapFields (·.setIfInBounds 1 (rawInt ((i:Int) + 1))))).IsValIter it d (i + 1) es.size ep:=⟨_,Heap.get?_update_self _ ho (Obj.isFreed_of_fields (Obj.data_mapFields hd _)),(Obj.cls_mapFields ..).trans hc,by rw [Obj.data_mapFields hd]; simp [rawInt]⟩
 refine wpAny_bind (wpAny_setField ho hd (by simp) (wpAny_bind (wpAny_holding (wpAny_bind (wpAny_isOneOf_valiter (s:={ s with heap:=s.heap.update it (Obj.mapFields (·.setIfInBounds 1 (rawInt ((i:Int) + 1)))) }) st.typeIs (wpAny_bind (wpAny_isOneOf_valiter (s:={ s with heap:=s.heap.update it (Obj.mapFields (·.setIfInBounds 1 (rawInt ((i:Int) + 1)))) }) st.typeIs ?_)))))))
 show wpAny _ _ (pure es[i].val) _ _ (_)
 exact wpAny_pure (wpAny_pure ⟨_,rfl,wpAny_pure (q _ st (Heap.SameBut.update ..))⟩)
theorem raw_vend {Q:Option Value->Shared->Prop} (hh:A.handled = none) (hit:s.heap.IsValIter it d i es.size ep) (hm:RawD s.heap d es ep) (hi:es.size <= i)
  (q:∀ h',Heap.ExtBut it s.heap h'->Q none { s with heap:=h' }):wpAny (model prog w) A (pyNext (.ref it)) Q E s:=by
 obtain ⟨o,ho,hc,hd⟩:=id hit
 obtain ⟨o2,g2,c2,f2⟩:=id hm
 have hown:(Builtin.Dict_items.ownsTuple "dict_valueiterator") = false:=by decide
 unfold pyNext
 refine wpAny_bind (wpAny_attempt (wpAny_callSpecial?_slot (name:=Str.ofString "__next__") hit.typeIs F.slot_dict_valueiterator_next (wpAny_call_entry F.slot_dict_valueiterator_next hit.typeIs F.entry_dict_valueiterator_next ?_ (F.args_dict_valueiterator_next_1 _))))
 refine wpAny_bind (wpAny_pure (wpAny_bind (wpAny_bind ?_)))
 first | refine wpAny_bind (wpAny_typeNameOfWhole_valiter hit.typeIs (wpAny_pure (wpAny_bind (wpAny_fieldsOf ho hd ?_)))) | refine wpAny_bind (wpAny_typeNameOf_valiter hit.typeIs (wpAny_pure (wpAny_bind (wpAny_fieldsOf ho hd ?_))))
 simp only [hown,Bool.false_eq_true,if_false]
 show wpAny _ _ (if (Value.ref d == .none) = true then _ else _) _ _ _
 rw [if_neg (show ¬ ((Value.ref d == .none) = true) from Bool.false_ne_true)]
 refine wpAny_bind (wpAny_pure (wpAny_bind (wpAny_dictEntries g2 f2 ?_)))
 rw [if_neg (show ¬ _ by simp)]
 refine wpAny_bind (wpAny_pure (wpAny_bind (wpAny_dictEpoch g2 f2 ?_)))
 rw [if_neg (show ¬ _ by simp)]
 refine wpAny_pure ?_
 simp only [show ¬ ((i:Int) < 0) by lia,if_false,Int.toNat_natCast,Array.getElem?_eq_none hi]
 refine wpAny_bind ?_
 first | refine wpAny_bind (wpAny_typeNameOfWhole_valiter hit.typeIs (wpAny_pure (?_))) | refine wpAny_bind (wpAny_typeNameOf_valiter hit.typeIs (wpAny_pure (?_)))
 show wpAny _ _ (setField (.ref it) 0 .none >>= _) _ _ (s)
 refine wpAny_bind (wpAny_setField ho hd (by simp) (show wpAny _ _ (newExc (.type "StopIteration") [] >>= _) _ _ _ from wpAny_bind ?_))
 simp only [newExc,newTuple]
 refine wpAny_bind (wpAny_newObj_type (wpAny_bind (m:=firstArgMember _ _) (wpAny_of_eq (a:=Value.none) (by first | rfl | (simp only [firstArgMember]; rfl)) (wpAny_newObj_type ?_ (by size_fits)))) (by size_fits))
 simp only [raiseNew]
 refine wpAny_bind (wpAny_handled ?_)
 rw [show (Around.in1 A).handled = none from hh]
 refine wpAny_bind (wpAny_pure (wpAny_throw (?_)))
 refine wpAny_bind (wpAny_isInstance (b:=true) (T:="StopIteration") ⟨_,Heap.get?_push_size _ rfl,rfl⟩ isSubtype_stop (?_))
 exact wpAny_pure (q _ (((Heap.SameBut.update ..).extBut.push _).push _))
theorem walks_vals (hh:A.handled = none) (I d:Addr) (hne:d ≠ I) (es:Array DictEntry) (ep:Nat):Walks prog w A I [I,d] [I] es.size (fun i v=>∃ e,es[i]? = some e /\ v = e.val) (fun i h=>h.IsValIter I d i es.size ep /\ RawD h d es ep) where
 sub:=fun b hb=>by simp at hb; simp [hb]
 frame:=fun _ _ _ st k=>⟨st.1.at fun o e=>k I (by simp) o e,st.2.at fun o e=>k d (by simp) o e⟩
 item:=fun i s Q E hi st q=>raw_vnext st.1 st.2 hi fun h' st' sb=>q _ h' s.toks ⟨es[i],by simp [hi],rfl⟩ ⟨st',st.2.at fun o e=>sb.extBut d o hne e⟩ fun b o hb e=>sb.extBut b o (fun z=>hb (by simp [z])) e
 done:=fun s Q E st q=>raw_vend hh st.1 st.2 (Nat.le_refl _) fun h' eb=>q h' s.toks fun b o hb e=>eb b o (fun z=>hb (by simp [z])) e
 self:=fun _ _ _ _ st q=>wpAny_pyIter_valiter st.1 q
theorem src_vals:PySem.W.KdlSrc prog w "dict_values" vw d es.size (fun i v=>∃ e,es[i]? = some e /\ v = e.val) (fun h=>h.IsValuesView vw d /\ RawD h d es ep) where
 type:=fun _ hm=>hm.1.typeIs
 there:=fun _ hm=>⟨let ⟨_,ho,_⟩:=hm.1; Heap.lt_size ho,let ⟨_,ho,_⟩:=hm.2; Heap.lt_size ho⟩
 keep:=fun _ _ hm k=>⟨let ⟨o,ho,x⟩:=hm.1; ⟨o,k vw (.inl rfl) o ho,x⟩,hm.2.at fun o e=>k d (.inr rfl) o e⟩
 notList:=by decide
 notTuple:=by decide
 hint:=fun _ _ _ _ hm q=>PySem.W.kdl_hint_values hm.1.typeIs q
 iter:=fun _ _ hh hm=>⟨_,_,(fun _ _ q=>raw_viter hm.1 hm.2 q),walks_vals hh _ d (Nat.ne_of_lt (let ⟨_,ho,_⟩:=hm.2; Heap.lt_size ho)) es ep,⟨⟨_,Heap.get?_push_size _ rfl,rfl,rfl⟩,hm.2.at fun o e=>Heap.get?_push_of_some _ e⟩⟩
end
section
variable {X:Cx} {K:PySem.W.Frag}
noncomputable def valsO (v d:Addr):HO:=.ext fun h=>h.IsValuesView v d
noncomputable def rVals:V->List V->Hp->VK->Prop:=fun x vs H Q=>∃ d u,x = .ref d /\ vs = [] /\ H d = some u /\ isDk u = true /\ ∀ p,H p = none->Q (.ref p) (upd H p (valsO p d))
theorem mt_vals:MtR X "dict.values" rVals:=by
 intro pins s σ H x xs v us Q I rx rv h
 obtain ⟨d,u,rfl,rfl,hd,hu,q⟩:=h
 cases rx
 cases rv
 obtain ⟨o,es,ep,ps,g,ex,dat,hs,_,_⟩:=I.raw hd hu
 have rw0:RawD s.heap d es ep:=⟨o,g,ex,dat⟩
 refine call_meetsIn PySem.F.slot_dict_values rw0.ty PySem.F.entry_dict_values (PySem.F.args_dict_values_1 (_)) (raw_values hs) ⟨⟨es,ep,rw0⟩,?_⟩
 refine ⟨.ref _,_,I.laid (t':=s.toks) (o:=valsO s.heap.objs.size d) (fun b ob e=>Heap.get?_push_of_some _ e) (Nat.le_refl _) ?_,rfl,q _ I.fresh⟩
 exact ⟨⟨_,Heap.get?_push_size _ rfl,rfl,rfl⟩,⟨_,Heap.get?_push_size _ rfl⟩,fun h1 h2 ⟨ob,e,c⟩ k=>⟨ob,k ob e,c⟩⟩
theorem dk_len {H:Hp} {u:HO} {ps:List (V × V)} (h:Pss H u ps):isDk u = true->∀ {X:Cx} {pins:List (Addr × Obj)} {σ:St} {s:Shared} {d:Addr},Inv X pins σ H s->H d = some u->ps.length <= sizeLine:=by
 intro hu X pins σ s d I hd
 have ok:=I.hok d u hd
 cases u with
 | dK kvs=>obtain ⟨z,_⟩:=ok; have h:ps = _:=h; rw [h,List.length_map]; exact z
 | dT kvs=>obtain ⟨z,_⟩:=ok; have h:Paired _ kvs ps:=h; rw [<- h.length]; exact z
 | _=>cases hu
theorem call_list_vals (hc:X.calm = true):CallR X (.type "list") (fun xs H Q=>∃ v d u,xs = [V.ref v] /\ H v = some (valsO v d) /\ H d = some u /\ isDk u = true /\ ∀ ps,Pss H u ps->∀ l,H l = none->Q (.ref l) (upd H l (.lst (ps.map (·.2))))):=by
 intro pins s σ H xs us Q I r h
 obtain ⟨v,d,u,rfl,hv,hd,hu,q⟩:=h
 obtain ⟨w0,rfl,rw0⟩:=vals1 r
 cases rw0
 obtain ⟨o,es,ep,ps,g,ex,dat,hs,hps,rel⟩:=I.raw hd hu
 have hl:=dk_len hps hu I hd
 have hlen:ps.length = es.size:=by rw [rel.length]; simp
 refine PySem.W.kdl_call (src_vals (es:=es) (ep:=ep)) (I.ok.hd hc) ⟨(I.hok v _ hv).1,⟨o,g,ex,dat⟩⟩ (by lia) fun h' tk acc c kk hD hacc=>?_
 have vr:Vals (ps.map (·.2)) acc.toList:=by
  have e1:acc.toList = es.toList.map (·.val):=by
   apply List.ext_getElem?
   intro j
   rw [List.getElem?_map]
   by_cases hj:j < es.size
   ·have hj2:j < acc.size:=by rw [hacc.1]; exact hj
    obtain ⟨e,he,hv⟩:=hacc.2 j acc[j] (by simp [hj2])
    have e2:es.toList[j]? = some e:=by simpa using he
    rw [e2]
    simp [hj2,hv]
   ·have hj2:¬ j < acc.size:=by rw [hacc.1]; exact hj
    rw [List.getElem?_eq_none (by simp; lia),List.getElem?_eq_none (by simp; lia)]; rfl
  rw [e1]
  clear hlen hl hps e1 hacc
  generalize es.toList = el at rel
  induction rel with
  | nil=>exact .nil
  | cons h t ih=>exact .cons h.2 ih
 refine ⟨.ref _,_,I.laid (a:=s.heap.objs.size) (o:=.lst (ps.map (·.2))) (t':=tk) kk (Nat.le_refl _) ⟨by rw [List.length_map]; exact hl,acc.toList,c,vr,by simpa using hD⟩,rfl,q ps hps _ I.fresh⟩
end
end L2
namespace L2
open PySem PySem.Spec PyProof.Rows
section
variable {prog:Program} {w:World} {A:Around} {E:Value->Shared->Prop} {s:Shared} {it d vw:Addr} {i ep:Nat} {es:Array DictEntry}
end
section
variable {X:Cx}
theorem call_dictK:CallR X (.type "dict") (fun xs H Q=>∃ a kvs,xs = [V.ref a] /\ H a = some (.dK kvs) /\ ∀ p,H p = none->Q (.ref p) (upd H p (.dK kvs))):=by
 intro pins s σ H xs us Q I r h
 obtain ⟨a,kvs,rfl,ha,q⟩:=h
 obtain ⟨u,rfl,ru⟩:=vals1 r
 cases ru
 obtain ⟨z,y,vs,kv,D⟩:=dk_of I.hok ha
 have hl:vs.length = kvs.length:=kv.length.symm
 refine kt_call_dict y D (by lia) fun h' hm sb=>?_
 refine ⟨.ref _,_,I.laid (a:=s.heap.objs.size) (o:=.dK kvs) (t':=s.toks) (fun b ob e=>?_) (Nat.le_refl _) ⟨z,?_,vs,kv,hm⟩,rfl,q _ I.fresh⟩
 ·exact sb.extBut b ob (Nat.ne_of_lt (Heap.lt_size e)) (Heap.get?_push_of_some _ e)
 ·exact beq_eq_false_iff_ne.mpr (Nat.ne_of_gt I.big)
end
theorem pe_bm0' {X:Cx} {K:PySem.W.Frag} {o:Expr} {to:TE} {name:Str} {apos cpos:Pos} {T id:String} {r:V->List V->Hp->VK->Prop} (h:X.K = K) (pa:PlainAttrs T) (slot:Slot T name id) (hty:typeOf (.builtin id) = pure (.type "method_descriptor")) (hm:MtR X id r) (ho:PE X o to)
  (hbase:attributeBase o name X.env (eval o X.env) = eval o X.env:=by rfl) (hline:(apos.endLine == cpos.line) = true:=by rfl):PE X (.Call (.Attribute o name apos) [] [] cpos) (tBM0 K T r to):=by subst h; exact pe_bm0 pa slot hty hm ho hbase hline
theorem for_items {d:Addr} {o:Obj} {u:HO} {ps:List (V × V)} {g:TG} {tb:TS} {D:Ends} {σ:St} {H:Hp} (Pv:Nat->St->Hp->Prop) (h0:Pv 0 σ H) (hf:∀ i σ H,Pv i σ H->H d = some (.frz o u))
  (hs:∀ i k v T σ H,ps[i]? = some (k,v)->Pv i σ H->H T = none->g (.ref T) σ (upd H T (.tup [k,v])) fun σ2 H2=>tb { D with nx:=Pv (i + 1),ct:=Pv (i + 1),bk:=D.nx } σ2 H2) (hd:∀ σ H,Pv ps.length σ H->D.nx σ H) :
  ∃ W:Nat->Nat->St->Hp->Prop,(∃ m,W 0 m σ H) /\ ∀ i m σ H,W i m σ H->((ItD d o u ps).stop i H /\ D.nx σ H) \/ ((ItD d o u ps).go i H /\ ∃ N:St->Hp->Prop,(∀ σ' H',N σ' H'->∃ m',m' < m /\ W (i + 1) m' σ' H') /\
   ∀ x H',(ItD d o u ps).yld i H x H'->g x σ H' fun σ2 H2=>tb { D with nx:=N,ct:=N,bk:=D.nx } σ2 H2):=by
 refine ⟨fun i m σ H=>m = ps.length - i /\ i <= ps.length /\ Pv i σ H,⟨_,rfl,Nat.zero_le _,h0⟩,?_⟩
 rintro i m σ H ⟨rfl,hi,p⟩
 by_cases hlt:i < ps.length
 ·refine .inr ⟨⟨hlt,hf i σ H p⟩,Pv (i + 1),fun σ' H' p'=>⟨ps.length - (i + 1),by lia,rfl,hlt,p'⟩,fun x H' y=>?_⟩
  obtain ⟨k,v,T,hk,e1,hT,e2⟩:=y
  subst e1 e2
  exact hs i k v T σ H hk p hT
 ·have e:i = ps.length:=by lia
  subst e
  exact .inl ⟨⟨rfl,hf _ σ H p⟩,hd σ H p⟩
end L2
namespace Tc
section
variable {α:Type} [DecidableEq α]
noncomputable def IsM (P k:Nat) (r:Rat):Prop:=0 <= r /\ ∃ m:Nat,m <= k * P /\ r * (P:Rat) = (m:Rat)
theorem natne {P:Nat} (h:0 < P):(P:Rat) ≠ 0:=by
 intro e
 have:(P:Rat) = ((0:Nat):Rat):=e
 have:=Rat.natCast_inj.mp this
 lia
theorem IsM.eq {P k:Nat} {r:Rat} (hP:0 < P) (h:IsM P k r):∃ m:Nat,m <= k * P /\ r = Rat.divInt m P:=by
 obtain ⟨_,m,hm,e⟩:=h
 refine ⟨m,hm,?_⟩
 rw [Rat.divInt_eq_div,Rat.intCast_natCast,Rat.intCast_natCast]
 have:=natne hP
 grind
theorem IsM.zero (P k:Nat):IsM P k 0:=⟨by decide,0,Nat.zero_le _,by rw [Rat.zero_mul]; rfl⟩
theorem IsM.one (P:Nat):IsM P 1 1:=⟨by decide,P,by lia,by rw [Rat.one_mul]⟩
theorem IsM.add {P k j:Nat} {r q:Rat} (h:IsM P k r) (g:IsM P j q):IsM P (k + j) (r + q):=by
 obtain ⟨h0,m,hm,e⟩:=h
 obtain ⟨g0,n,hn,f⟩:=g
 refine ⟨Rat.add_nonneg h0 g0,m + n,by rw [Nat.add_mul]; lia,?_⟩
 rw [Rat.add_mul,e,f,Rat.natCast_add]
theorem mul_den (t:Rat):t * (t.den:Rat) = (t.num:Rat):=by
 have h:=Rat.num_divInt_den t
 rw [Rat.divInt_eq_div,Rat.intCast_natCast] at h
 have:=natne t.den_pos
 grind
theorem parts {t:Rat} (h0:0 <= t) (h1:t <= 1):∃ u w:Nat,t.den = u + w /\ t * (t.den:Rat) = (u:Rat) /\ (1 - t) * (t.den:Rat) = (w:Rat):=by
 have n0:=Rat.num_nonneg.mpr h0
 have n1:=(Rat.le_iff t 1).mp h1
 have n1:t.num <= t.den:=by simpa using n1
 obtain ⟨u,hu⟩:=Int.eq_ofNat_of_zero_le n0
 have hw:t.den = u + (t.den - u):=by lia
 have e:=mul_den t
 rw [hu,Rat.intCast_natCast] at e
 refine ⟨u,t.den - u,hw,e,?_⟩
 have e2:(t.den:Rat) = (u:Rat) + ((t.den - u:Nat):Rat):=by rw [<- Rat.natCast_add,<- hw]
 grind
theorem IsM.mulL {P k:Nat} {a t:Rat} (h:IsM P k a) (h0:0 <= t) (h1:t <= 1):IsM (P * t.den) k (a * t):=by
 obtain ⟨a0,m,hm,e⟩:=h
 obtain ⟨u,w,hd,eu,ew⟩:=parts h0 h1
 refine ⟨Rat.mul_nonneg a0 h0,m * u,?_,?_⟩
 ·rw [hd,<- Nat.mul_assoc]
  exact Nat.mul_le_mul hm (by lia)
 ·rw [Rat.natCast_mul,Rat.natCast_mul,<- e,<- eu]; grind
theorem sub_nonneg {t:Rat} (h1:t <= 1):0 <= 1 - t:=by grind
theorem IsM.mix {P k:Nat} {a b t:Rat} (h:IsM P k a) (g:IsM P k b) (h0:0 <= t) (h1:t <= 1):IsM (P * t.den) k (a * (1 - t) + b * t):=by
 obtain ⟨a0,m,hm,e⟩:=h
 obtain ⟨b0,n,hn,f⟩:=g
 obtain ⟨u,w,hd,eu,ew⟩:=parts h0 h1
 refine ⟨Rat.add_nonneg (Rat.mul_nonneg a0 (sub_nonneg h1)) (Rat.mul_nonneg b0 h0),m * w + n * u,?_,?_⟩
 ·rw [hd,<- Nat.mul_assoc,Nat.mul_add]
  have:=Nat.mul_le_mul_right w hm
  have:=Nat.mul_le_mul_right u hn
  lia
 ·rw [Rat.natCast_add,Rat.natCast_mul,Rat.natCast_mul,Rat.natCast_mul,<- e,<- f,<- eu,<- ew]; grind
theorem IsM.mulR {P k:Nat} {a t:Rat} (h:IsM P k a) (h0:0 <= t) (h1:t <= 1):IsM (P * t.den) k (a * (1 - t)):=by
 have:=h.mix (IsM.zero P k) h0 h1
 rw [Rat.zero_mul,Rat.add_zero] at this
 exact this
theorem IsM.up {P k:Nat} {a:Rat} (h:IsM P k a) (d:Nat):IsM (P * d) k a:=by
 obtain ⟨a0,m,hm,e⟩:=h
 refine ⟨a0,m * d,by rw [<- Nat.mul_assoc]; exact Nat.mul_le_mul_right d hm,?_⟩
 rw [Rat.natCast_mul,Rat.natCast_mul,<- e]; grind
theorem nodup_len:∀ {L ks:List α},ks.Nodup->(∀ z ∈ ks,z ∈ L)->ks.length <= L.length
 | L,[],_,_=>by simp
 | L,k :: ks,hk,h=>by
  rw [List.nodup_cons] at hk
  have hm:=h k List.mem_cons_self
  have:=nodup_len (L:=L.erase k) (ks:=ks) hk.2 fun z hz=>by
   refine (List.mem_erase_of_ne ?_).mpr (h z (List.mem_cons_of_mem _ hz))
   rintro rfl; exact hk.1 hz
  rw [List.length_erase_of_mem hm] at this
  have hp:=List.length_pos_of_mem hm
  rw [List.length_cons]
  lia
end
end Tc
namespace L2
open PySem PySem.Spec PyProof.Rows
section
variable {X:Cx} {K:PySem.W.Frag}
end
end L2
namespace L2
open PySem PySem.Spec PyProof.Rows
theorem Paired.app {α β:Type} {F:α->β->Prop} {xs xs':List α} {ys ys':List β} (h:Paired F xs ys) (g:Paired F xs' ys'):Paired F (xs ++ xs') (ys ++ ys'):=by
 induction h with
 | nil=>exact g
 | cons r t ih=>exact .cons r ih
section
variable {X:Cx} {K:PySem.W.Frag} {pos:Pos}
end
end L2
namespace L2
open PySem PySem.Spec PyProof.Rows
end L2
namespace L2
open PySem PySem.Spec PyProof.Rows
theorem bt_enumerate:bootBuiltins "enumerate" = some (.type "enumerate"):=by decide +kernel
section
variable {X:Cx} {pins:List (Addr × Obj)} {σ:St} {H:Hp} {s:Shared} {h':Heap}
theorem Inv.turns {t':Nat} {ch:List Addr} (I:Inv X pins σ H s) (k:∀ b o,b ∉ ch->s.heap.get? b = some o->h'.get? b = some o) (hf:∀ b ∈ ch,FpOk X pins H b):Inv X pins σ H { s with heap:=h',toks:=t' }:=by
 have nit:∀ b u,H b = some u->b ∉ ch:=fun b u e z=>by rw [(hf b z).1] at e; cases e
 refine I.step (g':=s.gens) (d':=s.drawn) (ch:=ch) (fun b hb=>?_) (fun b o _ _ hc e _=>k b o hc e) (fun b o _ _ hc e _=>⟨o.slots,k b o hc e⟩) (fun _ _ _ _ n=>n) (fun b o hc e=>⟨o,k b o hc e⟩) (fun _ _ e=>e) (fun _ _ _ e=>e) (fun b ps e=>⟨#[],by rw [e]; simp⟩) (fun m hm=>?_) (fun b u e=>?_) I.bare
 ·obtain ⟨f0,f1,f2,f3,f4,f5⟩:=hf b hb
  exact ⟨f3,f1,f4,f5⟩
 ·obtain ⟨o,es,ep,ho,r⟩:=hm
  exact ⟨o,es,ep,k _ o (fun z=>(hf _ z).2.1 rfl) ho,r⟩
 ·refine (I.hok b u e).stay (fun c v hc q=>k c v ?_ q) (fun _ q=>q) fun _ _ q=>q
  rcases hc with z | z
  ·rw [z]; exact nit b u e
  ·exact nit c _ z
end
noncomputable def ItE (K:PySem.W.Frag) (a:Addr) (xs:List V):It :=
 ⟨fun i H=>i < xs.length /\ SqL K H a xs,fun i H x H'=>∃ v T,xs[i]? = some v /\ x = .ref T /\ H T = none /\ H' = upd H T (.tup [.int (i:Nat),v]),fun i H=>i = xs.length /\ SqL K H a xs⟩
theorem turn_enum {P:Program} {w:World} {K:PySem.W.Frag} {elts:List Expr} {kk:Nat} {pos:Pos} (a e li:Addr) (xs:List V) (hne:e ≠ li) :
  Turn P w K (.Tuple elts kk pos) (ItE K a xs) [e,li] e (fun i h=>∃ old,IsEnum h e li ((i:Nat):Int) old /\ h.IsListIter li a i) where
 mem:=by simp
 obj:=fun i h st b hb=>by
  obtain ⟨old,s1,o,e2,c,d⟩:=st
  simp only [List.mem_cons,List.not_mem_nil,or_false] at hb
  rcases hb with rfl | rfl
  ·exact ⟨_,s1,fun v z=>by cases z⟩
  ·exact ⟨o,e2,fun v z=>by rw [d] at z; cases z⟩
 keep:=fun i h h' st k=>let ⟨old,s1,s2⟩:=st; ⟨old,k e (by simp) _ s1,s2.at fun o eo=>k li (by simp) o eo⟩
 item:=by
  intro X hP hw hK hc i pins s σ H E I hf st hg
  subst hP hw hK
  obtain ⟨old,st1,st2⟩:=st
  obtain ⟨hi,hq⟩:=hg
  obtain ⟨its,rv,p,hz⟩:=I.list hq
  have hx:xs[i]? = some xs[i]:=by simp [hi]
  obtain ⟨u,hu,ru⟩:=rv.get hx
  refine wpAny_pyNext_enum_item st1 st2 p.isList (x:=u) (by simpa using hu) hne fun h' jo jl ht hz' kp=>?_
  refine ⟨_,rfl,wpAny_letOwnedTupleGo_enum jo fun h2 he2 sb=>?_⟩
  have sb:Heap.SameBut e h' h2:=sb
  have nTe:s.heap.objs.size ≠ e:=Nat.ne_of_gt (Heap.lt_size st1)
  have nTl:s.heap.objs.size ≠ li:=by
   obtain ⟨o,e2,_⟩:=id st2
   exact Nat.ne_of_gt (Heap.lt_size e2)
  have I1:Inv X pins σ H { s with heap:=h2,toks:=s.toks + 1 }:=I.turns (ch:=[e,li]) (fun b o hb eo=>sb.extBut b o (fun z=>hb (by simp [z])) (kp b o (fun z=>hb (by simp [z])) (fun z=>hb (by simp [z])) eo)) hf
  have hT2:h2.get? s.heap.objs.size = some { cls:=.type "tuple",data:=.seq #[.int i s.toks,u] }:=sb.extBut _ _ nTe ht
  obtain ⟨g0,g1,_,_,g4,g5⟩:=I.fpOk (Nat.le_refl _) I.fresh
  have I2:=I1.track (a:=s.heap.objs.size) (o:=.tup [.int (i:Nat),xs[i]]) g0 (by
   cases q:X.s₀.heap.get? s.heap.objs.size with
   | none=>rfl
   | some ob=>exact absurd (Nat.lt_of_lt_of_le (Heap.lt_size q) I.sz) (Nat.lt_irrefl _)) g1 g4 g5 ⟨small1000 (by simp) |> Nat.le_of_lt,[.int i s.toks,u],.cons ⟨_,rfl⟩ (.cons ru .nil),⟨_,hT2,rfl,_,rfl⟩⟩
  refine ⟨.ref _,_,I2,rfl,⟨xs[i],_,hx,rfl,g0,rfl⟩,⟨_,he2,jl.extBut sb.extBut hne.symm⟩,fun b hb=>?_⟩
  have nb:b ≠ s.heap.objs.size:=by
   simp only [List.mem_cons,List.not_mem_nil,or_false] at hb
   rcases hb with rfl | rfl
   ·exact nTe.symm
   ·exact nTl.symm
  rw [upd_ne nb]; exact (hf b hb).1
 done:=by
  intro X hP hw hK hc i pins s σ H E I hf st hg
  subst hP hw hK
  obtain ⟨old,st1,st2⟩:=st
  obtain ⟨hi,hq⟩:=hg
  obtain ⟨its,rv,p,hz⟩:=I.list hq
  have hl:=rv.length
  exact wpAny_pyNext_enum_end (I.ok.hd hc) st1 st2 p.isList (by simp; lia) fun h' eb=>⟨rfl,I.turns (t':=s.toks) (ch:=[e,li]) (fun b o hb eo=>eb b o (fun z=>hb (by simp [z])) eo) hf⟩
 self:=fun A i s Q E st h=>let ⟨_,st1,_⟩:=st; wpAny_pyIter_enum st1 h
section
variable {X:Cx} {K:PySem.W.Frag}
noncomputable def iEnum (K:PySem.W.Frag) (ta:TA):TI:=fun σ H R=>ta σ H fun vs H1=>∃ a xs,vs = [V.ref a] /\ SqL K H1 a xs /\ R (ItE K a xs) H1
theorem pi_enum {elts:List Expr} {kk:Nat} {tpos:Pos} {a:Expr} {ta:TA} {p pos:Pos} (hK:X.K = K) (hg:Gl X "enumerate") (hm:X.mg "enumerate" = none) (ha:PA X [a] ta) (hs:starEach [a] X.env = [(false,eval a X.env)]:=by rfl):PI X (.Tuple elts kk tpos) (.Call (.Name "enumerate" p) [a] [] pos) (iEnum K ta):=by
 subst hK
 intro pins s σ H R I h
 refine Call_ (ld_blt I hg hm bt_enumerate (PyProof.Rows.callWith_type1 (thn (ha pos pins s σ H _ I h) fun us s1 ⟨vs,H1,I1,r1,q1⟩=>?_) hs rfl))
 obtain ⟨b,xs,rfl,hq,q⟩:=q1
 obtain ⟨u,rfl,ru⟩:=vals1 r1
 cases ru
 obtain ⟨its,rv,p,hz⟩:=I1.list hq
 refine call_enumerate_list p.isList fun h' he hl hz kk=>wpAny_pyIter_enum he ?_
 refine ⟨s1.heap.objs.size + 1,[s1.heap.objs.size + 1,s1.heap.objs.size],_,_,H1,rfl,I1.kept (t':=s1.toks) kk,turn_enum b (s1.heap.objs.size + 1) s1.heap.objs.size xs (Nat.succ_ne_self _),⟨_,he,hl⟩,fun c hc=>?_,q⟩
 simp only [List.mem_cons,List.not_mem_nil,or_false] at hc
 rcases hc with rfl | rfl
 ·exact I1.fpOk (by lia) (I1.hok.fresh (by lia))
 ·exact I1.fpOk (Nat.le_refl _) (I1.hok.fresh (Nat.le_refl _))
end
theorem for_enum {K:PySem.W.Frag} {a:Addr} {xs:List V} {g:TG} {tb:TS} {D:Ends} {σ:St} {H:Hp} (Pv:Nat->St->Hp->Prop) (h0:Pv 0 σ H) (hl:∀ i σ H,i <= xs.length->Pv i σ H->SqL K H a xs)
  (hs:∀ i v T σ H,xs[i]? = some v->Pv i σ H->H T = none->g (.ref T) σ (upd H T (.tup [.int (i:Nat),v])) fun σ2 H2=>tb { D with nx:=Pv (i + 1),ct:=Pv (i + 1),bk:=D.nx } σ2 H2) (hd:∀ σ H,Pv xs.length σ H->D.nx σ H) :
  ∃ W:Nat->Nat->St->Hp->Prop,(∃ m,W 0 m σ H) /\ ∀ i m σ H,W i m σ H->((ItE K a xs).stop i H /\ D.nx σ H) \/ ((ItE K a xs).go i H /\ ∃ N:St->Hp->Prop,(∀ σ' H',N σ' H'->∃ m',m' < m /\ W (i + 1) m' σ' H') /\
   ∀ x H',(ItE K a xs).yld i H x H'->g x σ H' fun σ2 H2=>tb { D with nx:=N,ct:=N,bk:=D.nx } σ2 H2):=by
 refine ⟨fun i m σ H=>m = xs.length - i /\ i <= xs.length /\ Pv i σ H,⟨_,rfl,Nat.zero_le _,h0⟩,?_⟩
 rintro i m σ H ⟨rfl,hi,p⟩
 have q:=hl i σ H hi p
 by_cases hlt:i < xs.length
 ·refine .inr ⟨⟨hlt,q⟩,Pv (i + 1),fun σ' H' p'=>⟨xs.length - (i + 1),by lia,rfl,hlt,p'⟩,fun x H' y=>?_⟩
  obtain ⟨v,T,hv,e1,hT,e2⟩:=y
  subst e1 e2
  exact hs i v T σ H hv p hT
 ·have e:i = xs.length:=by lia
  subst e
  exact .inl ⟨⟨rfl,q⟩,hd σ H p⟩
end L2
namespace L2
open PySem PySem.Spec PyProof.Rows
section
variable {X:Cx}
end
end L2
namespace L2
open PySem PySem.Spec PyProof.Rows
section
variable {X:Cx} {K:PySem.W.Frag}
end
end L2
namespace L2
theorem by_key1 {α:Type} {P C:α->Prop} {G:Prop} (go:(∀ x,C x->P x)->G) (body:∀ x,C x->P x):G:=go body
theorem by_key2 {α β:Type} {P C:α->β->Prop} {G:Prop} (go:(∀ x y,C x y->P x y)->G) (body:∀ x y,C x y->P x y):G:=go body
end L2
namespace L2
open PySem PySem.Spec PyProof.Rows
section
variable {X:Cx}
noncomputable def tJs:List TE->Str->TE
 | [],acc=>fun _ H Q=>acc.length <= 16777216 /\ Q (.str acc) H
 | t :: ts,acc=>fun σ H Q=>t σ H fun x H1=>∃ y,x = .str y /\ (acc ++ y).length <= 16777216 /\ tJs ts (acc ++ y) σ H1 Q
theorem joins_of {pins:List (Addr × Obj)} {σ:St} {Q:VK}:∀ (es:List Expr) (ts:List TE) (acc:Str) (s:Shared) (H:Hp),Paired (PE X) es ts->Inv X pins σ H s->tJs ts acc σ H Q ->
  Joins (model X.prog X.w) X.A X.xe (evalEach es X.env) acc (fun out s₁=>out.length <= sizeLine /\ EP X pins σ Q (.str out s₁.toks) { s₁ with toks:=s₁.toks + 1 }) s
 | _,_,acc,s,H,.nil,I,h=>⟨by rw [sizeLine_eq]; exact h.1,.str acc,H,I.tok _,⟨_,rfl⟩,h.2⟩
 | _,_,acc,s,H,.cons r t,I,h=>thn (r pins s σ H _ I h) fun v s1 ⟨x,H1,I1,r1,q1⟩=>by
  obtain ⟨y,rfl,hz,q⟩:=q1
  obtain ⟨t',rfl⟩:=r1
  exact ⟨y,t',rfl,by rw [sizeLine_eq]; exact hz,joins_of _ _ _ _ _ t I1 q⟩
theorem pe_js {a b:Expr} {es:List Expr} {ts:List TE} {pos:Pos} (h:Paired (PE X) (a :: b :: es) ts):PE X (.JoinedStr (a :: b :: es) pos) (tJs ts Str.empty) :=
 fun _ _ _ _ _ I q=>wpAny_JoinedStr (joins_of _ _ _ _ _ h I q)
end
end L2
namespace L2
open PySem PySem.Spec PyProof.Rows
section
variable {prog:Program} {w:World} {A:Around} {E:Value->Shared->Prop} {h:Heap} {g:Array GenState} {d:Drawn} {t:Nat} {os:OsState} {a:Addr} {fs:Array Value}
end
section
variable {P:Program} {w:World} {A:Around} {E:Value->Shared->Prop} {s:Shared}
end
section
variable {P:Program} {w:World} {A:Around} {E:Value->Shared->Prop} {s:Shared}
end
section
variable {X:Cx} {e:Expr}
noncomputable def tTryS (i:Nat) (tx:St->Hp->VK->XK->Prop) (th:Value->TS):TS:=fun D σ H=>tx σ H (fun v H1=>D.nx (σ.set i (some v)) H1) (fun C _ H'=>th C D σ H')
theorem ps_tryS {hd:ExceptHandler} {hds:List ExceptHandler} {th:Value->TS} {p1 p2 pos:Pos} {tx:St->Hp->VK->XK->Prop} {i:Nat} {x:Str} (hst:X.stack = X.env :: X.outer) (hf:X.env.frame = some X.env.locals) (hN:X.N.Nodup) (hi:X.N[i]? = some x) (hl:Loc X.env.scope x)
  (hx:PEX X e tx) (hh:Hd X (hd :: hds) th) (hs:swapsWith e (some (.Name x p2)) p1.line X.env = pure false:=by rfl) (hfn:X.fn x = true \/ X.env.scope.names.lookup x = some .local:=by first | exact .inl rfl | exact .inr rfl) :
  PS X (.Try [.Assign [.Name x p2] e p1] (hd :: hds) [] [] pos) (tTryS i tx th):=by
 intro pins s σ H D I h
 refine wpAny_Try_except ?_
 refine wpAny_execs_cons (wpAny_Assign_Name (wpAny_mono (hx pins s σ H _ _ I h) (fun v s1 ⟨y,H1,I1,r1,q⟩=>?_) fun ex s2 ⟨s1,H1,I1,z⟩=>?_) hs)
 ·exact store_ok I1 hN hi hl r1 (fun s2 I2=>wpAny_execs_nil (wpAny_execs_nil ⟨_,H1,I2,q⟩)) hfn
 ·exact to_hands hst hf hh I1 z fun C _ H' q=>q
end
end L2
namespace L2
open PySem PySem.Spec PyProof.Rows
section
variable {X:Cx}
noncomputable def tFmtS (te:TE):TE:=fun σ H Q=>te σ H fun x H1=>∃ z:Str,x = .str z /\ z.length <= 16777216 /\ Q (.str z) H1
theorem pe_fmtS {e:Expr} {te:TE} {pos:Pos} (he:PE X e te):PE X (.FormattedValue e (-1) none pos) (tFmtS te):=by
 intro pins s σ H Q I h
 refine wpAny_FormattedValue_plain (thn (he pins s σ H _ I h) fun v s1 ⟨x,H1,I1,r1,q1⟩=>?_)
 obtain ⟨z,rfl,hz,q⟩:=q1
 obtain ⟨t,rfl⟩:=r1
 exact wpAny_formatField_str ⟨.str z,H1,I1,⟨_,rfl⟩,q⟩ ⟨.str z,H1,I1.tok _,⟨_,rfl⟩,q⟩ (by rw [sizeLine_eq]; exact hz)
end
end L2
namespace L2
open PySem PySem.Spec PyProof.Rows
section
variable {X:Cx} {K:PySem.W.Frag}
theorem vals_mem:∀ {xs:List V} {us:List Value},Vals xs us->∀ u ∈ us,∃ y,y ∈ xs /\ RelV y u
 | _,_,.nil=>fun u hu=>by cases hu
 | y :: xs,u :: us,.cons r t=>fun w hw=>by
  rcases List.mem_cons.mp hw with rfl | hw
  ·exact ⟨y,.head _,r⟩
  ·obtain ⟨y',h1,h2⟩:=vals_mem t w hw
   exact ⟨y',.tail _ h1,h2⟩
end
end L2
namespace L2
open PySem PySem.Spec PyProof.Rows
theorem scF {N P:List Str} {sc:Scope} (h1:sc.kind = .function:=by rfl) (h2:sc.isCoroutine = false:=by rfl) (h3:sc.isGenerator = false:=by rfl) (h4:N.Nodup:=by decide +kernel) (h5:N.take P.length = P:=by rfl) (h6:∀ x ∈ P,sc.names.lookup x = some .local \/ sc.names.lookup x = some .cell:=by decide +kernel) (h7:∀ y ∈ sc.names,y.2 ≠ .free:=by decide +kernel):FnScope N P sc:=⟨h1,h2,h3,h4,h5,h6,h7⟩
section
variable {X:Cx} {k j:Nat} {ps:List Str} {sp:Sp} {x:Str} {p pos:Pos} {e:Expr} {es:List Expr} {t:TA}
theorem pfn (F:FnAt X.prog X.w X.K X.mg X.base CX0 j x ps sp) (hr:Room k X.A) (ha:PA X (e :: es) t) (hg:Gl X x:=by rfl) (hj:j <= k:=by decide)
  (hdb:(x == ("__debug__":Str)) = false:=by decide) (he:starEach (e :: es) X.env = (false,eval e X.env) :: starEach es X.env:=by rfl) (hpl:(backTo pos (starEach es X.env)).any (·.1) = false:=by rfl) :
  PE X (.Call (.Name x p) (e :: es) [] pos) (tCall sp [] E0 t):=pe_fn F hr hg pass0 ha hj hdb he hpl
end
theorem pixT {X:Cx} {K:PySem.W.Frag} {a b:Expr} {ta tb:TE} {pos:Pos} (ha:PE X a ta) (hb:PE X b tb) (h:X.K = K:=by rfl) (hs:PlainIx b:=by exact fun _ _=>rfl):PE X (.Subscript a b pos) (tOp (rIxT K) ta tb):=pe_ix (ix_tup' h) ha hb hs
theorem pixL {X:Cx} {K:PySem.W.Frag} {a b:Expr} {ta tb:TE} {pos:Pos} (ha:PE X a ta) (hb:PE X b tb) (h:X.K = K:=by rfl) (hs:PlainIx b:=by exact fun _ _=>rfl):PE X (.Subscript a b pos) (tOp (rIxL K) ta tb):=pe_ix (ix_list' h) ha hb hs
end L2
namespace Tc
open PySem L2
end Tc
namespace L2
open PySem PySem.Spec PyProof.Rows
section
variable {X:Cx}
noncomputable def rIndexF:V->List V->Hp->VK->Prop:=fun x vs H Q=>∃ (l:Addr) (xs:List V) (z:V) (j:Nat),x = .ref l /\ vs = [z] /\ H l = some (.lst xs) /\ flatV z = true /\ xs.all flatV = true /\ (∃ y,xs[j]? = some y /\ eqV y z = true) /\ (∀ m,m < j->∀ y,xs[m]? = some y->eqV y z = false) /\ Q (.int (j:Nat)) H
theorem mt_indexF:MtR X "list.index" rIndexF:=by
 intro pins s σ H x vs v us Q I rx rv h
 obtain ⟨l,xs,z,j,rfl,rfl,hH,fz,fl,⟨y,hj,ej⟩,hno,q⟩:=h
 cases rx
 obtain ⟨u,rfl,ru⟩:=rv.one
 obtain ⟨zz,its,n,r,hl,e⟩:=I.lstM hH
 have hsz:sizeLine = 16777216:=sizeLine_eq
 have hlen:xs.length = its.length:=hl
 have hjl:j < its.length:=by rw [<- hlen]; exact (List.getElem?_eq_some_iff.mp hj).1
 have ats:∀ m (hm:m < its.length),∃ y,xs[m]? = some y /\ eqU z its[m] = eqV y z:=by
  intro m hm
  have hm2:m < xs.length:=by lia
  have e1:xs[m]? = some xs[m]:=List.getElem?_eq_getElem hm2
  obtain ⟨w,hw,rw0⟩:=r.get e1
  have e2:its[m] = w:=by
   rw [List.getElem?_eq_getElem hm] at hw
   exact Option.some.inj hw
  refine ⟨_,e1,?_⟩
  rw [e2,eqU_of rw0 (List.all_eq_true.mp fl _ (List.getElem_mem hm2))]
 refine call_meets F.slot_list_index ⟨_,e,rfl⟩ F.entry_list_index (F.args_list_index_2 _ _) (SeqAt.list_indexAt l its.toArray n none #[] u (eqU z) j (by simpa using hjl) (by lia) ?_ ?_) ⟨e,fun y hy=>mem_eqAt ru fz r fl y (by simpa using hy),?_⟩
 ·obtain ⟨y',h1,h2⟩:=ats j hjl
  rw [hj] at h1
  cases h1
  rw [ej] at h2
  simpa using h2
 ·intro m hm hmj
  have hm':m < its.length:=by simpa using hm
  obtain ⟨y',h1,h2⟩:=ats m hm'
  rw [hno m hmj y' h1] at h2
  simpa using h2
 ·exact ⟨.int (j:Nat),H,I.kept (t':=s.toks + 1) fun b ob e=>e,⟨_,rfl⟩,q⟩
end
end L2
namespace L2
open PySem
noncomputable def fld2 (o:Obj):Option Value:=match o.data with
 | .fields vs=>vs[2]?
 | _=>none
noncomputable def DK (h h':Heap):Prop:=∀ a o,h.get? a = some o->∃ o',h'.get? a = some o' /\ o'.dict = o.dict /\ o'.cls = o.cls /\ fld2 o' = fld2 o
theorem DK.refl (h:Heap):DK h h:=fun _ o e=>⟨o,e,rfl,rfl,rfl⟩
theorem DK.trans {h h' h'':Heap} (x:DK h h') (y:DK h' h''):DK h h'':=fun a o e=>by
 obtain ⟨o1,e1,d1,c1,f1⟩:=x a o e
 obtain ⟨o2,e2,d2,c2,f2⟩:=y a o1 e1
 exact ⟨o2,e2,d2.trans d1,c2.trans c1,f2.trans f1⟩
inductive Sf {α:Type}:Sem α->Prop
 | pure (a:α):Sf (.pure a)
 | raise (e:Value):Sf (.raise e)
 | unsupported (w:String):Sf (.unsupported w)
 | rule {t:String} {k:Unit->Sem α} (h:∀ x,Sf (k x)):Sf (.rule t k)
 | load {a:Addr} {p:Option Value} {k:Obj->Sem α} (h:∀ x,Sf (k x)):Sf (.load a p k)
 | update {a:Addr} {p:Option Value} {f:Obj->Obj} {k:Unit->Sem α} (hf:∀ o,(f o).dict = o.dict /\ (f o).cls = o.cls /\ (f o).isFreed = o.isFreed /\ fld2 (f o) = fld2 o) (h:∀ x,Sf (k x)):Sf (.update a p f k)
 | alloc {o:Obj} {k:Addr->Sem α} (h:∀ x,Sf (k x)):Sf (.alloc o k)
 | stack {k:List (Code × Pos)->Sem α} (h:∀ x,Sf (k x)):Sf (.stack k)
 | ask {k:Setting->Sem α} (h:∀ x,Sf (k x)):Sf (.ask k)
theorem Sf.bind {α β:Type} {m:Sem α} {f:α->Sem β} (h:Sf m) (g:∀ a,Sf (f a)):Sf (m >>= f):=by
 show Sf (Sem.bind m f)
 induction h with
 | pure a=>exact g a
 | raise e=>exact .raise e
 | unsupported w=>exact .unsupported w
 | rule h ih=>exact .rule ih
 | load h ih=>exact .load ih
 | update hf h ih=>exact .update hf ih
 | alloc h ih=>exact .alloc ih
 | stack h ih=>exact .stack ih
 | ask h ih=>exact .ask ih
theorem DK.update {h:Heap} {a:Addr} {f:Obj->Obj} (hf:∀ o,(f o).dict = o.dict /\ (f o).cls = o.cls /\ (f o).isFreed = o.isFreed /\ fld2 (f o) = fld2 o):DK h (h.update a f):=fun b o e=>by
 by_cases q:a = b
 ·subst q
  have nf:o.isFreed = false:=(Heap.get?_some_iff.mp e).2
  exact ⟨f o,Heap.get?_update_self f e ((hf o).2.2.1.trans nf),(hf o).1,(hf o).2.1,(hf o).2.2.2⟩
 ·exact ⟨o,(Heap.get?_update_other h f q).trans e,rfl,rfl,rfl⟩
theorem DK.push {h:Heap} (o:Obj):DK h (h.push o):=fun _ u e=>⟨u,Heap.get?_push_of_some o e,rfl,rfl,rfl⟩
theorem Sf.keep {α:Type} {M:Model} {Γ:Ctx} {t:Sem α} (h:Sf t):∀ {Q:α->Pos->Shared->Prop} {E:Value->Pos->Shared->Prop} {p:Pos} {s:Shared},Sem.wp M Γ t Q E p s->Sem.wp M Γ t (fun a p' s'=>Q a p' s' /\ DK s.heap s'.heap) (fun e p' s'=>E e p' s' /\ DK s.heap s'.heap) p s:=by
 induction h with
 | pure a=>intro Q E p s w; rw [Sem.wp] at w ⊢; exact ⟨w,DK.refl _⟩
 | raise e=>intro Q E p s w; rw [Sem.wp] at w ⊢; exact ⟨w,DK.refl _⟩
 | unsupported w0=>intro Q E p s w; rw [Sem.wp] at w; exact w.elim
 | rule h ih=>intro Q E p s w; rw [Sem.wp] at w ⊢; exact ih () w
 | load h ih =>
  intro Q E p s w
  rw [Sem.wp] at w ⊢
  obtain ⟨o,ho,w⟩:=w
  exact ⟨o,ho,ih o w⟩
 | update hf h ih =>
  intro Q E p s w
  rw [Sem.wp] at w ⊢
  refine ⟨w.1,Sem.wp_mono M Γ _ (fun a p' s' x=>⟨x.1,(DK.update hf).trans x.2⟩) (fun e p' s' x=>⟨x.1,(DK.update hf).trans x.2⟩) _ _ (ih () w.2)⟩
 | alloc h ih =>
  intro Q E p s w
  rw [Sem.wp] at w ⊢
  exact Sem.wp_mono M Γ _ (fun a p' s' x=>⟨x.1,(DK.push _).trans x.2⟩) (fun e p' s' x=>⟨x.1,(DK.push _).trans x.2⟩) _ _ (ih _ w)
 | stack h ih=>intro Q E p s w; rw [Sem.wp] at w ⊢; exact ih _ w
 | ask h ih=>intro Q E p s w; rw [Sem.wp] at w ⊢; exact ih _ w
theorem Sf.keepAny {α:Type} {M:Model} {A:Around} {t:Sem α} {Q:α->Shared->Prop} {E:Value->Shared->Prop} {s:Shared} (h:Sf t) (w:wpAny M A t Q E s):wpAny M A t (fun a s'=>Q a s' /\ DK s.heap s'.heap) (fun e s'=>E e s' /\ DK s.heap s'.heap) s :=
 fun Γ p hΓ=>h.keep (w Γ p hΓ)
theorem Sf.ofLoad (a:Addr):Sf (PySem.load a):=.load fun x=>.pure x
theorem Sf.ofStack:Sf PySem.stack:=.stack fun x=>.pure x
theorem mapF_ok {i:Nat} (hi:i ≠ 2) (x:Value) (o:Obj):(Obj.mapFields (·.setIfInBounds i x) o).dict = o.dict /\ (Obj.mapFields (·.setIfInBounds i x) o).cls = o.cls /\ (Obj.mapFields (·.setIfInBounds i x) o).isFreed = o.isFreed /\ fld2 (Obj.mapFields (·.setIfInBounds i x) o) = fld2 o:=by
 obtain ⟨c,d,dt,sl⟩:=o
 cases dt <;> first | exact ⟨rfl,rfl,rfl,Array.getElem?_setIfInBounds_ne hi⟩ | exact ⟨rfl,rfl,rfl,rfl⟩
theorem Sf.ofField (v:Value) (i:Nat):Sf (field v i):=by
 unfold field fieldsOf
 refine Sf.bind ?_ fun x=>?_
 ·cases v with
  | ref a =>
   refine Sf.bind (Sf.ofLoad a) fun o=>?_
   split
   ·exact .pure _
   ·exact .unsupported _
  | _=>exact .unsupported _
 ·split
  ·exact .pure _
  ·exact .unsupported _
theorem Sf.ofSetField (v:Value) (i:Nat) (x:Value) (hi:i ≠ 2:=by decide):Sf (setField v i x):=by
 unfold setField
 cases v with
 | ref a =>
  show Sf (updateField a i x)
  unfold updateField
  refine Sf.bind (Sf.ofLoad a) fun o=>?_
  split
  ·split
   ·exact .update (mapF_ok hi _) fun u=>.pure u
   ·exact .unsupported _
  ·exact .unsupported _
 | _=>exact .unsupported _
theorem Sf.ofSetFlight (e:Value) (f:Option Addr):Sf (setFlight e f):=by
 unfold setFlight
 refine Sf.bind (Sf.ofField e 1) fun tb=>?_
 split
 ·exact Sf.ofSetField _ _ _
 ·exact .pure _
theorem Sf.ofReady:∀ l:List Env,Sf (readyFrames l)
 | []=>by unfold readyFrames; exact .pure _
 | env :: outer=>by
  unfold readyFrames
  split
  ·refine Sf.bind (Sf.ofLoad _) fun o=>?_
   split
   ·exact .pure _
   ·refine Sf.bind ?_ fun b=>Sf.bind ?_ fun k=>?_
    ·unfold behindIsImport
     split
     ·exact .pure _
     ·split
      ·exact .pure _
      ·exact Sf.bind (Sf.ofField _ _) fun x=>.pure _
    ·unfold keptBack
     split
     ·split
      ·exact .pure _
      ·exact Sf.bind (Sf.bind Sf.ofStack fun x=>.pure _) fun x=>.pure _
     ·exact .pure _
    ·exact Sf.bind (.update (fun o=>⟨rfl,rfl,by obtain ⟨c,d,dt,sl⟩:=o; cases dt <;> rfl,by obtain ⟨c,d,dt,sl⟩:=o; cases dt <;> rfl⟩) fun u=>.pure u) fun _=>Sf.ofReady outer
  ·exact .unsupported _
theorem Sf.ofFrameOf (env:Env):Sf (frameOf env):=by
 unfold frameOf frameEnvs
 refine Sf.bind (Sf.bind Sf.ofStack fun x=>.pure _) fun es=>Sf.bind ?_ fun r=>?_
 ·generalize List.dropWhile _ es = l
  cases l with
  | nil=>unfold frameObject; exact .pure _
  | cons e o=>unfold frameObject; exact Sf.bind (Sf.ofReady _) fun _=>.pure _
 ·split
  ·exact .pure _
  ·exact .unsupported _
theorem Sf.ofPlace (f:Addr) (b:Bool):Sf (entryPlaceOf f b):=by
 unfold entryPlaceOf
 refine Sf.bind Sf.ofStack fun x=>?_
 split
 ·exact .pure _
 ·exact .pure _
theorem Sf.ofEntry (a b c d e:Value) (l:List Value):Sf (EntryCells.newEntry a b c d e l):=by
 unfold EntryCells.newEntry newFields newObj
 have jp:∀ D,Sf (newObjAsIs (.type "traceback") D):=fun D=>by
  unfold newObjAsIs
  exact Sf.bind (.alloc fun x=>.pure x) fun a=>.pure _
 dsimp only
 generalize ([a,b,c,d,e] ++ if l.isEmpty = true then List.replicate 6 Value.none else l).toArray = vs
 split
 ·exact Sf.bind (.unsupported _) fun _=>jp _
 ·exact jp _
theorem Sf.ofNote (e:Value) (env:Env):Sf (noteFrame e env):=by
 unfold noteFrame
 cases hf:env.frame with
 | none=>exact .unsupported _
 | some f =>
  dsimp only
  refine Sf.bind (Sf.ofField _ _) fun hd=>?_
  have rest:∀ b,Sf (do let fr <- frameOf env; let pl <- entryPlaceOf f b; let en <- EntryCells.newEntry hd fr .none (rawInt f) .none pl; setField e 1 en):=fun b =>
   Sf.bind (Sf.ofFrameOf _) fun fr=>Sf.bind (Sf.ofPlace _ _) fun pl=>Sf.bind (Sf.ofEntry _ _ _ _ _ _) fun en=>Sf.ofSetField _ _ _
  split
  ·refine Sf.bind (Sf.ofField _ _) fun x=>?_
   split
   ·exact .pure _
   ·exact Sf.bind (Sf.ofSetField _ _ _) fun _=>rest _
  ·exact rest _
theorem Sf.ofLeaving (env:Env) (e:Value):Sf (leaving env e):=Sf.bind (Sf.ofNote e env) fun _=>Sf.ofSetFlight e none
end L2
namespace L2
open PySem PySem.Spec PyProof.Rows
noncomputable def DictIs (h:Heap) (a:Addr) (dx:Option Addr):Prop:=∃ oe,h.get? a = some oe /\ oe.dict = dx /\ fld2 oe = some .none
theorem DictIs.keep {h h':Heap} {a:Addr} {dx:Option Addr} (x:DictIs h a dx) (k:DK h h'):DictIs h' a dx:=by
 obtain ⟨oe,e,d,f⟩:=x
 obtain ⟨o',e',d',_,f'⟩:=k a oe e
 exact ⟨o',e',d'.trans d,f'.trans f⟩
noncomputable def CXD (P:Program) (w:World):CXT:=fun outer H s E e s'=>∃ (a:Addr) (C:Value) (H':Hp) (B:Heap) (a0:Value) (dx:Option Addr),
 e = .ref a /\ s'.os = s.os /\ AllBare s'.gens /\ Kp P w outer H s.heap H' s'.heap B /\ Heap.FlyingW B outer a C a0 s'.heap /\ DictIs s'.heap a dx /\ E C dx H'
section
variable {P:Program} {w:World} {K:PySem.W.Frag} {mg:Str->Option Value} {base:Heap} {N:List Str} {qual:Str} {scope:Scope} {f:Addr} {cd:Value} {A:Around} {outer:List Env} {s:Shared} {H:Hp} {E:XK}
theorem raisesD:Raises (cxOf (CXD P w) P w K mg base N qual scope f cd A outer s H E) E:=by
 intro C pins σ H1 s1 h2 a vs I hx q
 have hl:=PySem.W.funFrames_hide (as:=frs (cxOf (CXD P w) P w K mg base N qual scope f cd A outer s H E).stack) I.stack fun env he b hb=>List.mem_filterMap.mpr ⟨env,he,hb⟩
 obtain ⟨t0,he0,_,_⟩:=hx.there
 have dk0:DictIs h2 a none:=⟨_,he0,rfl,rfl⟩
 refine wpAny_mono ((Sf.ofLeaving _ _).keepAny (wpAny_leaves_madeW (Q:=fun _ s'=>∃ h3 t,s' = { s1 with heap:=h3 } /\ Heap.FlyingW _ _ a C (.ref t) h3 /\ h2.UpToSlots h3) (E:=fun _ _=>False) I.ok.frames rfl (fun b o q=>PySem.W.of_hideAll _ q) hl hx fun h3 t fl _ _ sl=>⟨h3,t,rfl,fl,sl⟩)) (fun _ s' z=>?_) fun _ _ z=>z.1.elim
 obtain ⟨⟨h3,t,rfl,fl,sl⟩,dk⟩:=z
 exact ⟨a,C,H1,_,.ref t,none,rfl,I.os,I.bare,(Kp.raise I hx).leave I rfl rfl rfl fl.1 sl,fl,dk0.keep dk,q⟩
theorem passD:Passes (CXD P w) (cxOf (CXD P w) P w K mg base N qual scope f cd A outer s H E) E:=by
 intro pins σ H1 s1 e s2 I hq
 obtain ⟨a,C,H2,B,a0,dx,rfl,os,bare,Kq,fl,di,q⟩:=hq
 refine wpAny_mono ((Sf.ofLeaving _ _).keepAny (wpAny_leaves_onW (Q:=fun _ s'=>∃ h3,s' = { s2 with heap:=h3 } /\ Heap.FlyingW _ _ a C a0 h3 /\ s2.heap.UpToSlots h3) (E:=fun _ _=>False) I.ok.frames rfl fl fun h3 fl3 sl=>⟨h3,rfl,fl3,sl⟩)) (fun _ s' z=>?_) fun _ _ z=>z.1.elim
 obtain ⟨⟨h3,rfl,fl3,sl⟩,dk⟩:=z
 exact ⟨a,C,H2,B,a0,dx,rfl,os.trans I.os,bare,Kq.leave I rfl rfl rfl fl3.1 sl,fl3,di.keep dk,q⟩
theorem DefAt.okD {x:Str} {st:Stmt} {N ps:List Str} {k:Nat} {sp:Sp} (D:DefAt K mg x st) (S:FnScope N ps (defScope st)) (len:∀ vs H Q E,sp vs H Q E->vs.length = ps.length)
  (hb:∀ (kV doc pm:Value) (an:Option Addr) (cdv ct:Value) (us:List Value),us.length = ps.length->bindArgs (PySem.W.fnOf x x (defArgs st) (defBody st) (defScope st) .none kV doc pm an cdv ct) ⟨us,[]⟩ = pure (ps.zip us))
  (hbody:∀ (f:Addr) (cdv:Value) (A:Around) (outer:List Env) (s:Shared) (H:Hp) (vs:List V) (Q:VK) (E:XK),Room k (A.deeper (envOfC x (defScope st) s.heap.objs.size f cdv))->sp vs H Q E ->
   ∃ t,PSs (cxOf (CXD P w) P w K mg base N x (defScope st) f cdv A outer s H E) (defBody st) t /\ t { nx:=fun _ H'=>Q .non H',rt:=Q } (start N vs) H):FnAt P w K mg base (CXD P w) (k + 1) x ps sp:=by
 obtain ⟨f,fd,F,m⟩:=D.ex
 have hF:=F
 obtain ⟨oc,od,kV,doc,pm,an,cdv,ct,osl,rfl,lk,hcd⟩:=F.ex
 exact ⟨f,_,fn_of lk hcd S len fun A outer s H vs Q E hr hsp=>hbody f cdv A outer s H vs Q E hr hsp,m,hF.kp,hF.binds hb⟩
end
noncomputable def HdD (X:Cx) (hds:List ExceptHandler) (th:Value->Option Addr->TS):Prop :=
 ∀ (pins:List (Addr × Obj)) (σ:St) (H1 H2:Hp) (s1 s2:Shared) (D:Ends) (a:Addr) (C:Value) (B:Heap) (a0:Value) (dx:Option Addr),Inv X pins σ H1 s1->s2.os = s1.os->AllBare s2.gens->Kp X.prog X.w X.stack H1 s1.heap H2 s2.heap B ->
  Heap.FlyingW B X.stack a C a0 s2.heap->DictIs s2.heap a dx->th C dx D σ H2->wpAny (model X.prog X.w) X.A (handleBy (.ref a) X.env hds) (SP X pins D) X.xe s2
theorem hdD_none {X:Cx}:HdD X [] (fun _ _=>tNever):=fun _ _ _ _ _ _ _ _ _ _ _ _ _ _ _ _ _ _ h=>h.elim
noncomputable def PEXD (X:Cx) (e:Expr) (t:St->Hp->VK->XK->Prop):Prop :=
 ∀ (pins:List (Addr × Obj)) (s:Shared) (σ:St) (H:Hp) (Q:VK) (E:XK),Inv X pins σ H s->t σ H Q E ->
  wpAny (model X.prog X.w) X.A (eval e X.env) (EP X pins σ Q) (fun x s'=>∃ s1 H1,Inv X pins σ H1 s1 /\ CXD X.prog X.w X.stack H1 s1 E x s') s
section
variable {X:Cx} {k j:Nat} {ps:List Str} {sp:Sp} {x:Str} {p pos:Pos} {e:Expr} {es:List Expr} {t:TA}
theorem pexD_fn (F:FnAt X.prog X.w X.K X.mg X.base (CXD X.prog X.w) j x ps sp) (hr:Room k X.A) (hg:Gl X x) (ha:PA X.nox (e :: es) t) (hj:j <= k:=by decide)
  (hdb:(x == ("__debug__":Str)) = false:=by decide) (he:starEach (e :: es) X.env = (false,eval e X.env) :: starEach es X.env:=by rfl) (hpl:(backTo pos (starEach es X.env)).any (·.1) = false:=by rfl) :
  PEXD X (.Call (.Name x p) (e :: es) [] pos) (fun σ H Q E=>t σ H fun vs H1=>sp vs H1 Q E):=by
 intro pins s σ H Q E I h
 obtain ⟨f,fd,G,m,kp,b⟩:=F.ex
 refine wpAny_Call_Name_kw (ld_glob I hg m ?_ hdb)
 refine PySem.W.callWith_K (h₀:=X.base) I.ok.mod.kin kp (wpAny_mono (ha pos pins s σ H _ (I.wish _) h) (fun us s1 ⟨vs,H1,I1',r,q⟩=>⟨I1'.unwish.kIn,?_⟩) fun _ _ z=>z.elim) he hpl
 have I1:=I1'.unwish
 have hl:us.length = ps.length:=by rw [<- r.length]; exact G.len _ _ _ _ q
 have hb:=b s1 us I1.kIn (by rw [List.append_nil]; exact hl)
 rw [List.append_nil] at hb
 refine wpAny_call (codeAny_mono (G.run X.A X.stack s1 H1 ⟨us,[]⟩ us vs Q E (hr.mono hj) I1.env0 hb r q) fun r s' hq=>?_)
 cases r with
 | error x=>exact ⟨s1,H1,I1,hq⟩
 | ok fl =>
  cases fl with
  | ret u=>exact I1.after hq
  | next=>exact False.elim hq
  | brk=>exact False.elim hq
  | cont=>exact False.elim hq
theorem to_handsD {hd:ExceptHandler} {hds:List ExceptHandler} {th:Value->Option Addr->TS} {pins:List (Addr × Obj)} {σ:St} {H1:Hp} {s1 s2:Shared} {D:Ends} {E:XK} {ex:Value} (hst:X.stack = X.env :: X.outer) (hf:X.env.frame = some X.env.locals)
  (hh:HdD X (hd :: hds) th) (I1:Inv X pins σ H1 s1) (hx:CXD X.prog X.w X.stack H1 s1 E ex s2) (hE:∀ C dx H',E C dx H'->th C dx D σ H') :
  wpAny (model X.prog X.w) X.A (noteFrame ex X.env) (fun _ s₂=>wpAny (model X.prog X.w) X.A (setFlight ex none) (fun _ s₃=>wpAny (model X.prog X.w) X.A (handleBy ex X.env (hd :: hds)) (SP X pins D) X.xe s₃) X.xe s₂) X.xe s2:=by
 obtain ⟨a,C,H2,B,a0,dx,rfl,os,bare,K,fl,di,q⟩:=hx
 rw [hst] at fl
 refine wpAny_mono ((Sf.ofNote _ _).keepAny (wpAny_looks_onW (Q:=fun _ s'=>∃ h3,s' = { s2 with heap:=h3 } /\ Heap.HeldW _ _ a C a0 _ h3 /\ s2.heap.UpToSlots h3) (E:=fun _ _=>False) (by rw [I1.ok.frames,hst]) hf fl fun h3 held sl=>⟨h3,rfl,held,sl⟩)) (fun _ s' z=>?_) fun _ _ z=>z.1.elim
 obtain ⟨⟨h3,rfl,held,sl3⟩,dk3⟩:=z
 refine wpAny_mono ((Sf.ofSetFlight _ _).keepAny (wpAny_landsW (Q:=fun _ s'=>∃ h4,s' = { s2 with heap:=h4 } /\ Heap.FlyingW _ _ a C a0 h4 /\ h3.UpToSlots h4) (E:=fun _ _=>False) held fun h4 fl4 sl4=>⟨h4,rfl,fl4,sl4⟩)) (fun _ s' z=>?_) fun _ _ z=>z.1.elim
 obtain ⟨⟨h4,rfl,fl4,sl4⟩,dk4⟩:=z
 have K3:=K.slots I1 held.1 sl3
 have K4:=K3.slots I1 fl4.1 sl4
 rw [<- hst] at fl4
 exact hh pins σ H1 H2 s1 { s2 with heap:=h4 } D a C B a0 dx I1 os bare K4 fl4 ((di.keep dk3).keep dk4) (hE _ _ _ q)
noncomputable def tTryD (tx:St->Hp->VK->XK->Prop) (th:Value->Option Addr->TS):TS:=fun D σ H=>tx σ H (fun _ H1=>D.nx σ H1) (fun C dx H'=>th C dx D σ H')
theorem ps_tryD {hd:ExceptHandler} {hds:List ExceptHandler} {th:Value->Option Addr->TS} {p1 pos:Pos} {tx:St->Hp->VK->XK->Prop} (hst:X.stack = X.env :: X.outer) (hf:X.env.frame = some X.env.locals) (hx:PEXD X e tx) (hh:HdD X (hd :: hds) th)
  (hs:swapsWith e none p1.line X.env = pure false:=by rfl):PS X (.Try [.Expr e p1] (hd :: hds) [] [] pos) (tTryD tx th):=by
 intro pins s σ H D I h
 refine wpAny_Try_except ?_
 refine wpAny_execs_cons (wpAny_Expr_any (wpAny_mono (hx pins s σ H _ _ I h) (fun v s1 ⟨y,H1,I1,_,q⟩=>?_) fun ex s2 ⟨s1,H1,I1,z⟩=>?_) I.quiet hs)
 ·exact wpAny_execs_nil (wpAny_execs_nil ⟨σ,H1,I1,q⟩)
 ·exact to_handsD hst hf hh I1 z fun C dx H' q=>q
end
section
variable {X:Cx} {x n:Str} {C':Addr} {i:Nat} {np pos:Pos} {b₀:Stmt} {suite:List Stmt} {rest:List ExceptHandler} {ts:TS} {tr:Value->Option Addr->TS}
end
end L2
namespace L2
open PySem PySem.Spec PyProof.Rows
structure RoomH (k:Nat) (A:Around):Prop where
 dp:A.depth + 3 * k + 5 < recursionLimit
 un:A.units + 16 * k + 200 < cLine
theorem Room.h {k:Nat} {A:Around} (r:Room k A):RoomH k A:=⟨r.dp,r.un⟩
theorem RoomH.mark {k:Nat} {A:Around} (r:RoomH k A) (v:Option Value):RoomH k (A.mark v):=⟨r.dp,r.un⟩
theorem RoomH.mono {j k:Nat} {A:Around} (r:RoomH k A) (h:j <= k):RoomH j A:=⟨by have:=r.dp; lia,by have:=r.un; lia⟩
theorem RoomH.deeper {k:Nat} {A:Around} (r:RoomH (k + 1) A) (env:Env):RoomH k (A.deeper env) :=
 ⟨by have:=r.dp; show A.depth + 1 + 3 * k + 5 < _; lia,by have:=r.un; show A.units + 3 + 16 * k + 200 < _; lia⟩
theorem RoomH.depth {k:Nat} {A:Around} (r:RoomH k A):A.depth < recursionLimit:=by have:=r.dp; lia
noncomputable abbrev Cx.less (X:Cx):Cx:={ X with calm:=false,xe:=fun _ _=>False }
structure FnOkH (P:Program) (w:World) (K:PySem.W.Frag) (mg:Str->Option Value) (base:Heap) (k:Nat) (f:Addr) (fd:FuncData) (ps:List Str) (sp:Sp):Prop where
 len:∀ vs H Q E,sp vs H Q E->vs.length = ps.length
 run:∀ (A:Around) (outer:List Env) (s:Shared) (H:Hp) (args:Args) (us:List Value) (vs:List V) (Q:VK),RoomH k A->Env0 P w K mg base A outer s H->BindsTo s fd args (ps.zip us)->Vals vs us->sp vs H Q E0 ->
  codeAny (model P w) A (.call (.ref f) args) (CR CX0 outer P w H s Q E0) s
theorem fn_ofH {P:Program} {w:World} {K:PySem.W.Frag} {mg:Str->Option Value} {base:Heap} {k:Nat} {f:Addr} {name qual:Str} {params:Arguments} {body:List Stmt} {scope:Scope} {dV kV doc pm cdv ct oc:Value} {an od:Option Addr}
  {osl:Array (Option Value)} {N ps:List Str} {sp:Sp} (lk:K.lookup f = some ⟨oc,od,.func (PySem.W.fnOf name qual params body scope dV kV doc pm an cdv ct),osl⟩) (hcd:PySem.W.codeIn K cdv qual = true) (S:FnScope N ps scope)
  (len:∀ vs H Q E,sp vs H Q E->vs.length = ps.length)
  (hbody:∀ (A:Around) (outer:List Env) (s:Shared) (H:Hp) (vs:List V) (Q:VK),RoomH k (A.deeper (envOfC qual scope s.heap.objs.size f cdv))->sp vs H Q E0 ->
   ∃ t,PSs (cxOf CX0 P w K mg base N qual scope f cdv A outer s H E0).less body t /\ t { nx:=fun _ H'=>Q .non H',rt:=Q } (start N vs) H) :
  FnOkH P w K mg base (k + 1) f (PySem.W.fnOf name qual params body scope dV kV doc pm an cdv ct) ps sp:=by
 refine ⟨len,fun A outer s H args us vs Q hr e0 hb r hsp=>?_⟩
 have hl:=len _ _ _ _ hsp
 have KX:K.In s.heap:=e0.mod.kin.keeps fun b o e=>(e0.bs b o e).1
 have lim:s.heap.NoLimit:=e0.mod.nolimit.keeps fun b o e=>(e0.bs b o e).1
 have hkind:∀ y ∈ ps.zip us,scope.names.lookup y.1 = some .local \/ (scope.names.lookup y.1 = some .cell /\ ((cellsFrom (s.heap.objs.size + 1) scope.names []).lookup y.1).isSome = true):=fun ⟨n,v⟩ hy=>by
  rcases S.par n (List.of_mem_zip hy).1 with q | q
  ·exact .inl q
  ·exact .inr ⟨q,PySem.W.cellsFrom_some _ _ _ (.inl q)⟩
 refine codeAny_call_function hr.depth (KX _ _ lk) rfl S.co S.gen rfl (PySem.W.codeRec_of KX hcd) (hb _ _ _ _ ?_)
 refine wpAny_newFunctionEnv_cells S.kind hkind fun env he s1 x=>?_
 subst he
 refine ⟨lim.keeps x.toInCall.keep,codeAny_func ?_⟩
 obtain ⟨t,ht,hq⟩:=hbody A outer s H vs Q (hr.deeper _) hsp
 have e0':Env0 P w K mg base { A with handled:=none } outer s H:=⟨e0.frames,e0.mod,e0.bs,e0.bsz,e0.funs,e0.frf,e0.hok,e0.bare⟩
 have J:Inv (cxOf CX0 P w K mg base N qual scope f cdv { A with handled:=none } outer s H E0) [] (start N vs) H s1:=inv_start S rfl e0' hl r x
 have I:Inv (cxOf CX0 P w K mg base N qual scope f cdv A outer s H E0).less [] (start N vs) H s1 :=
  ⟨⟨J.ok.mod,J.ok.kind,J.ok.glob,J.ok.blt,J.ok.above,J.ok.inj,J.ok.has,J.ok.cab,fun z=>(Bool.false_ne_true z).elim,Around.frames_deeper e0.frames,J.ok.stk,J.ok.exf,J.ok.bs,J.ok.bsz,J.ok.noex,J.ok.exfs,J.ok.funs,J.ok.frf⟩,
   J.os,J.bare,J.base,J.loc,J.cell,J.free,J.freeC,J.pin,J.hok,J.len⟩
 refine wpAny_mono (ht [] s1 (start N vs) H _ I hq) (fun fl s' hs=>?_) fun e s' hs=>hs.elim
 have fin:∀ {σ':St} {H':Hp} {v:V} {u:Value},Inv (cxOf CX0 P w K mg base N qual scope f cdv A outer s H E0).less [] σ' H' s'->RelV v u->Q v H'->CE outer P w H s Q u s' :=
  fun {σ' H' v u} J rv q=>⟨v,H',J.os,J.bare,J.base,J.hok,rv,q⟩
 cases fl with
 | ret u =>
  obtain ⟨v,σ',H',J,rv,q⟩:=hs
  exact fin J rv q
 | next =>
  obtain ⟨σ',H',J,q⟩:=hs
  exact fin (v:=V.non) (u:=Value.none) J rfl q
 | brk =>
  obtain ⟨_,_,_,q⟩:=hs
  exact False.elim q
 | cont =>
  obtain ⟨_,_,_,q⟩:=hs
  exact False.elim q
structure FnAtH (P:Program) (w:World) (K:PySem.W.Frag) (mg:Str->Option Value) (base:Heap) (k:Nat) (x:Str) (ps:List Str) (sp:Sp):Prop where
 ex:∃ (f:Addr) (fd:FuncData),FnOkH P w K mg base k f fd ps sp /\ mg x = some (.ref f) /\ PySem.W.keepIn K (.ref f) = true /\ Binds K fd ps []
section
variable {P:Program} {w:World} {K:PySem.W.Frag} {mg:Str->Option Value} {base:Heap}
theorem DefAt.okH {x:Str} {st:Stmt} {N ps:List Str} {k:Nat} {sp:Sp} (D:DefAt K mg x st) (S:FnScope N ps (defScope st)) (len:∀ vs H Q E,sp vs H Q E->vs.length = ps.length)
  (hb:∀ (kV doc pm:Value) (an:Option Addr) (cdv ct:Value) (us:List Value),us.length = ps.length->bindArgs (PySem.W.fnOf x x (defArgs st) (defBody st) (defScope st) .none kV doc pm an cdv ct) ⟨us,[]⟩ = pure (ps.zip us))
  (hbody:∀ (f:Addr) (cdv:Value) (A:Around) (outer:List Env) (s:Shared) (H:Hp) (vs:List V) (Q:VK) (E:XK),RoomH k (A.deeper (envOfC x (defScope st) s.heap.objs.size f cdv))->sp vs H Q E0 ->
   ∃ t,PSs (cxOf CX0 P w K mg base N x (defScope st) f cdv A outer s H E0).less (defBody st) t /\ t { nx:=fun _ H'=>Q .non H',rt:=Q } (start N vs) H):FnAtH P w K mg base (k + 1) x ps sp:=by
 obtain ⟨f,fd,F,m⟩:=D.ex
 have hF:=F
 obtain ⟨oc,od,kV,doc,pm,an,cdv,ct,osl,rfl,lk,hcd⟩:=F.ex
 exact ⟨f,_,fn_ofH lk hcd S len fun A outer s H vs Q hr hsp=>hbody f cdv A outer s H vs Q E0 hr hsp,m,hF.kp,hF.binds hb⟩
end
section
variable {X:Cx} {k j:Nat} {ps:List Str} {sp:Sp} {x:Str} {p pos:Pos} {e:Expr} {es:List Expr} {t:TA}
theorem pfnH (F:FnAtH X.prog X.w X.K X.mg X.base j x ps sp) (hr:RoomH k X.A) (ha:PA X (e :: es) t) (hg:Gl X x:=by rfl) (hj:j <= k:=by decide)
  (hdb:(x == ("__debug__":Str)) = false:=by decide) (he:starEach (e :: es) X.env = (false,eval e X.env) :: starEach es X.env:=by rfl) (hpl:(backTo pos (starEach es X.env)).any (·.1) = false:=by rfl) :
  PE X (.Call (.Name x p) (e :: es) [] pos) (tCall sp [] E0 t):=by
 intro pins s σ H Q I h
 obtain ⟨f,fd,G,m,kp,b⟩:=F.ex
 refine wpAny_Call_Name_kw (ld_glob I hg m ?_ hdb)
 refine PySem.W.callWith_K (h₀:=X.base) I.ok.mod.kin kp (thn (ha pos pins s σ H _ I h) fun us s1 ⟨vs,H1,I1,r,q⟩=>⟨I1.kIn,?_⟩) he hpl
 have q:sp (vs ++ []) H1 Q E0:=q
 rw [List.append_nil] at q
 have hl:us.length = ps.length:=by rw [<- r.length]; exact G.len _ _ _ _ q
 have hb:=b s1 us I1.kIn (by rw [List.append_nil]; exact hl)
 rw [List.append_nil] at hb
 refine wpAny_call (codeAny_mono (G.run X.A X.stack s1 H1 ⟨us,[]⟩ us vs Q (hr.mono hj) I1.env0 hb r q) fun r s' hq=>?_)
 cases r with
 | error x=>exact hq.elim
 | ok fl =>
  cases fl with
  | ret u=>exact I1.after hq
  | next=>exact False.elim hq
  | brk=>exact False.elim hq
  | cont=>exact False.elim hq
end
end L2
namespace L2
open PySem PySem.Spec PyProof.Rows PySem.W
noncomputable def clsFn (s:Stmt) (i:Nat):Stmt:=match s with
 | .ClassDef _ _ _ b _ _ _ _ _ _ _=>b.getD i (.Pass ⟨0,0,0,0⟩)
 | _=>.Pass ⟨0,0,0,0⟩
section
variable {X:Cx} {K:Frag}
end
end L2
namespace L2
open PySem PySem.Spec PyProof.Rows
end L2
namespace L2
open PySem PySem.Spec PyProof.Rows PySem.W
theorem entry_unchain:entryFor table "proto.unchain" = some Builtin.«proto.unchain»:=entryFor_of_tree (by kernel_rfl)
section
variable {prog:Program} {w:World} {A:Around} {E:Value->Shared->Prop}
theorem raiseNew_one {α:Type} {s:Shared} {e a:Addr} {oe oa:Obj} {vs us:Array Value} {Q:α->Shared->Prop} (hh:A.handled = some (.ref a)) (ne:a ≠ e) (ha:s.heap.get? a = some oa) (hda:oa.data = .fields us) (h2:us[2]? = some .none)
  (he:s.heap.get? e = some oe) (hd:oe.data = .fields vs) (hsz:2 < vs.size) (h:E (.ref e) { s with heap:=s.heap.update e (Obj.mapFields (·.setIfInBounds 2 (.ref a))) }) :
  wpAny (model prog w) A (raiseNew (.ref e):Sem α) Q E s:=by
 unfold raiseNew
 refine wpAny_bind (wpAny_handled ?_)
 rw [hh]
 have hne:(Value.ref a != Value.ref e) = true:=by simpa using ne
 dsimp only
 rw [if_pos hne]
 refine wpAny_bind (wpAny_holding (wpAny_runValue (codeAny_builtin entry_unchain ?_)))
 unfold Builtin.«proto.unchain»
 dsimp only
 refine wpAny_bind (wpAny_field ha hda h2 ?_)
 rw [if_pos (show (Value.none == Value.none) = true by rfl)]
 refine wpAny_pure ?_
 show wpAny _ _ (setField (.ref e) 2 (.ref a) >>= _) _ _ _
 exact wpAny_bind (wpAny_setField he hd hsz (wpAny_throw h))
variable {env:Env} {nm q:Str} {C N:Addr} {bs bm:List Value} {hdct:Bool} {sn:List Str} {sub:List Value} {ab:Bool} {col:Option Bool} {dd:Option Addr} {k0 k1 k2 k3 k5:Option Value} {newId:String}
theorem raiseH {s:Shared} {x:Sem Value} {Q:Flow->Shared->Prop} {a:Addr} (hbase:bm.contains (.type "BaseException") = true) (hh:A.handled = some (.ref a))
  (h:wpAny (model prog w) A x (fun v s₁=>∃ e t oa us,v = .ref e /\ s₁.heap.get? C = some (excClassObj nm q C N bs bm hdct sn sub ab col dd k0 k1 k2 k3 k5 newId) /\
   s₁.heap.get? e = some { cls:=.ref C,data:=.fields #[.ref t,.none,.none,.none,.bool false,.none] } /\ a ≠ e /\ s₁.heap.get? a = some oa /\ oa.data = .fields us /\ us[2]? = some .none /\
   E (.ref e) { s₁ with heap:=s₁.heap.update e (Obj.mapFields (·.setIfInBounds 2 (.ref a))) }) E s) :
  wpAny (model prog w) A (raiseStmt env (some x) none) Q E s:=by
 have hcB:(Value.ref C :: bm).contains (.type "BaseException") = true:=by rw [List.contains_cons,hbase,Bool.or_true]
 unfold raiseStmt
 refine wpAny_bind (wpAny_mono h (fun v s₁ h₁=>?_) fun _ _ x=>x)
 obtain ⟨e,t,oa,us,rfl,hC,he,ne,ha,hda,h2,hE⟩:=h₁
 obtain ⟨hp,g,d,tk,os⟩:=s₁
 repeat (first | with_reducible refine wpAny_loadPart_at he ?_ | with_reducible refine wpAny_loadPart_at hC ?_ | (with_reducible refine wpAny_isSubtype_exc hC ?_; rw [hcB]) | wp_step)
 exact raiseNew_one hh ne ha hda h2 he rfl (show (2:Nat) < 6 by decide) hE
end
noncomputable def RaisesG (X:Cx) (E:XK):Prop:=∀ (C:Value) (pins:List (Addr × Obj)) (σ:St) (H1:Hp) (s1 s2:Shared) (B:Heap) (e:Addr) (oe:Obj) (vs:Array Value) (a0:Value),Inv X pins σ H1 s1->s2.os = s1.os->AllBare s2.gens ->
 Kp X.prog X.w X.stack H1 s1.heap H1 s2.heap B->B.StaysIn s2.heap->B.get? e = none->s2.heap.FunFrames B X.stack->s2.heap.get? e = some oe->oe.cls = C->oe.data = .fields vs->vs[0]? = some a0->vs[1]? = some .none->E C none H1->X.xe (.ref e) s2
section
variable {P:Program} {w:World} {K:PySem.W.Frag} {mg:Str->Option Value} {base:Heap} {N:List Str} {qual:Str} {scope:Scope} {f:Addr} {cd:Value} {A:Around} {outer:List Env} {s:Shared} {H:Hp} {E:XK}
theorem raisesG:RaisesG (cxOf (CXE P w) P w K mg base N qual scope f cd A outer s H E) E:=by
 intro C pins σ H1 s1 s2 B e oe vs a0 I os bare K4 st en fr he hc hd h0 h1 q
 subst hc
 refine wpAny_leaving_firstW (a0:=a0) I.ok.frames fr rfl he st en hd h1 h0 fun h3 z=>?_
 obtain ⟨k1,⟨_,_,k2⟩,k3,k4⟩:=z
 exact ⟨e,oe.cls,H1,B,a0,rfl,os.trans I.os,bare,K4.leave I rfl rfl rfl k1 k4,⟨k1,en,k2,k3⟩,q⟩
end
section
variable {X:Cx} {E:XK} {x y txt:Str} {C' C:Addr} {newId initId B0:String} {bmB:List Value} {np mp cpos pos pos' cp:Pos} {j:Nat} {rest:List ExceptHandler} {tr:Value->Option Addr->TS}
noncomputable def hRaise (K:PySem.W.Frag) (C' C:Addr) (E:XK) (tr:Value->Option Addr->TS):Value->Option Addr->TS:=fun C0 dx D σ H=>∃ b,PySem.W.exmOne K C0 (.ref C') = some b /\ if b = true then E (.ref C) none H else tr C0 dx D σ H
theorem hdD_raise (R:RaisesG X E) (hp:∀ v,PassesOwnAt (model X.prog X.w) (X.A.mark v) X.A X.env X.xe) (hg:Gl X x) (hm:X.mg x = some (.ref C')) (hg2:Gl X y) (hm2:X.mg y = some (.ref C)) (hq:PySem.W.excIn X.K C bmB newId = true) (FB:ExcBaseFacts B0 newId initId bmB) (hr:HdD X rest tr)
  (hd:(x == ("__debug__":Str)) = false:=by decide) (hd2:(y == ("__debug__":Str)) = false:=by decide) :
  HdD X (.ExceptHandler (some (.Name x np)) none [.Raise (some (.Call (.Name y mp) [.Constant (.str txt) j cp] [] cpos)) none pos'] pos :: rest) (hRaise X.K C' C E tr):=by
 intro pins σ H1 H2 s1 s2 D a C0 B a0 dx I1 os bare K fl di h
 have I2:=K.inv I1 os bare
 obtain ⟨b,hb,h⟩:=h
 refine wpAny_handleBy_cons (codeAny_handlers_test (ld_glob (X:=X.hand a) (I2.hand a) hg hm ?_ hd)) (by intro z; cases z)
 obtain ⟨oe,he,hcls⟩:=fl.there
 have LT:PySem.W.Looks (model X.prog X.w) s2.heap (typeOf (.ref a)) C0:=hcls ▸ (PySem.W.Looks.ld he).andThen .now
 refine (PySem.W.exm_one I2.kIn LT hb).here ?_
 cases b with
 | false=>exact hr pins σ H1 H2 s1 s2 D a C0 B a0 dx I1 os bare K fl di h
 | true =>
  refine codeAny_handlers_suite (wpAny_mono ((Sf.ofSetFlight _ _).keepAny (lands_againW (Q:=fun _ s'=>∃ h6,s' = { s2 with heap:=h6 } /\ Heap.FlyingW _ _ a C0 a0 h6 /\ s2.heap.UpToSlots h6) (E:=fun _ _=>False) fl fun h6 fl6 sl6=>⟨h6,rfl,fl6,sl6⟩)) (fun _ s' z=>?_) fun _ _ z=>z.1.elim)
  obtain ⟨⟨h6,rfl,fl6,sl6⟩,dk6⟩:=z
  have di6:=di.keep dk6
  have K6:Kp X.prog X.w X.stack H1 s1.heap H2 ({ s2 with heap:=h6 }:Shared).heap B:=K.slots I1 fl6.1 sl6
  have I6:=K6.inv I1 os bare
  refine wpAny_execs_cons ?_
  refine wpAny_mono (Q:=fun _ _=>False) (E:=X.xe) ?_ (fun _ _ z=>z.elim) (hp _)
  obtain ⟨tl,N,nm,qn,bs,hdct,sn,sub,ab,col,dd,k0,k1,k2,k3,k5,mN,hC,hN,hni,T⟩:=excObj_of I6.mod.kin hq
  rw [arm_exec_Raise]
  refine wpAny_bind (wpAny_standAt (raiseH (C:=C) (nm:=nm) (q:=qn) (N:=N) (bs:=bs) (bm:=tl) (hdct:=hdct) (sn:=sn) (sub:=sub) (ab:=ab) (col:=col) (dd:=dd) (k0:=k0) (k1:=k1) (k2:=k2) (k3:=k3) (k5:=k5) (newId:=newId) (a:=a) (T.hasType FB.hasBase) rfl ?_))
  refine wpAny_bind (wpAny_mono (wpAny_Call_ofName (ld_glob (X:=X.hand a) (I6.hand a) hg2 hm2 ?_ hd2)) (fun v s₃ h₃=>wpAny_bind (wpAny_standAt (wpAny_pure h₃))) fun _ _ x=>x)
  unfold callWith
  refine wpAny_bind (wpAny_holding (Calls.evalArgs_plain ?_))
  show wpAny _ _ (spliced ((false,eval (.Constant (.str txt) j cp) X.env) :: backTo cpos (starEach [] X.env))) _ _ _
  refine Calls.spliced_cons (Calls.Constant_str (Calls.spliced_nil (wpAny_bind (wpAny_standAt ?_))))
  have I7:Inv X pins σ H2 { s2 with heap:=h6,toks:=s2.toks + 1 }:=I6.tok _
  have hC7:=I7.bk _ _ hC
  refine wpAny_bind (wpAny_keeperOf_exc hC7 ?_)
  refine wpAny_bind (wpAny_call_exc_subT (hrest:=by size_fits) FB (T.keeps I7.bk) hC7 (hN.keeps I7.bk) hni fun h' e hx=>wpAny_bind (wpAny_holding (wpAny_point (wpAny_pure ?_))))
  obtain ⟨t,ht,_,_⟩:=hx.there
  obtain ⟨oe7,e7,_,f7⟩:=di6
  have e7':h6.get? a = some oe7:=e7
  have ne:a ≠ e:=fun z=>by have:=hx.new; rw [<- z] at this; rw [e7'] at this; cases this
  have hda:∃ us,oe7.data = .fields us /\ us[2]? = some .none:=by
   unfold fld2 at f7
   cases hdd:oe7.data with
   | fields us=>rw [hdd] at f7; exact ⟨us,rfl,f7⟩
   | _=>rw [hdd] at f7; cases f7
  obtain ⟨us,hda,h2⟩:=hda
  refine ⟨e,t,oe7,us,rfl,hx.keeps _ _ hC7,ht,ne,hx.keeps _ _ e7',hda,h2,?_⟩
  have up:h'.UpToSlots (h'.update e (Obj.mapFields (·.setIfInBounds 2 (.ref a)))):=fun b o eb nf=>by
   have hbe:e ≠ b:=fun z=>by rw [<- z,ht] at eb; cases eb; exact nf _ rfl
   exact ⟨o.slots,(Heap.get?_update_other _ _ hbe).trans eb⟩
  have st:(hideAll h6 (frs X.stack)).StaysIn (h'.update e (Obj.mapFields (·.setIfInBounds 2 (.ref a)))):=fun b o eb=>by
   have eb':=of_hideAll _ eb
   have hbe:e ≠ b:=fun z=>by have:=hx.new; rw [z] at this; rw [show h6.get? b = some o from eb'] at this; cases this
   exact (Heap.get?_update_other _ _ hbe).trans (hx.keeps _ _ eb')
  have hl:=funFrames_hide (as:=frs X.stack) I7.stack fun env he b hb=>List.mem_filterMap.mpr ⟨env,he,hb⟩
  refine R (.ref C) pins σ H2 _ _ (hideAll h6 (frs X.stack)) e _ _ (.ref t) I7 rfl I7.bare ((Kp.raise I7 hx).slots I7 st up) st ?_ ?_ (Heap.get?_update_self _ ht (Obj.isFreed_of_fields (Obj.data_mapFields rfl _))) ?_ (Obj.data_mapFields rfl _) rfl rfl h
  ·cases qq:(hideAll h6 (frs X.stack)).get? e with
   | none=>rfl
   | some ob =>
    have:=hx.new
    rw [show h6.get? e = some ob from of_hideAll _ qq] at this; cases this
  ·refine Heap.FunFrames.of_keeps (fun b o eb nf=>?_) hl
   obtain ⟨sl,q⟩:=up b o (hx.keeps _ _ eb) nf
   exact ⟨_,q,rfl⟩
  ·exact Obj.cls_mapFields _ _
end
end L2
namespace L2
open PySem PySem.Spec PyProof.Rows PySem.W
structure MethDef (K:Frag) (C:Addr) (m qual:Str) (st:Stmt):Prop where
 ex:∃ (f:Addr) (fd:FuncData),Fun K m qual st f fd /\ Meth K C m f
theorem MethDef.mk' {K:Frag} {C f:Addr} {m qual:Str} {st:Stmt} {oc:Value} {od an:Option Addr} {osl:Array (Option Value)} {kV doc pm cdv ct:Value} (a:findIn K (.ref C) m = some (some (.ref f))) (i:isFn K (.ref f) = true)
  (l:K.lookup f = some ⟨oc,od,.func (fnOf m qual (defArgs st) (defBody st) (defScope st) .none kV doc pm an cdv ct),osl⟩) (c:codeIn K cdv qual = true) (k:keepIn K (.ref f) = true):MethDef K C m qual st:=⟨f,_,fun_mk (st:=st) l c k,a,i,k⟩
structure MakeDef (K:Frag) (C:Addr) (qual:Str) (st:Stmt):Prop where
 ex:∃ (f:Addr) (oc:Value) (od:Option Addr) (Td:Addr) (kV doc pm:Value) (an:Option Addr) (cdv ct:Value) (osl:Array (Option Value)) (tc:Value) (td:Option Addr) (dv:Value) (n:Nat) (tsl:Array (Option Value)),
  K.lookup f = some ⟨oc,od,.func (fnOf "__init__" qual (defArgs st) (defBody st) (defScope st) (.ref Td) kV doc pm an cdv ct),osl⟩ /\ codeIn K cdv qual = true /\ Mk K C f /\ K.lookup Td = some ⟨tc,td,.seq #[dv] n,tsl⟩
theorem MakeDef.mk' {K:Frag} {C f Td:Addr} {qual:Str} {st:Stmt} {oc tc dv:Value} {od an td:Option Addr} {osl tsl:Array (Option Value)} {kV doc pm cdv ct:Value} {its:Array Value} {n:Nat} (a:findIn K (.ref C) "__init__" = some (some (.ref f))) (i:isFn K (.ref f) = true)
  (l:K.lookup f = some ⟨oc,od,.func (fnOf "__init__" qual (defArgs st) (defBody st) (defScope st) (.ref Td) kV doc pm an cdv ct),osl⟩) (c:codeIn K cdv qual = true) (m:makesIn K C = true) (k:keepIn K (.ref C) = true) (d:K.lookup Td = some ⟨tc,td,.seq its n,tsl⟩) (e:its = #[dv]):MakeDef K C qual st :=
 ⟨f,oc,od,Td,kV,doc,pm,an,cdv,ct,osl,tc,td,dv,n,tsl,l,c,⟨m,a,i,k⟩,e ▸ d⟩
structure MethAt (P:Program) (w:World) (K:Frag) (mg:Str->Option Value) (base:Heap) (CX:CXT) (k:Nat) (C:Addr) (m:Str) (ps:List Str) (sp:Sp):Prop where
 ex:∃ (f:Addr) (fd:FuncData),FnOk P w K mg base CX k f fd ps sp /\ Meth K C m f /\ Binds K fd ps []
 cl:Cls K C
structure MakeAt (P:Program) (w:World) (K:Frag) (mg:Str->Option Value) (base:Heap) (k:Nat) (C:Addr) (ps:List Str) (sp:Sp):Prop where
 ex:∃ (f:Addr) (fd:FuncData),FnOk P w K mg base CX0 k f fd ps sp /\ Mk K C f /\ Binds K fd ps []
section
variable {P:Program} {w:World} {K:Frag} {mg:Str->Option Value} {base:Heap} {C:Addr} {m qual:Str} {st:Stmt} {N ps:List Str} {k:Nat} {sp:Sp}
theorem MethDef.ok (D:MethDef K C m qual st) (cl:Cls K C) (S:FnScope N ps (defScope st)) (len:∀ vs H Q E,sp vs H Q E->vs.length = ps.length)
  (hb:∀ (kV doc pm:Value) (an:Option Addr) (cdv ct:Value) (us:List Value),us.length = ps.length->bindArgs (fnOf m qual (defArgs st) (defBody st) (defScope st) .none kV doc pm an cdv ct) ⟨us,[]⟩ = pure (ps.zip us))
  (hbody:∀ (f:Addr) (cdv:Value) (A:Around) (outer:List Env) (s:Shared) (H:Hp) (vs:List V) (Q:VK) (E:XK),Room k (A.deeper (envOfC qual (defScope st) s.heap.objs.size f cdv))->sp vs H Q E ->
   ∃ t,PSs (cxOf CX0 P w K mg base N qual (defScope st) f cdv A outer s H E).nox (defBody st) t /\ t { nx:=fun _ H'=>Q .non H',rt:=Q } (start N vs) H):MethAt P w K mg base CX0 (k + 1) C m ps sp:=by
 obtain ⟨f,fd,F,M⟩:=D.ex
 exact ⟨⟨f,fd,F.ok S len fun cdv A outer s H vs Q E hr h=>hbody f cdv A outer s H vs Q E hr h,M,F.binds hb⟩,cl⟩
theorem MethDef.okE (D:MethDef K C m qual st) (cl:Cls K C) (S:FnScope N ps (defScope st)) (len:∀ vs H Q E,sp vs H Q E->vs.length = ps.length)
  (hb:∀ (kV doc pm:Value) (an:Option Addr) (cdv ct:Value) (us:List Value),us.length = ps.length->bindArgs (fnOf m qual (defArgs st) (defBody st) (defScope st) .none kV doc pm an cdv ct) ⟨us,[]⟩ = pure (ps.zip us))
  (hbody:∀ (f:Addr) (cdv:Value) (A:Around) (outer:List Env) (s:Shared) (H:Hp) (vs:List V) (Q:VK) (E:XK),Room k (A.deeper (envOfC qual (defScope st) s.heap.objs.size f cdv))->sp vs H Q E ->
   ∃ t,PSs (cxOf (CXE P w) P w K mg base N qual (defScope st) f cdv A outer s H E) (defBody st) t /\ t { nx:=fun _ H'=>Q .non H',rt:=Q } (start N vs) H):MethAt P w K mg base (CXE P w) (k + 1) C m ps sp:=by
 obtain ⟨f,fd,F,M⟩:=D.ex
 have hF:=F
 obtain ⟨oc,od,kV,doc,pm,an,cdv,ct,osl,rfl,lk,hcd⟩:=F.ex
 exact ⟨⟨f,_,fn_of lk hcd S len fun A outer s H vs Q E hr hsp=>hbody f cdv A outer s H vs Q E hr hsp,M,hF.binds hb⟩,cl⟩
theorem MakeDef.ok (D:MakeDef K C qual st) (S:FnScope N ps (defScope st)) (len:∀ vs H Q E,sp vs H Q E->vs.length = ps.length)
  (hb:∀ (Td:Addr) (dv kV doc pm:Value) (an:Option Addr) (cdv ct:Value) (us:List Value),us.length = ps.length->∃ k,bindArgs (fnOf "__init__" qual (defArgs st) (defBody st) (defScope st) (.ref Td) kV doc pm an cdv ct) ⟨us,[]⟩ = seqItems? (.ref Td) >>= k /\ k (some #[dv]) = pure (ps.zip us))
  (hbody:∀ (f:Addr) (cdv:Value) (A:Around) (outer:List Env) (s:Shared) (H:Hp) (vs:List V) (Q:VK) (E:XK),Room k (A.deeper (envOfC qual (defScope st) s.heap.objs.size f cdv))->sp vs H Q E ->
   ∃ t,PSs (cxOf CX0 P w K mg base N qual (defScope st) f cdv A outer s H E).nox (defBody st) t /\ t { nx:=fun _ H'=>Q .non H',rt:=Q } (start N vs) H):MakeAt P w K mg base (k + 1) C ps sp:=by
 obtain ⟨f,oc,od,Td,kV,doc,pm,an,cdv,ct,osl,tc,td,dv,n,tsl,lk,hcd,M,lt⟩:=D.ex
 refine ⟨f,_,fn_of lk hcd S len fun A outer s H vs Q E hr hsp=>?_,M,fun s us KX hl=>?_⟩
 ·obtain ⟨t,h,q⟩:=hbody f cdv A outer s H vs Q E hr hsp
  exact ⟨t,h.nox,q⟩
 ·rw [List.append_nil] at hl ⊢
  obtain ⟨k,h1,h2⟩:=hb Td dv kV doc pm an cdv ct us hl
  exact BindsTo.of_defaults rfl (KX _ _ lt) rfl h1 h2
end
section
variable {X:Cx} {CX:CXT} {k j:Nat} {C:Addr} {ps:List Str} {sp:Sp} {E:XK} {x m:Str} {p pos apos:Pos} {e o:Expr} {es:List Expr} {ta:TE} {t:TA}
theorem pmeth {pl:Sem Bool} (M:MethAt X.prog X.w X.K X.mg X.base CX j C m ps sp) (hr:Room k X.A) (hx:Passes CX X E) (he:PE X o ta) (ha:PA X (e :: es) t) (hj:j <= k:=by decide)
  (hst:starEach (e :: es) X.env = (false,eval e X.env) :: starEach es X.env:=by rfl) (hpl:(backTo pos (starEach es X.env)).any (·.1) = false:=by rfl)
  (ht:eval (.Call (.Attribute o m apos) (e :: es) [] pos) X.env = (do
   let ov <- eval o X.env
   standAt apos.atName
   let (f,first) <- holding [ov] (getMethod ov m pl)
   callWith pos f first (backTo pos (starEach (e :: es) X.env)) (backToKw pos (keywordEach [] X.env))):=by rfl) :
  PE X (.Call (.Attribute o m apos) (e :: es) [] pos) (tMeth C m sp [] E ta t):=by
 obtain ⟨f,fd,F,hm,hb⟩:=M.ex
 exact pe_meth (pl:=pl) he M.cl hm F (hr.mono hj) hb .nil hx ha hst hpl ht
theorem pmeth0 {pl:Sem Bool} (M:MethAt X.prog X.w X.K X.mg X.base CX j C m ps sp) (hr:Room k X.A) (hx:Passes CX X E) (he:PE X o ta) (hj:j <= k:=by decide)
  (ht:eval (.Call (.Attribute o m apos) [] [] pos) X.env = (do
   let ov <- eval o X.env
   standAt apos.atName
   let (f,first) <- holding [ov] (getMethod ov m pl)
   callWith pos f first (backTo pos (starEach [] X.env)) (backToKw pos (keywordEach [] X.env))):=by rfl) :
  PE X (.Call (.Attribute o m apos) [] [] pos) (tMeth C m sp [] E ta tNil):=by
 obtain ⟨f,fd,F,hm,hb⟩:=M.ex
 exact pe_meth0 (pl:=pl) he M.cl hm F (hr.mono hj) hb .nil hx ht
theorem pmake (M:MakeAt X.prog X.w X.K X.mg X.base j C ps sp) (hr:Room k X.A) (hg:Gl X x) (hm:X.mg x = some (.ref C)) (ha:PA X (e :: es) t) (hj:j + 1 <= k:=by decide)
  (hdb:(x == ("__debug__":Str)) = false:=by decide) (he:starEach (e :: es) X.env = (false,eval e X.env) :: starEach es X.env:=by rfl) (hpl:(backTo pos (starEach es X.env)).any (·.1) = false:=by rfl) :
  PE X (.Call (.Name x p) (e :: es) [] pos) (tMake C sp [] E0 t):=by
 obtain ⟨f,fd,F,hM,hb⟩:=M.ex
 exact pe_make hM F (hr.mono hj) hg hm hb .nil pass0 ha hdb he hpl
theorem pex_run {pins:List (Addr × Obj)} {σ:St} {H:Hp} {s:Shared} {f:Addr} {fd:FuncData} {us:List Value} {vs:List V} {Q:VK} (F:FnOk X.prog X.w X.K X.mg X.base (CXE X.prog X.w) j f fd ps sp) (hb:Binds X.K fd ps []) (hr:Room j X.A) (I1:Inv X pins σ H s) (r:Vals vs us) (q:sp vs H Q E) :
  wpAny (model X.prog X.w) X.A (call (.ref f) us) (EP X pins σ Q) (fun x s'=>∃ s1 H1,Inv X pins σ H1 s1 /\ CXE X.prog X.w X.stack H1 s1 E x s') s:=by
 have hl:us.length = ps.length:=by rw [<- r.length]; exact F.len _ _ _ _ q
 have hb':=hb s us I1.kIn (by rw [List.append_nil]; exact hl)
 rw [List.append_nil] at hb'
 refine wpAny_call (codeAny_mono (F.run X.A X.stack s H ⟨us,[]⟩ us vs Q E hr I1.env0 hb' r q) fun r s' hq=>?_)
 cases r with
 | error x=>exact ⟨s,H,I1,hq⟩
 | ok fl =>
  cases fl with
  | ret u=>exact I1.after hq
  | next=>exact False.elim hq
  | brk=>exact False.elim hq
  | cont=>exact False.elim hq
noncomputable def tMethX (C:Addr) (m:Str) (sp:Sp) (ta:TE) (t:TA):St->Hp->VK->XK->Prop:=fun σ H Q E=>ta σ H fun x H1=>∃ a dx fs,x = .ref a /\ H1 a = some (.ins C dx fs) /\ fs.lookup m = none /\ t σ H1 fun vs H2=>sp (x :: vs) H2 Q E
theorem pexm {pl:Sem Bool} (M:MethAt X.prog X.w X.K X.mg X.base (CXE X.prog X.w) j C m ps sp) (hr:Room k X.A) (he:PE X.nox o ta) (ha:PA X.nox (e :: es) t) (hj:j <= k:=by decide)
  (hst:starEach (e :: es) X.env = (false,eval e X.env) :: starEach es X.env:=by rfl) (hpl:(backTo pos (starEach es X.env)).any (·.1) = false:=by rfl)
  (ht:eval (.Call (.Attribute o m apos) (e :: es) [] pos) X.env = (do
   let ov <- eval o X.env
   standAt apos.atName
   let (f,first) <- holding [ov] (getMethod ov m pl)
   callWith pos f first (backTo pos (starEach (e :: es) X.env)) (backToKw pos (keywordEach [] X.env))):=by rfl) :
  PEX X (.Call (.Attribute o m apos) (e :: es) [] pos) (tMethX C m sp ta t):=by
 intro pins s σ H Q E I h
 obtain ⟨f,fd,F,hm,hb⟩:=M.ex
 refine methodCall_KW (pl:=pl) (wpAny_mono (he pins s σ H _ (I.wish _) h) (fun u s1 ⟨x,H1,I1',rx,a,dx,fs,ex,ea,l,q⟩=>?_) fun _ _ z=>z.elim) ht
 have I1:=I1'.unwish
 subst ex
 obtain rfl:u = Value.ref a:=rx
 refine getmeth_ok I1 ea M.cl hm l ?_
 refine callWith_K (first:=[.ref a]) (h₀:=X.base) I.ok.mod.kin hm.kp (wpAny_mono (ha pos pins s1 σ H1 _ (I1.wish _) q) (fun us s2 ⟨vs,H2,I2',r,q2⟩=>⟨I2'.unwish.kIn,?_⟩) fun _ _ z=>z.elim) hst hpl
 exact pex_run (us:=.ref a :: us) (vs:=.ref a :: vs) F hb (hr.mono hj) I2'.unwish (.cons rfl r) q2
theorem pexm0 {pl:Sem Bool} (M:MethAt X.prog X.w X.K X.mg X.base (CXE X.prog X.w) j C m ps sp) (hr:Room k X.A) (he:PE X.nox o ta) (hj:j <= k:=by decide)
  (ht:eval (.Call (.Attribute o m apos) [] [] pos) X.env = (do
   let ov <- eval o X.env
   standAt apos.atName
   let (f,first) <- holding [ov] (getMethod ov m pl)
   callWith pos f first (backTo pos (starEach [] X.env)) (backToKw pos (keywordEach [] X.env))):=by rfl) :
  PEX X (.Call (.Attribute o m apos) [] [] pos) (tMethX C m sp ta tNil):=by
 intro pins s σ H Q E I h
 obtain ⟨f,fd,F,hm,hb⟩:=M.ex
 refine methodCall_KW (pl:=pl) (wpAny_mono (he pins s σ H _ (I.wish _) h) (fun u s1 ⟨x,H1,I1',rx,a,dx,fs,ex,ea,l,q⟩=>?_) fun _ _ z=>z.elim) ht
 have I1:=I1'.unwish
 subst ex
 obtain rfl:u = Value.ref a:=rx
 refine getmeth_ok I1 ea M.cl hm l ?_
 exact callWith_K0 (first:=[.ref a]) I1.kIn hm.kp (pex_run (us:=[.ref a]) (vs:=[.ref a]) F hb (hr.mono hj) I1 (.cons rfl .nil) q)
theorem pex_of {te:TE} (h:PE X.nox e te):PEX X e (fun σ H Q _=>te σ H Q):=fun pins s σ H Q E I q =>
 wpAny_mono (h pins s σ H _ (I.wish _) q) (fun u s1 ⟨v,H1,I1,r,z⟩=>⟨v,H1,I1.unwish,r,z⟩) fun _ _ z=>z.elim
theorem hd_never {hds:List ExceptHandler}:Hd X hds (fun _=>tNever):=fun _ _ _ _ _ _ _ _ _ _ _ _ _ _ _ _ h=>h.elim
end
section
variable {X:Cx} {K:Frag} {e o value:Expr} {f:Str} {pos pos' tpos:Pos} {ta tv:TE}
theorem pe_fld' (h:X.K = K) (he:PE X e ta) (hb:attributeBase e f X.env (eval e X.env) = eval e X.env:=by rfl):PE X (.Attribute e f pos) (tFld K ta f):=by subst h; exact pe_fld he hb
theorem ps_fld' (h:X.K = K) (ha:PE X o ta) (hv:PE X value tv) (hs:swapsWith value (some (.Attribute o f pos')) pos.line X.env = pure false:=by rfl):PS X (.Assign [.Attribute o f pos'] value pos) (sFld K ta tv f):=by subst h; exact ps_fld ha hv hs
theorem ps_fldadd (h:X.K = K) (ha:PE X o ta) (hv:PE X value tv):PS X (.AugAssign (.Attribute o f tpos) .Add value pos) (sFldAug K ta tv rAdd f):=by subst h; exact ps_fldaug ha hv in_add
end
noncomputable def KeysAre (P:Params):List DictEntry->List (Str × Int)->Prop
 | [],[]=>True
 | e :: r,(x,i) :: r'=>(∃ t t',e.key = .str x t /\ e.hash = PyData.keyHash P x /\ e.val = .int i t') /\ KeysAre P r r'
 | _,_=>False
structure TopD (K:Frag) (w:World) (a:Addr) (kvs:List (Str × Int)):Prop where
 ex:∃ (es:Array DictEntry) (n:Nat),K.lookup a = some ⟨.type "dict",none,.dict es n,#[]⟩ /\ KeysAre w.params es.toList kvs
 lo:(a == sysModules) = false
theorem KeysAre.lit {P:Params}:∀ {l:List DictEntry} {kvs:List (Str × Int)},KeysAre P l kvs->KeysLit P l
 | [],_,_=>True.intro
 | _ :: _,[],h=>h.elim
 | _ :: _,(x,_) :: _,⟨⟨t,_,e1,e2,_⟩,r⟩=>⟨⟨x,t,e1,e2⟩,r.lit⟩
theorem KeysAre.find {P:Params} (x:Str):∀ {l:List DictEntry} {kvs:List (Str × Int)},KeysAre P l kvs->match kvs.lookup x with
  | some i=>∃ t,(l.find? fun e=>Value.isStrOf x e.key).map (·.val) = some (.int i t)
  | none=>(l.find? fun e=>Value.isStrOf x e.key).map (·.val) = none
 | [],[],_=>rfl
 | [],_ :: _,h=>h.elim
 | _ :: _,[],h=>h.elim
 | e :: l,(y,i) :: kvs,⟨⟨t,t',e1,_,e3⟩,r⟩=>by
  have ih:=r.find x
  have hk:Value.isStrOf x e.key = (x == y):=by rw [e1]; first | rfl | (show (y == x) = (x == y); exact Bool.beq_comm ..)
  rw [List.lookup_cons,List.find?_cons,hk]
  cases (x == y) with
  | true=>exact ⟨t',congrArg some e3⟩
  | false=>exact ih
end L2
namespace L2
open PySem PySem.Spec PyProof.Rows PySem.W
section
variable {X:Cx} {K:Frag} {L:Addr} {kvs:List (Str × Int)}
theorem TopD.find {w:World} (D:TopD K w L kvs) {h:Heap} {prog:Program} (X:K.In h):∃ f:Str->Option Value,h.MapOf (strKind prog w) L f /\ ∀ x,match kvs.lookup x with
  | some i=>∃ t,f x = some (.int i t)
  | none=>f x = none:=by
 obtain ⟨⟨es,n,l,ks⟩,_⟩:=D
 refine ⟨_,mapOf_K X l ks.lit,fun x=>?_⟩
 have e:findBy Value.isStrOf es x = (es.toList.find? fun e=>Value.isStrOf x e.key).map (·.val):=by
  obtain ⟨l⟩:=es
  unfold findBy
  rw [List.find?_toArray]
 have:=ks.find x
 cases hl:kvs.lookup x with
 | none=>rw [hl] at this; dsimp only at this ⊢; rw [e]; exact this
 | some i=>rw [hl] at this; dsimp only at this ⊢; rw [e]; exact this
theorem op_notInG (hK:X.K = K) (D:TopD K X.w L kvs):OpR X (compareOp .NotIn) (fun x y H Q=>∃ s,x = .str s /\ y = .ref L /\ Q (.bl (kvs.lookup s).isNone) H):=by
 subst hK
 intro pins s σ H x y v u Q I rx ry h
 obtain ⟨z,rfl,rfl,q⟩:=h
 obtain ⟨t,rfl⟩:=rx
 cases ry
 obtain ⟨f,hm,hf⟩:=D.find (prog:=X.prog) I.kIn
 refine wpAny_notIn_of (strKind_is X.prog X.w z t) D.lo hm ⟨.bl _,H,I.tok _,rfl,?_⟩
 have:=hf z
 cases hl:kvs.lookup z with
 | none=>rw [hl] at this q; dsimp only at this; rw [this]; exact q
 | some i =>
  rw [hl] at this q; dsimp only at this
  obtain ⟨t',e⟩:=this
  rw [e]; exact q
theorem ix_top (hK:X.K = K) (D:TopD K X.w L kvs):IxR X (fun x y H Q=>∃ s i,x = .ref L /\ y = .str s /\ kvs.lookup s = some i /\ Q (.int i) H):=by
 subst hK
 intro value slice pins s σ H x y v u Q I rx ry h hs
 obtain ⟨z,i,rfl,rfl,hl,q⟩:=h
 cases rx
 obtain ⟨t,rfl⟩:=ry
 obtain ⟨f,hm,hf⟩:=D.find (prog:=X.prog) I.kIn
 have:=hf z
 rw [hl] at this; dsimp only at this
 obtain ⟨t',e⟩:=this
 exact tail_any hm.typeIs slot_dict_getitem.lookup (wpAny_getItem_of (strKind_is X.prog X.w z t) hm e ⟨.int i,H,I.tok _,⟨_,rfl⟩,q⟩) hs
end
section
variable {X:Cx} {K:Frag}
theorem countP_vals {P:Value->Bool} {p:V->Bool}:∀ {xs:List V} {us:List Value},Vals xs us->(∀ x u,x ∈ xs->RelV x u->P u = p x)->us.countP P = xs.countP p
 | _,_,.nil,_=>rfl
 | _,_,.cons (a:=x) (b:=u) (l₁:=xs) (l₂:=us) r rs,h=>by
  rw [List.countP_cons,List.countP_cons,countP_vals rs fun y w hy rw'=>h y w (List.mem_cons_of_mem _ hy) rw',h x u (List.mem_cons_self ..) r]
noncomputable def rCountF:V->List V->Hp->VK->Prop:=fun x vs H Q=>∃ (l:Addr) (xs:List V) (z:V),x = .ref l /\ vs = [z] /\ H l = some (.lst xs) /\ flatV z = true /\ xs.all flatV = true /\ Q (.int (xs.countP fun y=>eqV y z:Nat)) H
theorem mt_countF:MtR X "list.count" rCountF:=by
 intro pins s σ H x vs v us Q I rx rv h
 obtain ⟨l,xs,z,rfl,rfl,hH,fz,fl,q⟩:=h
 cases rx
 obtain ⟨u,rfl,ru⟩:=rv.one
 obtain ⟨zz,its,n,r,hl,e⟩:=I.lstM hH
 refine call_meets F.slot_list_count ⟨_,e,rfl⟩ F.entry_list_count (F.args_list_count_2 _ _) (SeqAt.list_countAt l its.toArray n none #[] u (eqU z)) ⟨e,fun y hy=>mem_eqAt ru fz r fl y (by simpa using hy),?_⟩
 refine ⟨.int (xs.countP fun y=>eqV y z:Nat),H,I.kept (t':=s.toks + 1) fun b ob e=>e,⟨s.toks,?_⟩,q⟩
 rw [countP_vals (p:=fun y=>eqV y z) r fun y w hy rw'=>eqU_of rw' (List.all_eq_true.mp fl _ hy)]
noncomputable def isYA (H:Hp) (a:Addr):Bool:=match H a with
 | some (.tup [.str t])=>decide (t = "year")
 | _=>false
noncomputable def isYV (H:Hp):V->Bool
 | .ref a=>isYA H a
 | _=>false
noncomputable def rCountY (K:Frag):V->List V->Hp->VK->Prop:=fun x vs H Q=>∃ (l p:Addr) (xs:List V),x = .ref l /\ vs = [.ref p] /\ H l = some (.lst xs) /\ RepD K H (.tuple [.str "year"]) (.ref p) /\
 (∀ y ∈ xs,∃ a d,y = .ref a /\ RepD K H d y /\ d.depth <= 40 /\ PyData.eqv d (.tuple [.str "year"]) = isYA H a) /\ Q (.int (xs.countP (isYV H):Nat)) H
end
section
variable {X:Cx} {K:Frag}
theorem mt_countY {k:Nat} (hK:X.K = K) (hr:Room k X.A):MtR X "list.count" (rCountY K):=by
 subst hK
 intro pins s σ H x vs v us Q I rx rv h
 obtain ⟨l,p,xs,rfl,rfl,hH,hy,hall,q⟩:=h
 cases rx
 obtain ⟨u,rfl,ru⟩:=rv.one
 cases ru
 obtain ⟨zz,its,n,r,hl,e⟩:=I.lstM hH
 have hu:=hr.un
 refine call_meets F.slot_list_count ⟨_,e,rfl⟩ F.entry_list_count (F.args_list_count_2 _ _) (SeqAt.list_countAt l its.toArray n none #[] (.ref p) (fun w=>match w with | .ref a=>isYA H a | _=>false)) ⟨e,fun w hw=>?_,?_⟩
 ·obtain ⟨y,hy',ry⟩:=vals_mem r w (by simpa using hw)
  obtain ⟨a,d,rfl,hd,hdep,he⟩:=hall y hy'
  cases ry
  obtain ⟨as,r1⟩:=RepD.reads I hd (show RelV (.ref a) (.ref a) from rfl)
  obtain ⟨bs,r2⟩:=RepD.reads I hy (show RelV (.ref p) (.ref p) from rfl)
  have:=SeqAt.eqAt_reads _ _ X.A.in1 s (.ref a) (.ref p) as bs r1 r2 hd.lay hy.lay (by
   have:min d.depth (PyData.tuple [.str "year"]).depth <= 40:=Nat.le_trans (Nat.min_le_left _ _) hdep
   show X.A.units + 1 + _ < cLine
   lia)
  rw [he] at this
  exact this
 ·refine ⟨.int (xs.countP (isYV H):Nat),H,I.kept (t':=s.toks + 1) fun b ob e=>e,⟨s.toks,?_⟩,q⟩
  rw [countP_vals (p:=isYV H) r fun y w hy' rw'=>?_]
  obtain ⟨a,d,rfl,_⟩:=hall y hy'
  cases rw'
  rfl
end
section
variable {prog:Program} {w:World} {A:Around} {E:Value->Shared->Prop} {s:Shared}
theorem mergeT {nm:String} {d o:Addr} {oo od:Obj} {es:Array DictEntry} {ep epd:Nat} {Q:Unit->Shared->Prop} (hdo:d ≠ o) (hoS:(o == sysModules) = false) (hod:s.heap.get? d = some od) (hcd:od.ExactDict) (hdd:od.data = .dict #[] epd)
  (hoo:s.heap.get? o = some oo) (hdo':oo.data = .dict es ep) (hes:es = #[] \/ ∃ h b v,es = #[⟨h,.ref b,v⟩] /\ s.TypeIs (.ref b) "tuple")
  (hQ:∀ h',(∃ od' ep',h'.get? d = some od' /\ od'.ExactDict /\ od'.data = .dict es ep')->Heap.SameBut d s.heap h'->Q () { s with heap:=h' }) :
  wpAny (model prog w) A (Builtin.Dict.mergeDict nm d o) Q E s:=by
 unfold Builtin.Dict.mergeDict
 rw [if_neg (by simpa using hdo)]
 unfold Builtin.Dict.showsAll
 rw [if_neg (by rw [hoS]; exact Bool.false_ne_true)]
 refine wpAny_bind (wpAny_pure ?_)
 refine wpAny_bind (wpAny_dictEntries hoo hdo' ?_)
 rcases hes with rfl | ⟨h,b,v,rfl,tb⟩
 ·dsimp only
  rw [if_neg (by simp)]
  refine wpAny_bind (wpAny_dictEpoch hoo hdo' ?_)
  refine wpAny_bind (wpAny_dictEntries hoo hdo' ?_)
  refine wpAny_bind ?_
  rw [Std.Legacy.Range.forIn_eq_forIn_range']
  simp only [Std.Legacy.Range.size,Nat.sub_zero,Nat.add_sub_cancel,Nat.div_one]
  exact wpAny_pure (wpAny_pure (hQ _ ⟨od,epd,hod,hcd,hdd⟩ (Heap.SameBut.refl _ _)))
 ·dsimp only
  rw [if_pos (by simp [keyPart])]
  refine wpAny_bind (wpAny_dictEntries hod hdd ?_)
  rw [if_pos (by rfl)]
  refine wpAny_bind ?_
  unfold Builtin.Dict.entriesForEmpty
  refine wpAny_bind (wpAny_dictEntries hoo hdo' ?_)
  rw [<- Array.forIn_toList]
  refine wpAny_bind ?_
  rw [List.forIn_cons]
  refine wpAny_bind (wpAny_bind ?_)
  unfold Builtin.Dict.quietEq
  refine wpAny_bind (wpAny_specialOf tb PySem.F.slot_tuple_eq.lookup (wpAny_pure ?_))
  rw [if_pos (by decide),if_neg (by simp)]
  refine wpAny_pure ?_
  dsimp only
  rw [List.forIn_nil]
  refine wpAny_pure (wpAny_pure ?_)
  rw [if_pos (by rfl)]
  refine wpAny_bind (wpAny_updateDictKeysTo hod hdd (wpAny_pure (hQ _ ⟨_,epd + 1,Heap.get?_update_self _ hod (Obj.isFreed_of_dict (Obj.data_mapDictKeys hdd _)),hcd.mapDictKeys _,Obj.data_mapDictKeys hdd _⟩ (Heap.SameBut.update ..))) ?_)
  rw [sizeLine_eq]; exact (by decide:(1:Nat) <= 16777216 + 1)
theorem call_dictOf {o:Addr} {oo:Obj} {es:Array DictEntry} {ep:Nat} {Q:Value->Shared->Prop} (hoS:(o == sysModules) = false) (hco:oo.ExactDict) (hoo:s.heap.get? o = some oo) (hdo':oo.data = .dict es ep) (hes:es = #[] \/ ∃ h b v,es = #[⟨h,.ref b,v⟩] /\ s.TypeIs (.ref b) "tuple")
  (h:∀ h',(∃ od' ep',h'.get? s.heap.objs.size = some od' /\ od'.ExactDict /\ od'.data = .dict es ep')->Heap.SameBut s.heap.objs.size (s.heap.push { cls:=.type "dict",data:=.dict #[] }) h'->Q (.ref s.heap.objs.size) { s with heap:=h' }) :
  wpAny (model prog w) A (call (.type "dict") [.ref o]) Q E s:=by
 refine callType_codes (Q₁:=fun obj s₁=>obj = .ref s.heap.objs.size /\ s₁ = { s with heap:=s.heap.push { cls:=.type "dict",data:=.dict #[] } }) PySem.F.kt_called_dict (PySem.F.kt_typeCall_dict_1 _) PySem.F.entry_dict_init (kt_code_dict_new _ ⟨rfl,rfl⟩) ?_
 rintro obj s₁ ⟨rfl,rfl⟩
 have hnew:(s.heap.push { cls:=.type "dict",data:=.dict #[] }).DictOf (intKind prog w) s.heap.objs.size []:=Heap.DictOf.new s.heap
 have hoo':(s.heap.push { cls:=.type "dict",data:=.dict #[] }).get? o = some oo:=Heap.get?_push_of_some _ hoo
 have to:({ s with heap:=s.heap.push { cls:=.type "dict",data:=.dict #[] } }:Shared).TypeIs (.ref o) "dict":=⟨oo,hoo',hco.1⟩
 have hdo:s.heap.objs.size ≠ o:=fun e=>absurd (Heap.lt_size hoo) (by rw [e]; exact Nat.lt_irrefl _)
 refine ⟨hnew.typeIs,PySem.F.args_dict_init_2 _ _,?_⟩
 unfold Builtin.«dict.__init__»
 refine wpAny_bind ?_
 unfold Builtin.Dict.selfAndRest
 refine wpAny_bind (wpAny_notOrdered_dict hnew.typeIs ?_)
 show wpAny _ _ (pure (s.heap.objs.size,[Value.ref o])) _ _ _
 refine wpAny_pure ?_
 show wpAny _ _ (Builtin.Dict.updateFrom "dict.__init__" s.heap.objs.size (.ref o) [] .none) _ _ _
 unfold Builtin.Dict.updateFrom
 refine wpAny_bind (wpAny_typeOf to ?_)
 rw [if_neg (by decide)]
 refine wpAny_bind ?_
 unfold Builtin.Dict.merge
 refine wpAny_bind ?_
 unfold Builtin.Dict.readDirectly
 refine wpAny_bind (wpAny_isInstance to isSubtype_dict_dict ?_)
 simp only [Bool.not_true,Bool.false_eq_true,if_false]
 refine wpAny_bind (wpAny_specialOf to PySem.F.slot_dict_iter.lookup (wpAny_pure ?_))
 simp only [beq_self_eq_true,if_true]
 refine wpAny_bind (wpAny_pure ?_)
 refine mergeT (epd:=0) hdo hoS (Heap.get?_push_size _ rfl) ⟨rfl,rfl,rfl⟩ rfl hoo' hdo' ?_ fun h' hd' hs'=>?_
 ·rcases hes with e | ⟨hh,b,v,e,ob,e1,e2⟩
  ·exact .inl e
  ·exact .inr ⟨hh,b,v,e,ob,Heap.get?_push_of_some _ e1,e2⟩
 ·show wpAny _ _ (Builtin.Dict.addKeywords s.heap.objs.size [] >>= _) _ _ _
  exact wpAny_bind (wpAny_pure (wpAny_pure ⟨rfl,h h' hd' hs'⟩))
end
section
variable {X:Cx}
theorem call_dictT:CallR X (.type "dict") (fun xs H Q=>∃ a kvs,xs = [V.ref a] /\ H a = some (.dT kvs) /\ kvs.length <= 1 /\ ∀ p,H p = none->Q (.ref p) (upd H p (.dT kvs))):=by
 intro pins s σ H xs us Q I r h
 obtain ⟨a,kvs,rfl,ha,hl,q⟩:=h
 obtain ⟨u,rfl,ru⟩:=vals1 r
 cases ru
 obtain ⟨z,y,ys,rel,o,es,ep,h1,h2,h3,h4,h5⟩:=(show ObjOk X.prog X.w H s.heap a (.dT kvs) from I.hok a _ ha)
 have hes:es = #[] \/ ∃ h b v,es = #[⟨h,.ref b,v⟩] /\ s.TypeIs (.ref b) "tuple":=by
  cases rel with
  | nil =>
   refine .inl ?_
   obtain ⟨l⟩:=es
   exact congrArg Array.mk h4
  | @cons p w0 ps qs hp ht =>
   obtain ⟨_,hq,_⟩:=hp
   have e0:ps = []:=by cases ps with | nil=>rfl | cons c r=>simp at hl
   subst e0
   cases ht
   refine .inr ⟨(entryOfKey (tupleKind (mixKind X.prog X.w)) w0).hash,w0.2.1,w0.2.2,?_,?_⟩
   ·obtain ⟨l⟩:=es
    exact congrArg Array.mk h4
   ·obtain ⟨ob,its,n,et,hc,_⟩:=key_of I.hok hq
    exact ⟨ob,et,hc⟩
 refine call_dictOf y h2 h1 h3 hes fun h' ⟨od',ep',g1,g2,g3⟩ hs=>?_
 refine ⟨.ref _,_,I.laid (a:=s.heap.objs.size) (o:=.dT kvs) (t':=s.toks) (fun b ob e=>?_) (Nat.le_refl _) ⟨z,beq_eq_false_iff_ne.mpr (Nat.ne_of_gt I.big),ys,?_,od',es,ep',g1,g2,g3,h4,h5⟩,rfl,q _ I.fresh⟩
 ·exact hs.extBut b ob (Nat.ne_of_lt (Heap.lt_size e)) (Heap.get?_push_of_some _ e)
 ·refine KT.keeps rel fun c zs ec=>?_
  rw [upd_ne (ne_of_none ec I.fresh)]; exact ec
end
section
variable {X:Cx} {k v:Expr} {pos:Pos} {tk tv:TE}
noncomputable def rDispT (p:Addr) (Q:VK):List (V × V)->Hp->Prop:=fun ps H2=>match ps with
 | [(x,y)]=>∃ b ks,x = .ref b /\ H2 b = some (.tup (ks.map kV)) /\ H2 p = some (.dT []) /\ Q (.ref p) (upd H2 p (.dT [(ks,y)]))
 | _=>False
noncomputable def tDispT (tk tv:TE):TE:=fun σ H Q=>∀ p,H p = none->tk σ (upd H p (.dT [])) fun x H1=>tv σ H1 fun y H2=>rDispT p Q [(x,y)] H2
theorem pe_dispT (hu:X.A.units + 1 < cLine) (hk:PE X k tk) (hv:PE X v tv):PE X (.Dict [some k] [v] pos) (tDispT tk tv):=by
 intro pins s σ H Q I q
 have hn:=I.hok.fresh (Nat.le_refl s.heap.objs.size)
 have I1:=I.laid (a:=s.heap.objs.size) (o:=.dT []) (h':=s.heap.push { cls:=.type "dict",data:=.dict #[] }) (t':=s.toks) (fun _ _ q=>Heap.get?_push_of_some _ q) (Nat.le_refl _) (dt_empty s.heap I.big)
 refine wpAny_Dict_any rfl rfl (List.cons_ne_nil _ _) (Nat.le_of_ble_eq_true rfl) (wpAny_mono ((pps_cons hk hv pps_nil:PPs X pos [some k] [v] [(tk,tv)]) pins _ σ _ (rDispT s.heap.objs.size Q) I1 (q _ hn)) (fun vs s2 z=>?_) fun _ _ z=>z)
 obtain ⟨ps,H2,I2,rel,z⟩:=z
 cases rel with
 | nil=>exact z.elim
 | @cons p w0 ps ws hp rest =>
  cases rest with
  | cons _ _=>exact z.elim
  | nil =>
   obtain ⟨b,ks,e1,eb,ep,q2⟩:=z
   obtain ⟨rk,rv⟩:=hp
   obtain ⟨px,py⟩:=p
   dsimp only at e1 rk rv
   subst e1
   obtain ⟨wk,wv⟩:=w0
   cases (show wk = Value.ref b from rk)
   unfold storeAll
   rw [List.forIn_cons]
   obtain ⟨z,hd,xs,rl,dd⟩:=dt_of I2.hok ep
   have e0:xs = []:=by cases rl; rfl
   subst e0
   refine wpAny_bind (wpAny_bind (wpAny_dictSet_heap (hsz:=Nat.zero_le _) (Nat.lt_of_succ_lt hu) (key_of I2.hok eb) dd fun h' dd' hs=>wpAny_pure ?_))
   dsimp only
   rw [List.forIn_nil]
   refine wpAny_pure ⟨.ref s.heap.objs.size,_,?_,rfl,q2⟩
   obtain ⟨qo,es,ep',hq,h2,h3,h4,_,h5⟩:=dd'
   refine d_write I2 (by rw [ep]; exact True.intro) hs ⟨qo,hq⟩ ⟨by rw [sizeLine_eq]; exact (by decide:(1:Nat) <= 16777216),hd,_,?_,qo,es,ep',hq,h2,h3,h4,h5⟩
   refine .cons ⟨rfl,?_,rv⟩ .nil
   rw [upd_ne (ne_of eb ep (fun z=>nomatch z))]
   exact eb
end
end L2
namespace L2
open PySem
structure PAw (X:Cx) (es:List Expr) (t:TA):Prop where
 h:PA X es t
structure PEw (X:Cx) (e:Expr) (t:TE):Prop where
 h:PE X e t
section
variable {X:Cx} {es:List Expr} {te:TE} {t:TA} {p:Pos} {k:Nat}
theorem wnil:PAw X [] tNil:=⟨pa_nil⟩
theorem wC {c:Const} (ha:PEw X (.Constant c k p) te) (hr:PAw X es t):PAw X (.Constant c k p :: es) (tCons te t):=⟨pa_cons ha.h hr.h⟩
theorem wN {x:Str} (ha:PEw X (.Name x p) te) (hr:PAw X es t):PAw X (.Name x p :: es) (tCons te t):=⟨pa_cons ha.h hr.h⟩
theorem wT {xs:List Expr} (ha:PEw X (.Tuple xs k p) te) (hr:PAw X es t):PAw X (.Tuple xs k p :: es) (tCons te t):=⟨pa_cons ha.h hr.h⟩
theorem wL {xs:List Expr} (ha:PEw X (.List xs p) te) (hr:PAw X es t):PAw X (.List xs p :: es) (tCons te t):=⟨pa_cons ha.h hr.h⟩
theorem wU {op:UnaryOp} {e:Expr} (ha:PEw X (.UnaryOp op e p) te) (hr:PAw X es t):PAw X (.UnaryOp op e p :: es) (tCons te t):=⟨pa_cons ha.h hr.h⟩
theorem wD {ks:List (Option Expr)} {vs:List Expr} (ha:PEw X (.Dict ks vs p) te) (hr:PAw X es t):PAw X (.Dict ks vs p :: es) (tCons te t):=⟨pa_cons ha.h hr.h⟩
theorem wK {f:Expr} {as:List Expr} {ks:List Keyword} (ha:PEw X (.Call f as ks p) te) (hr:PAw X es t):PAw X (.Call f as ks p :: es) (tCons te t):=⟨pa_cons ha.h hr.h⟩
theorem wstr {x:Str}:PEw X (.Constant (.str x) k p) (tC (.str x)):=⟨pe_str⟩
theorem wlst (h:PAw X es t):PEw X (.List es p) (tLst t):=⟨pe_lst h.h⟩
theorem wtup (h:PAw X es t):PEw X (.Tuple es k p) (tTup t):=⟨pe_tup h.h⟩
end
structure PSw (X:Cx) (st:Stmt) (t:TS):Prop where
 h:PS X st t
structure PSsw (X:Cx) (sts:List Stmt) (t:TS):Prop where
 h:PSs X sts t
section
variable {X:Cx} {e a b:Expr} {te ta tb:TE} {st:Stmt} {sts:List Stmt} {t u:TS} {pos pos':Pos} {i:Nat} {x:Str}
theorem ws_set (hN:X.N.Nodup) (hi:X.N[i]? = some x) (hx:Loc X.env.scope x) (he:PEw X e te) (hs:swapsWith e (some (.Name x pos')) pos.line X.env = pure false:=by rfl) (hf:X.fn x = true \/ X.env.scope.names.lookup x = some .local:=by first | exact .inl rfl | exact .inr rfl | assumption):PSw X (.Assign [.Name x pos'] e pos) (tAsg te (gName i)):=⟨ps_set hN hi hx he.h hs hf⟩
theorem ws_ret (he:PEw X e te):PSw X (.Return (some e) pos) (tRet te):=⟨ps_ret he.h⟩
theorem w_op {op:Operator} {r:R2} (ho:OpR X (binaryOp op) r) (ha:PEw X a ta) (hb:PEw X b tb):PEw X (.BinOp a op b pos) (tOp r ta tb):=⟨pe_op ho ha.h hb.h⟩
theorem wss_cons (h1:PSw X st t) (h2:PSsw X sts u):PSsw X (st :: sts) (tSeq t u):=⟨pss_cons h1.h h2.h⟩
theorem wss_one (h1:PSw X st t):PSsw X [st] t:=⟨pss_one h1.h⟩
end
end L2
namespace T52
open PySem L2 Tc
noncomputable def top (i:Nat):Stmt:=PySem.Challenge.pw_tiercask_k52_no_deeds.main.body.getD i (.Pass ⟨0,0,0,0⟩)
set_option genInjectivity false in
structure Ca where
 Book:Addr
 Full:Addr
 Lacking:Addr
 NoCask:Addr
 NoChange:Addr
 NoDeed:Addr
 NoNumber:Addr
 NoPlace:Addr
 NotSteady:Addr
 Tied:Addr
 TierError:Addr
 LENGTHS:Addr
structure Txt (K:PySem.W.Frag) (mg:Str->Option Value) (w:World) (ca:Ca):Prop where
 z_ValueError:mg "ValueError" = none
 z_abs:mg "abs" = none
 z_all:mg "all" = none
 z_bool:mg "bool" = none
 z_dict:mg "dict" = none
 z_enumerate:mg "enumerate" = none
 z_int:mg "int" = none
 z_isinstance:mg "isinstance" = none
 z_len:mg "len" = none
 z_list:mg "list" = none
 z_range:mg "range" = none
 z_str:mg "str" = none
 z_tuple:mg "tuple" = none
 c_Book:mg "Book" = some (.ref ca.Book)
 c_Full:mg "Full" = some (.ref ca.Full)
 c_Lacking:mg "Lacking" = some (.ref ca.Lacking)
 c_NoCask:mg "NoCask" = some (.ref ca.NoCask)
 c_NoChange:mg "NoChange" = some (.ref ca.NoChange)
 c_NoDeed:mg "NoDeed" = some (.ref ca.NoDeed)
 c_NoNumber:mg "NoNumber" = some (.ref ca.NoNumber)
 c_NoPlace:mg "NoPlace" = some (.ref ca.NoPlace)
 c_NotSteady:mg "NotSteady" = some (.ref ca.NotSteady)
 c_Tied:mg "Tied" = some (.ref ca.Tied)
 c_TierError:mg "TierError" = some (.ref ca.TierError)
 c_LENGTHS:mg "LENGTHS" = some (.ref ca.LENGTHS)
 g_LETTERS:∃ t,mg "LETTERS" = some (.str "abcdefghijklmnopqrstuvwxyz" t)
 k_Book:Cls K ca.Book
 n_Book_first:NoAttr K ca.Book "first"
 n_Book_now:NoAttr K ca.Book "now"
 n_Book_past:NoAttr K ca.Book "past"
 n_Book_places:NoAttr K ca.Book "places"
 n_Book_row:NoAttr K ca.Book "row"
 n_Book_taken:NoAttr K ca.Book "taken"
 n_Book_wines:NoAttr K ca.Book "wines"
 d_LENGTHS:TopD K w ca.LENGTHS [("bring",4),("move",4),("part",4),("all",3),("fill",3),("year",1)]
 e_NoCask:PySem.W.excIn K ca.NoCask [.type "ValueError",.type "Exception",.type "BaseException",.type "object"] "ValueError.__new__" = true
 x_NoCask:ExcK K ca.NoCask
 i_NoCask_Full:PySem.W.kitOne K (.ref ca.NoCask) (.ref ca.Full) = some false
 m_NoCask_Full:PySem.W.exmOne K (.ref ca.NoCask) (.ref ca.Full) = some false
 i_NoCask_Lacking:PySem.W.kitOne K (.ref ca.NoCask) (.ref ca.Lacking) = some false
 m_NoCask_Lacking:PySem.W.exmOne K (.ref ca.NoCask) (.ref ca.Lacking) = some false
 i_NoCask_NoCask:PySem.W.kitOne K (.ref ca.NoCask) (.ref ca.NoCask) = some true
 m_NoCask_NoCask:PySem.W.exmOne K (.ref ca.NoCask) (.ref ca.NoCask) = some true
 i_NoCask_NoChange:PySem.W.kitOne K (.ref ca.NoCask) (.ref ca.NoChange) = some false
 m_NoCask_NoChange:PySem.W.exmOne K (.ref ca.NoCask) (.ref ca.NoChange) = some false
 i_NoCask_NoDeed:PySem.W.kitOne K (.ref ca.NoCask) (.ref ca.NoDeed) = some false
 m_NoCask_NoDeed:PySem.W.exmOne K (.ref ca.NoCask) (.ref ca.NoDeed) = some false
 i_NoCask_NoNumber:PySem.W.kitOne K (.ref ca.NoCask) (.ref ca.NoNumber) = some false
 m_NoCask_NoNumber:PySem.W.exmOne K (.ref ca.NoCask) (.ref ca.NoNumber) = some false
 i_NoCask_NoPlace:PySem.W.kitOne K (.ref ca.NoCask) (.ref ca.NoPlace) = some false
 m_NoCask_NoPlace:PySem.W.exmOne K (.ref ca.NoCask) (.ref ca.NoPlace) = some false
 i_NoCask_NotSteady:PySem.W.kitOne K (.ref ca.NoCask) (.ref ca.NotSteady) = some false
 m_NoCask_NotSteady:PySem.W.exmOne K (.ref ca.NoCask) (.ref ca.NotSteady) = some false
 i_NoCask_Tied:PySem.W.kitOne K (.ref ca.NoCask) (.ref ca.Tied) = some false
 m_NoCask_Tied:PySem.W.exmOne K (.ref ca.NoCask) (.ref ca.Tied) = some false
 i_NoCask_TierError:PySem.W.kitOne K (.ref ca.NoCask) (.ref ca.TierError) = some true
 m_NoCask_TierError:PySem.W.exmOne K (.ref ca.NoCask) (.ref ca.TierError) = some true
 v_NoCask:PySem.W.kitOne K (.ref ca.NoCask) (.type "ValueError") = some true
 e_NoChange:PySem.W.excIn K ca.NoChange [.type "ValueError",.type "Exception",.type "BaseException",.type "object"] "ValueError.__new__" = true
 x_NoChange:ExcK K ca.NoChange
 i_NoChange_Full:PySem.W.kitOne K (.ref ca.NoChange) (.ref ca.Full) = some false
 m_NoChange_Full:PySem.W.exmOne K (.ref ca.NoChange) (.ref ca.Full) = some false
 i_NoChange_Lacking:PySem.W.kitOne K (.ref ca.NoChange) (.ref ca.Lacking) = some false
 m_NoChange_Lacking:PySem.W.exmOne K (.ref ca.NoChange) (.ref ca.Lacking) = some false
 i_NoChange_NoCask:PySem.W.kitOne K (.ref ca.NoChange) (.ref ca.NoCask) = some false
 m_NoChange_NoCask:PySem.W.exmOne K (.ref ca.NoChange) (.ref ca.NoCask) = some false
 i_NoChange_NoChange:PySem.W.kitOne K (.ref ca.NoChange) (.ref ca.NoChange) = some true
 m_NoChange_NoChange:PySem.W.exmOne K (.ref ca.NoChange) (.ref ca.NoChange) = some true
 i_NoChange_NoDeed:PySem.W.kitOne K (.ref ca.NoChange) (.ref ca.NoDeed) = some false
 m_NoChange_NoDeed:PySem.W.exmOne K (.ref ca.NoChange) (.ref ca.NoDeed) = some false
 i_NoChange_NoNumber:PySem.W.kitOne K (.ref ca.NoChange) (.ref ca.NoNumber) = some false
 m_NoChange_NoNumber:PySem.W.exmOne K (.ref ca.NoChange) (.ref ca.NoNumber) = some false
 i_NoChange_NoPlace:PySem.W.kitOne K (.ref ca.NoChange) (.ref ca.NoPlace) = some false
 m_NoChange_NoPlace:PySem.W.exmOne K (.ref ca.NoChange) (.ref ca.NoPlace) = some false
 i_NoChange_NotSteady:PySem.W.kitOne K (.ref ca.NoChange) (.ref ca.NotSteady) = some false
 m_NoChange_NotSteady:PySem.W.exmOne K (.ref ca.NoChange) (.ref ca.NotSteady) = some false
 i_NoChange_Tied:PySem.W.kitOne K (.ref ca.NoChange) (.ref ca.Tied) = some false
 m_NoChange_Tied:PySem.W.exmOne K (.ref ca.NoChange) (.ref ca.Tied) = some false
 i_NoChange_TierError:PySem.W.kitOne K (.ref ca.NoChange) (.ref ca.TierError) = some true
 m_NoChange_TierError:PySem.W.exmOne K (.ref ca.NoChange) (.ref ca.TierError) = some true
 v_NoChange:PySem.W.kitOne K (.ref ca.NoChange) (.type "ValueError") = some true
 e_NoDeed:PySem.W.excIn K ca.NoDeed [.type "ValueError",.type "Exception",.type "BaseException",.type "object"] "ValueError.__new__" = true
 x_NoDeed:ExcK K ca.NoDeed
 i_NoDeed_Full:PySem.W.kitOne K (.ref ca.NoDeed) (.ref ca.Full) = some false
 m_NoDeed_Full:PySem.W.exmOne K (.ref ca.NoDeed) (.ref ca.Full) = some false
 i_NoDeed_Lacking:PySem.W.kitOne K (.ref ca.NoDeed) (.ref ca.Lacking) = some false
 m_NoDeed_Lacking:PySem.W.exmOne K (.ref ca.NoDeed) (.ref ca.Lacking) = some false
 i_NoDeed_NoCask:PySem.W.kitOne K (.ref ca.NoDeed) (.ref ca.NoCask) = some false
 m_NoDeed_NoCask:PySem.W.exmOne K (.ref ca.NoDeed) (.ref ca.NoCask) = some false
 i_NoDeed_NoChange:PySem.W.kitOne K (.ref ca.NoDeed) (.ref ca.NoChange) = some false
 m_NoDeed_NoChange:PySem.W.exmOne K (.ref ca.NoDeed) (.ref ca.NoChange) = some false
 i_NoDeed_NoDeed:PySem.W.kitOne K (.ref ca.NoDeed) (.ref ca.NoDeed) = some true
 m_NoDeed_NoDeed:PySem.W.exmOne K (.ref ca.NoDeed) (.ref ca.NoDeed) = some true
 i_NoDeed_NoNumber:PySem.W.kitOne K (.ref ca.NoDeed) (.ref ca.NoNumber) = some false
 m_NoDeed_NoNumber:PySem.W.exmOne K (.ref ca.NoDeed) (.ref ca.NoNumber) = some false
 i_NoDeed_NoPlace:PySem.W.kitOne K (.ref ca.NoDeed) (.ref ca.NoPlace) = some false
 m_NoDeed_NoPlace:PySem.W.exmOne K (.ref ca.NoDeed) (.ref ca.NoPlace) = some false
 i_NoDeed_NotSteady:PySem.W.kitOne K (.ref ca.NoDeed) (.ref ca.NotSteady) = some false
 m_NoDeed_NotSteady:PySem.W.exmOne K (.ref ca.NoDeed) (.ref ca.NotSteady) = some false
 i_NoDeed_Tied:PySem.W.kitOne K (.ref ca.NoDeed) (.ref ca.Tied) = some false
 m_NoDeed_Tied:PySem.W.exmOne K (.ref ca.NoDeed) (.ref ca.Tied) = some false
 i_NoDeed_TierError:PySem.W.kitOne K (.ref ca.NoDeed) (.ref ca.TierError) = some true
 m_NoDeed_TierError:PySem.W.exmOne K (.ref ca.NoDeed) (.ref ca.TierError) = some true
 v_NoDeed:PySem.W.kitOne K (.ref ca.NoDeed) (.type "ValueError") = some true
 e_NoNumber:PySem.W.excIn K ca.NoNumber [.type "ValueError",.type "Exception",.type "BaseException",.type "object"] "ValueError.__new__" = true
 x_NoNumber:ExcK K ca.NoNumber
 i_NoNumber_Full:PySem.W.kitOne K (.ref ca.NoNumber) (.ref ca.Full) = some false
 m_NoNumber_Full:PySem.W.exmOne K (.ref ca.NoNumber) (.ref ca.Full) = some false
 i_NoNumber_Lacking:PySem.W.kitOne K (.ref ca.NoNumber) (.ref ca.Lacking) = some false
 m_NoNumber_Lacking:PySem.W.exmOne K (.ref ca.NoNumber) (.ref ca.Lacking) = some false
 i_NoNumber_NoCask:PySem.W.kitOne K (.ref ca.NoNumber) (.ref ca.NoCask) = some false
 m_NoNumber_NoCask:PySem.W.exmOne K (.ref ca.NoNumber) (.ref ca.NoCask) = some false
 i_NoNumber_NoChange:PySem.W.kitOne K (.ref ca.NoNumber) (.ref ca.NoChange) = some false
 m_NoNumber_NoChange:PySem.W.exmOne K (.ref ca.NoNumber) (.ref ca.NoChange) = some false
 i_NoNumber_NoDeed:PySem.W.kitOne K (.ref ca.NoNumber) (.ref ca.NoDeed) = some false
 m_NoNumber_NoDeed:PySem.W.exmOne K (.ref ca.NoNumber) (.ref ca.NoDeed) = some false
 i_NoNumber_NoNumber:PySem.W.kitOne K (.ref ca.NoNumber) (.ref ca.NoNumber) = some true
 m_NoNumber_NoNumber:PySem.W.exmOne K (.ref ca.NoNumber) (.ref ca.NoNumber) = some true
 i_NoNumber_NoPlace:PySem.W.kitOne K (.ref ca.NoNumber) (.ref ca.NoPlace) = some false
 m_NoNumber_NoPlace:PySem.W.exmOne K (.ref ca.NoNumber) (.ref ca.NoPlace) = some false
 i_NoNumber_NotSteady:PySem.W.kitOne K (.ref ca.NoNumber) (.ref ca.NotSteady) = some false
 m_NoNumber_NotSteady:PySem.W.exmOne K (.ref ca.NoNumber) (.ref ca.NotSteady) = some false
 i_NoNumber_Tied:PySem.W.kitOne K (.ref ca.NoNumber) (.ref ca.Tied) = some false
 m_NoNumber_Tied:PySem.W.exmOne K (.ref ca.NoNumber) (.ref ca.Tied) = some false
 i_NoNumber_TierError:PySem.W.kitOne K (.ref ca.NoNumber) (.ref ca.TierError) = some true
 m_NoNumber_TierError:PySem.W.exmOne K (.ref ca.NoNumber) (.ref ca.TierError) = some true
 v_NoNumber:PySem.W.kitOne K (.ref ca.NoNumber) (.type "ValueError") = some true
 e_NoPlace:PySem.W.excIn K ca.NoPlace [.type "ValueError",.type "Exception",.type "BaseException",.type "object"] "ValueError.__new__" = true
 x_NoPlace:ExcK K ca.NoPlace
 i_NoPlace_Full:PySem.W.kitOne K (.ref ca.NoPlace) (.ref ca.Full) = some false
 m_NoPlace_Full:PySem.W.exmOne K (.ref ca.NoPlace) (.ref ca.Full) = some false
 i_NoPlace_Lacking:PySem.W.kitOne K (.ref ca.NoPlace) (.ref ca.Lacking) = some false
 m_NoPlace_Lacking:PySem.W.exmOne K (.ref ca.NoPlace) (.ref ca.Lacking) = some false
 i_NoPlace_NoCask:PySem.W.kitOne K (.ref ca.NoPlace) (.ref ca.NoCask) = some false
 m_NoPlace_NoCask:PySem.W.exmOne K (.ref ca.NoPlace) (.ref ca.NoCask) = some false
 i_NoPlace_NoChange:PySem.W.kitOne K (.ref ca.NoPlace) (.ref ca.NoChange) = some false
 m_NoPlace_NoChange:PySem.W.exmOne K (.ref ca.NoPlace) (.ref ca.NoChange) = some false
 i_NoPlace_NoDeed:PySem.W.kitOne K (.ref ca.NoPlace) (.ref ca.NoDeed) = some false
 m_NoPlace_NoDeed:PySem.W.exmOne K (.ref ca.NoPlace) (.ref ca.NoDeed) = some false
 i_NoPlace_NoNumber:PySem.W.kitOne K (.ref ca.NoPlace) (.ref ca.NoNumber) = some false
 m_NoPlace_NoNumber:PySem.W.exmOne K (.ref ca.NoPlace) (.ref ca.NoNumber) = some false
 i_NoPlace_NoPlace:PySem.W.kitOne K (.ref ca.NoPlace) (.ref ca.NoPlace) = some true
 m_NoPlace_NoPlace:PySem.W.exmOne K (.ref ca.NoPlace) (.ref ca.NoPlace) = some true
 i_NoPlace_NotSteady:PySem.W.kitOne K (.ref ca.NoPlace) (.ref ca.NotSteady) = some false
 m_NoPlace_NotSteady:PySem.W.exmOne K (.ref ca.NoPlace) (.ref ca.NotSteady) = some false
 i_NoPlace_Tied:PySem.W.kitOne K (.ref ca.NoPlace) (.ref ca.Tied) = some false
 m_NoPlace_Tied:PySem.W.exmOne K (.ref ca.NoPlace) (.ref ca.Tied) = some false
 i_NoPlace_TierError:PySem.W.kitOne K (.ref ca.NoPlace) (.ref ca.TierError) = some true
 m_NoPlace_TierError:PySem.W.exmOne K (.ref ca.NoPlace) (.ref ca.TierError) = some true
 v_NoPlace:PySem.W.kitOne K (.ref ca.NoPlace) (.type "ValueError") = some true
structure RowAt (H:Hp) (kvs:List (Key × V)) (f:Str->Option Rat):Prop where
 nodup:(kvs.map (·.1)).Nodup
 keys:∀ kv ∈ kvs,∃ z,kv.1 = .inr z
 has:∀ z r,f z = .some r->∃ v,valV kvs (.inr z) = .some v /\ FrV H v r
 not:∀ z,f z = .none->valV kvs (.inr z) = .none
theorem RowAt.same {H H':Hp} {kvs:List (Key × V)} {f:Str->Option Rat} (h:RowAt H kvs f) (s:∀ v r,FrV H v r->FrV H' v r):RowAt H' kvs f :=
 ⟨h.nodup,h.keys,fun z r e=>(let ⟨v,a,b⟩:=h.has z r e; ⟨v,a,s v r b⟩),h.not⟩
theorem RowAt.nil (H:Hp):RowAt H [] fun _=>.none:=⟨List.nodup_nil,(fun _ z=>nomatch z),(fun _ _ e=>nomatch e),fun _ _=>rfl⟩
theorem keys_put (kvs:List (Key × V)) (k:Key) (v:V):(putK kvs k v).map (·.1) = if (kvs.any fun kv=>decide (kv.1 = k)) = true then kvs.map (·.1) else kvs.map (·.1) ++ [k]:=by
 unfold putK
 split
 ·rw [List.map_map]
  apply List.map_congr_left
  intro kv _
  show (if kv.1 = k then (kv.1,v) else kv).1 = kv.1
  split <;> rfl
 ·rw [List.map_append]; rfl
theorem RowAt.put {H:Hp} {kvs:List (Key × V)} {f:Str->Option Rat} (h:RowAt H kvs f) {z:Str} {v:V} {r:Rat} (hv:FrV H v r):RowAt H (putK kvs (.inr z) v) fun y=>if y = z then .some r else f y:=by
 refine ⟨?_,?_,fun y q e=>?_,fun y e=>?_⟩
 ·rw [keys_put]
  split
  ·exact h.nodup
  ·rename_i hn
   refine List.nodup_append.mpr ⟨h.nodup,by simp,fun a ha b hb e=>hn ?_⟩
   have hb:=List.mem_singleton.mp hb
   subst hb
   obtain ⟨kv,hk,ek⟩:=List.mem_map.mp ha
   exact List.any_eq_true.mpr ⟨kv,hk,decide_eq_true (ek.trans e)⟩
 ·intro kv hkv
  have:kv.1 ∈ (putK kvs (.inr z) v).map (·.1):=List.mem_map.mpr ⟨kv,hkv,rfl⟩
  rw [keys_put] at this
  split at this
  ·obtain ⟨kw,h1,h2⟩:=List.mem_map.mp this
   rw [<- h2]; exact h.keys kw h1
  ·rcases List.mem_append.mp this with q | q
   ·obtain ⟨kw,h1,h2⟩:=List.mem_map.mp q
    rw [<- h2]; exact h.keys kw h1
   ·exact ⟨z,List.mem_singleton.mp q⟩
 ·rw [valV_put]
  by_cases ey:y = z
  ·subst ey
   rw [if_pos rfl] at e ⊢
   cases e
   exact ⟨v,rfl,hv⟩
  ·rw [if_neg ey] at e
   rw [if_neg fun q=>ey (Sum.inr.inj q)]
   exact h.has y q e
 ·rw [valV_put]
  by_cases ey:y = z
  ·subst ey; rw [if_pos rfl] at e; cases e
  ·rw [if_neg ey] at e
   rw [if_neg fun q=>ey (Sum.inr.inj q)]
   exact h.not y e
noncomputable def nmz:Key->Str
 | .inr z=>z
 | .inl _=>""
noncomputable def nms (ks:List (Key × V)):List Str:=ks.map fun kv=>nmz kv.1
theorem valV_get:∀ {ks:List (Key × V)},(ks.map (·.1)).Nodup->∀ {i:Nat} {p:Key × V},ks[i]? = .some p->valV ks p.1 = .some p.2
 | [],_,_,_,e=>by simp at e
 | q :: qs,hn,0,p,e=>by
  simp at e; subst e
  unfold valV
  rw [List.find?_cons_of_pos (by simp)]; rfl
 | q :: qs,hn,i + 1,p,e=>by
  have e':qs[i]? = .some p:=by simpa using e
  rw [List.map_cons,List.nodup_cons] at hn
  have ne:q.1 ≠ p.1:=fun z=>hn.1 (by rw [z]; exact List.mem_map.mpr ⟨p,List.mem_of_getElem? e',rfl⟩)
  have ih:=valV_get hn.2 e'
  unfold valV at ih ⊢
  rw [List.find?_cons_of_neg (by simp [ne])]; exact ih
theorem nms_mem {ks:List (Key × V)} {z:Str} {v:V} (h:valV ks (.inr z) = .some v):z ∈ nms ks:=by
 unfold valV at h
 cases q:ks.find? fun kv=>decide (kv.1 = .inr z) with
 | none=>rw [q] at h; cases h
 | some kv =>
  have h1:=List.mem_of_find?_eq_some q
  have h2:=List.find?_some q
  refine List.mem_map.mpr ⟨kv,h1,?_⟩
  rw [of_decide_eq_true h2]; rfl
theorem _root_.Tc.FrV.tup {H H':Hp} {v:V} {r:Rat} (h:FrV H v r) (s:∀ a xs,H a = some (.tup xs)->H' a = some (.tup xs)):FrV H' v r:=let ⟨a,e,h⟩:=h; ⟨a,e,s _ _ h⟩
theorem tup_of {H:Hp} {p:Addr} {u o:HO} (hp:H p = some u) (hu:∀ xs,u ≠ .tup xs):∀ a ys,H a = some (.tup ys)->upd H p o a = some (.tup ys):=fun a ys e=>by
 rw [upd_ne (ne_of e hp (fun z=>hu ys z.symm))]; exact e
theorem nms_nodup {kvs:List (Key × V)} (h:(kvs.map (·.1)).Nodup) (hk:∀ kv ∈ kvs,∃ z,kv.1 = .inr z):(nms kvs).Nodup:=by
 unfold nms List.Nodup
 unfold List.Nodup at h
 rw [List.pairwise_map] at h ⊢
 refine List.Pairwise.imp_of_mem (fun {a b} ha hb hab e=>hab ?_) h
 obtain ⟨x,hx⟩:=hk a ha
 obtain ⟨y,hy⟩:=hk b hb
 rw [hx,hy] at e ⊢
 have e:x = y:=e
 rw [e]
theorem nms_len (kvs:List (Key × V)):(nms kvs).length = kvs.length:=List.length_map ..
theorem RowAt.iff {H:Hp} {kvs:List (Key × V)} {g:Str->Option Rat} (h:RowAt H kvs g) (z:Str):z ∈ nms kvs ↔ (g z).isSome = true:=by
 constructor
 ·intro q
  obtain ⟨kvi,hm,ez⟩:=List.mem_map.mp q
  obtain ⟨y,hy⟩:=h.keys kvi hm
  obtain ⟨j,hj,ej⟩:=List.getElem_of_mem hm
  have hval:=valV_get h.nodup (i:=j) (p:=kvi) (by rw [List.getElem?_eq_getElem hj,ej])
  have eyz:y = z:=by rw [hy] at ez; exact ez
  rw [hy,eyz] at hval
  cases q2:g z with
  | none=>rw [h.not z q2] at hval; cases hval
  | some r=>rfl
 ·intro q
  obtain ⟨r,hr⟩:=Option.isSome_iff_exists.mp q
  obtain ⟨v,h1,_⟩:=h.has z r hr
  exact nms_mem h1
inductive Stp where
 | br (z:Str) (yr:Int) (x:Str) (q:Rat)
 | ps (x y:Str) (t:Rat)
noncomputable abbrev Lay (z:Str):Prop:=(PyData.str z).canLay0 = true
theorem _root_.Tc.IsM.bd {P k n:Nat} {r:Rat} (hP:0 < P) (hk:1 <= k) (hb:k * P < 2 ^ n) (h:IsM P k r):Bd n r:=by
 obtain ⟨m,hm,rfl⟩:=h.eq hP
 refine Bd.divInt (by lia) ?_ ?_
 ·show m < 2 ^ n
  lia
 ·show P < 2 ^ n
  have:=Nat.mul_le_mul_right P hk
  lia
theorem _root_.Tc.Bd.share {t:Rat} (h0:0 <= t) (h1:t <= 1) (hd:t.den < 2 ^ 40):Bd 50 t /\ Bd 50 (1 - t):=by
 have a:=(IsM.one 1).mulL h0 h1
 have b:=(IsM.one 1).mulR h0 h1
 rw [Rat.one_mul,Nat.one_mul] at a b
 have hb:1 * t.den < 2 ^ 50:=Nat.lt_of_lt_of_le (by lia) (pow_le (m:=40) (by decide))
 exact ⟨a.bd t.den_pos (Nat.le_refl _) hb,b.bd t.den_pos (Nat.le_refl _) hb⟩
noncomputable def StV (H:Hp) (v:V):Stp->Prop
 | .br z yr x q=>∃ a l f,v = .ref a /\ H a = some (.tup [.str "bring",.ref l,.str x,f]) /\ H l = some (.tup [.str z,.int yr]) /\ FrV H f q
 | .ps x y t=>∃ a f,v = .ref a /\ H a = some (.tup [.str "pass",.str x,.str y,f]) /\ FrV H f t
theorem StV.tup {H H':Hp} (s:∀ a xs,H a = some (.tup xs)->H' a = some (.tup xs)):∀ {v:V} {st:Stp},StV H v st->StV H' v st
 | _,.br _ _ _ _,⟨a,l,f,e,h1,h2,h3⟩=>⟨a,l,f,e,s _ _ h1,s _ _ h2,h3.tup s⟩
 | _,.ps _ _ _,⟨a,f,e,h1,h3⟩=>⟨a,f,e,s _ _ h1,h3.tup s⟩
theorem StV.same {H H':Hp} {v:V} {st:Stp} (h:StV H v st) (s:Same H H'):StV H' v st:=h.tup fun _ _ e=>s _ _ e
theorem steps_same {H H':Hp} {xs:List V} {ss:List Stp} (h:Paired (StV H) xs ss) (s:Same H H'):Paired (StV H') xs ss:=Paired.mapP h fun _ _ f=>f.same s
theorem _root_.Tc.IsM.mono {P k j:Nat} {r:Rat} (h:IsM P k r) (hk:k <= j):IsM P j r:=by
 obtain ⟨a,m,b,c⟩:=h
 exact ⟨a,m,Nat.le_trans b (Nat.mul_le_mul_right _ hk),c⟩
theorem repT {K:PySem.W.Frag} {H:Hp} {a:Addr} {vs:List V} {xs:List PyData} (h:SqT K H a vs) (r:RepDs K H xs vs):RepD K H (.tuple xs) (.ref a):=by simp only [RepD]; exact ⟨a,vs,rfl,h,r⟩
theorem repL {K:PySem.W.Frag} {H:Hp} {a:Addr} {vs:List V} {xs:List PyData} (h:SqL K H a vs) (r:RepDs K H xs vs):RepD K H (.list xs) (.ref a):=by simp only [RepD]; exact ⟨a,vs,rfl,h,r⟩
theorem reps0 {K:PySem.W.Frag} {H:Hp}:RepDs K H [] []:=by simp [RepDs]
theorem repsC {K:PySem.W.Frag} {H:Hp} {d:PyData} {v:V} {ds:List PyData} {vs:List V} (h:RepD K H d v) (r:RepDs K H ds vs):RepDs K H (d :: ds) (v :: vs):=by simp only [RepDs]; exact ⟨_,_,rfl,h,r⟩
theorem repS {K:PySem.W.Frag} {H:Hp} {z:Str} (h:Lay z):RepD K H (.str z) (.str z):=by rw [RepD]; exact ⟨rfl,h⟩
theorem repI {K:PySem.W.Frag} {H:Hp} {i:Int}:RepD K H (.int i) (.int i):=by rw [RepD]
inductive Plc where
 | ck (z:Str) (r:Rat)
 | sk (z:Str)
noncomputable def nmP:Plc->Str
 | .ck z _=>z
 | .sk z=>z
noncomputable def isC:Plc->Bool
 | .ck _ _=>true
 | .sk _=>false
noncomputable def kd (b:Bool):Str:=if b then "cask" else "sink"
noncomputable def PlV (H:Hp) (v:V):Plc->Prop
 | .ck z r=>∃ a f,v = .ref a /\ H a = some (.tup [.str "cask",.str z,f]) /\ FrV H f r
 | .sk z=>∃ a,v = .ref a /\ H a = some (.tup [.str "sink",.str z])
theorem PlV.tup {H H':Hp} (s:∀ a xs,H a = some (.tup xs)->H' a = some (.tup xs)):∀ {v:V} {p:Plc},PlV H v p->PlV H' v p
 | _,.ck _ _,⟨a,f,e,h1,h2⟩=>⟨a,f,e,s _ _ h1,h2.tup s⟩
 | _,.sk _,⟨a,e,h1⟩=>⟨a,e,s _ _ h1⟩
theorem PlV.same {H H':Hp} {v:V} {p:Plc} (h:PlV H v p) (s:Same H H'):PlV H' v p:=h.tup fun _ _ e=>s _ _ e
theorem PlV.at {H:Hp}:∀ {v:V} {p:Plc},PlV H v p->∃ a ys,v = .ref a /\ H a = some (.tup ys) /\ atI ys 0 = some (.str (kd (isC p))) /\ atI ys 1 = some (.str (nmP p))
 | _,.ck _ _,⟨a,f,e,h1,h2⟩=>⟨a,_,e,h1,rfl,rfl⟩
 | _,.sk _,⟨a,e,h1⟩=>⟨a,_,e,h1,rfl,rfl⟩
theorem house_same {H H':Hp} {xs:List V} {ps:List Plc} (h:Paired (PlV H) xs ps) (s:Same H H'):Paired (PlV H') xs ps:=Paired.mapP h fun _ _ f=>f.same s
noncomputable def allN (ps:List Plc):List Str:=ps.map nmP
noncomputable def ckN (ps:List Plc):List Str:=(ps.filter isC).map nmP
structure HouseOk (ps:List Plc):Prop where
 nd:(allN ps).Nodup
 lay:∀ z ∈ allN ps,Lay z
 len:ps.length <= 8
theorem ck_sub {ps:List Plc} {z:Str} (h:z ∈ ckN ps):z ∈ allN ps:=by
 obtain ⟨p,hp,e⟩:=List.mem_map.mp h
 exact List.mem_map.mpr ⟨p,(List.mem_filter.mp hp).1,e⟩
theorem HouseOk.ck {ps:List Plc} (h:HouseOk ps):(ckN ps).Nodup:=h.nd.sublist (List.filter_sublist.map nmP)
theorem ck_len {ps:List Plc}:(ckN ps).length <= ps.length:=by
 unfold ckN
 rw [List.length_map]
 exact List.length_filter_le _ _
noncomputable def all (L:List Str) (f:Str->Rat):Str->Option Rat:=fun z=>if z ∈ L then some (f z) else none
theorem all_snoc (L:List Str) (f:Str->Rat) (n:Str):all (L ++ [n]) f = fun y=>if y = n then some (f n) else all L f y:=by
 funext y
 unfold all
 by_cases e:y = n
 ·subst e; simp
 ·simp [e]
theorem all_nil (f:Str->Rat):all [] f = fun _=>none:=by funext z; simp [all]
theorem take_one {α:Type} {L:List α} {i:Nat} {n:α} (h:L[i]? = some n):L.take (i + 1) = L.take i ++ [n]:=by rw [List.take_add_one,h]; rfl
noncomputable def Szd (i:Nat) (r:Rat):Prop:=IsM (30000 * 60 ^ i) (2 ^ (60 + i)) r
theorem szP (i:Nat):0 < 30000 * 60 ^ i:=Nat.mul_pos (by decide) (Nat.pow_pos (by decide))
theorem szK {i:Nat} (h:i <= 30):2 ^ (60 + i) * (30000 * 60 ^ i) < 2 ^ 400:=by
 have h1:2 ^ (60 + i) <= 2 ^ 90:=pow_le (by lia)
 have h2:(60:Nat) ^ i <= 60 ^ 30:=Nat.pow_le_pow_right (by decide) h
 have h3:=Nat.mul_le_mul h1 (Nat.mul_le_mul_left 30000 h2)
 exact Nat.lt_of_le_of_lt h3 (by decide)
theorem Szd.bd {i:Nat} {r:Rat} (h:Szd i r) (hi:i <= 30):Bd 400 r:=_root_.Tc.IsM.bd (szP i) Nat.one_le_two_pow (szK hi) h
theorem Szd.nn {i:Nat} {r:Rat} (h:Szd i r):0 <= r:=h.1
theorem Szd.up {i j:Nat} {r:Rat} (h:Szd i r) (hij:i <= j):Szd j r:=by
 have h1:=(IsM.up h (60 ^ (j - i))).mono (j:=2 ^ (60 + j)) (pow_le (by lia))
 have e:30000 * 60 ^ i * 60 ^ (j - i) = 30000 * 60 ^ j:=by
  rw [Nat.mul_assoc,<- Nat.pow_add]
  congr 2
  lia
 rw [e] at h1
 exact h1
theorem Szd.add {i:Nat} {r q:Rat} (h:Szd i r) (g:Szd i q):Szd (i + 1) (r + q):=by
 have h1:=(IsM.add h g).up 60
 have e1:2 ^ (60 + i) + 2 ^ (60 + i) = 2 ^ (60 + (i + 1)):=by
  rw [show 60 + (i + 1) = (60 + i) + 1 from rfl,Nat.pow_succ]; lia
 have e2:30000 * 60 ^ i * 60 = 30000 * 60 ^ (i + 1):=by rw [Nat.mul_assoc,<- Nat.pow_succ]
 rw [e1,e2] at h1
 exact h1
theorem isM_sub {P k j:Nat} {r q:Rat} (h:IsM P k r) (g:IsM P j q) (hq:q <= r):IsM P k (r - q):=by
 obtain ⟨h0,m,hm,e⟩:=h
 obtain ⟨g0,n,hn,f⟩:=g
 have hle:q * (P:Rat) <= r * (P:Rat):=Rat.mul_le_mul_of_nonneg_right hq Rat.natCast_nonneg
 rw [e,f] at hle
 have hnm:n <= m:=Rat.natCast_le_natCast.mp hle
 obtain ⟨d,rfl⟩:=Nat.exists_eq_add_of_le hnm
 refine ⟨by grind,d,by lia,?_⟩
 rw [Rat.natCast_add] at e
 grind
theorem Szd.sub {i:Nat} {r q:Rat} (h:Szd i r) (g:Szd i q) (hq:q <= r):Szd i (r - q):=isM_sub h g hq
theorem Szd.part {i:Nat} {r q:Rat} (h:Szd i r) (h0:0 <= q) (h1:q <= 1) (hd:q.den ∣ 60):Szd (i + 1) (r * q):=by
 obtain ⟨c,hc⟩:=hd
 have g:=((IsM.mulL h h0 h1).up c).mono (j:=2 ^ (60 + (i + 1))) (pow_le (by lia))
 have e2:30000 * 60 ^ i * q.den * c = 30000 * 60 ^ (i + 1):=by
  rw [Nat.mul_assoc,<- hc,Nat.mul_assoc,<- Nat.pow_succ]
 rw [e2] at g
 exact g
theorem Szd.over {i:Nat} {r q:Rat} (h:Szd i r) (g:Szd i q) (hq:q ≠ 0) (hi:i <= 30):Bd 400 (r / q):=by
 obtain ⟨m,hm,e⟩:=IsM.eq (szP i) h
 obtain ⟨n,hn,f⟩:=IsM.eq (szP i) g
 have hK:=szK hi
 have hn0:n ≠ 0:=by
  rintro rfl
  apply hq
  rw [f,Rat.divInt_eq_div]
  have:(((0:Nat):Int):Rat) = 0:=rfl
  rw [this]
  grind
 have e2:r / q = Rat.divInt m n:=by
  rw [e,f,Rat.divInt_eq_div,Rat.divInt_eq_div,Rat.divInt_eq_div,Rat.intCast_natCast,Rat.intCast_natCast,Rat.intCast_natCast]
  have:=natne (szP i)
  have:=natne (show 0 < n by lia)
  grind
 rw [e2]
 exact Bd.divInt (by lia) (show m < 2 ^ 400 by lia) (show n < 2 ^ 400 by lia)
theorem Szd.amt {t b:Int} (h0:0 <= t) (h1:t <= 1000000000000) (b0:1 <= b) (b1:b <= 4):Szd 0 (Rat.divInt t b):=by
 obtain ⟨m,rfl⟩:=Int.eq_ofNat_of_zero_le h0
 have key:∀ (c k:Nat),b = (c:Nat)->c * k = 30000->Szd 0 (Rat.divInt (m:Nat) b):=by
  intro c k e hck
  subst e
  have hc:0 < c:=by lia
  have hk:k <= 30000:=by
   have:=Nat.le_mul_of_pos_left k hc
   lia
  refine ⟨Rat.divInt_nonneg (by lia) (by lia),m * k,?_,?_⟩
  ·have hm:m <= 1000000000000:=by lia
   have:=Nat.mul_le_mul hm hk
   refine Nat.le_trans this ?_
   decide
  ·have e1:((30000 * 60 ^ 0:Nat):Rat) = (c:Rat) * (k:Rat):=by rw [<- Rat.natCast_mul,hck]
   rw [e1,Rat.divInt_eq_div,Rat.intCast_natCast,Rat.intCast_natCast,Rat.natCast_mul]
   have:=natne hc
   grind
 have:b = 1 \/ b = 2 \/ b = 3 \/ b = 4:=by lia
 rcases this with e | e | e | e
 ·exact key 1 30000 e rfl
 ·exact key 2 15000 e rfl
 ·exact key 3 10000 e rfl
 ·exact key 4 7500 e rfl
theorem all_put {L:List Str} {t:Str->Rat} {x:Str} {r:Rat} (hx:x ∈ L):(fun y=>if y = x then some r else all L t y) = all L (fun z=>if z = x then r else t z):=by
 funext y
 unfold all
 by_cases e:y = x
 ·subst e; simp [hx]
 ·simp [e]
theorem divInt_one (t:Int):Rat.divInt t 1 = (t:Rat):=by rw [Rat.divInt_eq_div]; grind
theorem szd_10k (k:Nat) (h:k <= 1000):Szd 0 ((k:Rat) / 10000):=by
 refine ⟨?_,k * 3,?_,?_⟩
 ·have:(0:Rat) <= (k:Rat):=Rat.natCast_nonneg
  grind
 ·exact Nat.le_trans (Nat.mul_le_mul_right 3 h) (by decide)
 ·have e1:((30000 * 60 ^ 0:Nat):Rat) = 30000:=rfl
  have e2:((3:Nat):Rat) = 3:=rfl
  rw [e1,Rat.natCast_mul,e2]
  grind
noncomputable def Rm (r:Rat):Prop:=Szd 0 r /\ 1 / 4 <= r
theorem Rm.amt {t b:Int} (h0:1 <= t) (h1:t <= 1000000000000) (b0:1 <= b) (b1:b <= 4):Rm (Rat.divInt t b):=by
 refine ⟨Szd.amt (by lia) h1 b0 b1,?_⟩
 rw [Rat.divInt_eq_div]
 have ht:(1:Rat) <= (t:Rat):=by exact_mod_cast h0
 have:b = 1 \/ b = 2 \/ b = 3 \/ b = 4:=by lia
 rcases this with rfl | rfl | rfl | rfl
 ·have:((1:Int):Rat) = 1:=rfl
  rw [this]; grind
 ·have:((2:Int):Rat) = 2:=rfl
  rw [this]; grind
 ·have:((3:Int):Rat) = 3:=rfl
  rw [this]; grind
 ·have:((4:Int):Rat) = 4:=rfl
  rw [this]; grind
noncomputable def rmF:List Plc->Str->Option Rat
 | [],_=>none
 | .ck z r :: ps,y=>if y = z then some r else rmF ps y
 | .sk _ :: ps,y=>rmF ps y
theorem rmF_ck {z:Str} {r:Rat}:∀ {ps:List Plc},z ∉ allN ps->rmF (ps ++ [.ck z r]) = fun y=>if y = z then some r else rmF ps y
 | [],_=>by funext y; rfl
 | .ck z' r' :: ps,h=>by
  have h1:z ≠ z':=by rintro rfl; exact h List.mem_cons_self
  have ih:=rmF_ck (z:=z) (r:=r) (ps:=ps) fun q=>h (List.mem_cons_of_mem _ q)
  funext y
  show (if y = z' then some r' else rmF (ps ++ [.ck z r]) y) = if y = z then some r else if y = z' then some r' else rmF ps y
  rw [ih]
  by_cases e1:y = z'
  ·by_cases e2:y = z
   ·exact absurd (e2.symm.trans e1) h1
   ·rw [if_pos e1,if_neg e2,if_pos e1]
  ·rw [if_neg e1]
   show (if y = z then some r else rmF ps y) = _
   rw [if_neg e1]
 | .sk z' :: ps,h=>by
  have ih:=rmF_ck (z:=z) (r:=r) (ps:=ps) fun q=>h (List.mem_cons_of_mem _ q)
  funext y
  show rmF (ps ++ [.ck z r]) y = _
  rw [ih]; rfl
theorem rmF_sk {z:Str}:∀ {ps:List Plc},rmF (ps ++ [.sk z]) = rmF ps
 | []=>rfl
 | .ck z' r' :: ps=>by
  funext y
  show (if y = z' then some r' else rmF (ps ++ [.sk z]) y) = if y = z' then some r' else rmF ps y
  rw [rmF_sk]
 | .sk z' :: ps=>rmF_sk (ps:=ps)
theorem rmF_some {ps:List Plc} {z:Str}:z ∈ ckN ps->∃ r,rmF ps z = some r:=by
 induction ps with
 | nil=>intro h; cases h
 | cons p ps ih =>
  intro h
  cases p with
  | ck z' r' =>
   by_cases e:z = z'
   ·exact ⟨r',if_pos e⟩
   ·have h':z ∈ ckN ps:=by
     rcases List.mem_cons.mp (show z ∈ z' :: ckN ps from h) with q | q
     ·exact absurd q e
     ·exact q
    obtain ⟨r,hr⟩:=ih h'
    exact ⟨r,(if_neg e).trans hr⟩
  | sk z'=>exact ih h
theorem rmF_mem {ps:List Plc} {z:Str} {r:Rat}:rmF ps z = some r->z ∈ ckN ps /\ Plc.ck z r ∈ ps:=by
 induction ps with
 | nil=>intro h; cases h
 | cons p ps ih =>
  intro h
  cases p with
  | ck z' r' =>
   by_cases e:z = z'
   ·subst e
    have h:some r' = some r:=(if_pos rfl).symm.trans h
    cases h
    exact ⟨List.mem_cons_self,List.mem_cons_self⟩
   ·have h:rmF ps z = some r:=(if_neg e).symm.trans h
    obtain ⟨h1,h2⟩:=ih h
    exact ⟨List.mem_cons_of_mem _ h1,List.mem_cons_of_mem _ h2⟩
  | sk z' =>
   obtain ⟨h1,h2⟩:=ih h
   exact ⟨h1,List.mem_cons_of_mem _ h2⟩
noncomputable def RoomsOk (ps:List Plc):Prop:=∀ z r,Plc.ck z r ∈ ps->Szd 0 r
noncomputable def spRooms (K:PySem.W.Frag):Sp:=fun vs H Q _=>∃ (a:Addr) (xs:List V) (ps:List Plc),vs = [.ref a] /\ SqL K H a xs /\ Paired (PlV H) xs ps /\ HouseOk ps /\ ∀ p H' kv,H p = none->Same H H'->H' p = some (.dK kv)->RowAt H' kv (rmF ps)->Q (.ref p) H'
inductive Dd where
 | br (z x:Str) (r:Rat)
 | pt (x y:Str) (q:Rat)
 | al (x y:Str)
 | fl (x y:Str)
 | mv (x y:Str) (r:Rat)
 | yr
noncomputable def DdV (H:Hp) (v:V):Dd->Prop
 | .br z x r=>∃ a f,v = .ref a /\ H a = some (.tup [.str "bring",.str z,.str x,f]) /\ FrV H f r
 | .pt x y r=>∃ a f,v = .ref a /\ H a = some (.tup [.str "part",.str x,.str y,f]) /\ FrV H f r
 | .al x y=>∃ a,v = .ref a /\ H a = some (.tup [.str "all",.str x,.str y])
 | .fl x y=>∃ a,v = .ref a /\ H a = some (.tup [.str "fill",.str x,.str y])
 | .mv x y r=>∃ a f,v = .ref a /\ H a = some (.tup [.str "move",.str x,.str y,f]) /\ FrV H f r
 | .yr=>∃ a,v = .ref a /\ H a = some (.tup [.str "year"])
theorem DdV.tup {H H':Hp} (s:∀ a xs,H a = some (.tup xs)->H' a = some (.tup xs)):∀ {v:V} {d:Dd},DdV H v d->DdV H' v d
 | _,.br _ _ _,⟨a,f,e,h1,h3⟩=>⟨a,f,e,s _ _ h1,h3.tup s⟩
 | _,.pt _ _ _,⟨a,f,e,h1,h3⟩=>⟨a,f,e,s _ _ h1,h3.tup s⟩
 | _,.al _ _,⟨a,e,h1⟩=>⟨a,e,s _ _ h1⟩
 | _,.fl _ _,⟨a,e,h1⟩=>⟨a,e,s _ _ h1⟩
 | _,.mv _ _ _,⟨a,f,e,h1,h3⟩=>⟨a,f,e,s _ _ h1,h3.tup s⟩
 | _,.yr,⟨a,e,h1⟩=>⟨a,e,s _ _ h1⟩
theorem DdV.same {H H':Hp} {v:V} {d:Dd} (h:DdV H v d) (s:Same H H'):DdV H' v d:=h.tup fun _ _ e=>s _ _ e
noncomputable def OkD (ps:List Plc):Dd->Prop
 | .br z x r=>x ∈ ckN ps /\ Lay z /\ Szd 0 r
 | .pt x y q=>x ∈ ckN ps /\ y ∈ allN ps /\ x ≠ y /\ 0 <= q /\ q <= 1 /\ q.den ∣ 60
 | .al x y=>x ∈ ckN ps /\ y ∈ allN ps /\ x ≠ y
 | .fl x y=>x ∈ ckN ps /\ y ∈ ckN ps /\ x ≠ y
 | .mv x y r=>x ∈ ckN ps /\ y ∈ allN ps /\ x ≠ y /\ Szd 0 r
 | .yr=>True
noncomputable def gsD (ps:List Plc) (t:Str->Rat):Dd->Rat
 | .br _ _ r=>r
 | .pt x _ q=>t x * q
 | .al x _=>t x
 | .fl _ y=>(rmF ps y).getD 0 - t y
 | .mv _ _ r=>r
 | .yr=>0
noncomputable def GoD (ps:List Plc) (t:Str->Rat):Dd->Prop
 | .br _ x r=>∀ m,rmF ps x = some m->t x + r <= m
 | .pt x y q=>t x * q <= t x /\ ∀ m,rmF ps y = some m->t y + t x * q <= m
 | .al x y=>∀ m,rmF ps y = some m->t y + t x <= m
 | .fl x y=>(rmF ps y).getD 0 - t y <= t x
 | .mv x y r=>r <= t x /\ ∀ m,rmF ps y = some m->t y + r <= m
 | .yr=>True
noncomputable def mvT (x y:Str) (g:Rat) (t:Str->Rat):Str->Rat:=fun z=>if z = x then t x - g else if z = y then t y + g else t z
noncomputable def adT (x:Str) (g:Rat) (t:Str->Rat):Str->Rat:=fun z=>if z = x then t x + g else t z
noncomputable def ptT (ps:List Plc) (t:Str->Rat):Dd->(Str->Rat)
 | .br _ x r=>adT x r t
 | .pt x y q=>mvT x y (t x * q) t
 | .al x y=>mvT x y (t x) t
 | .fl x y=>mvT x y ((rmF ps y).getD 0 - t y) t
 | .mv x y r=>mvT x y r t
 | .yr=>t
noncomputable def stD (ps:List Plc) (t:Str->Rat) (n:Int):Dd->List Stp
 | .br z x r=>[.br z n x r]
 | .pt x y q=>[.ps x y q]
 | .al x y=>[.ps x y 1]
 | .fl x y=>[.ps x y (((rmF ps y).getD 0 - t y) / t x)]
 | .mv x y r=>[.ps x y (r / t x)]
 | .yr=>[]
noncomputable def yrD:Dd->Int
 | .yr=>1
 | _=>0
set_option genInjectivity false in
structure Run where
 t:Str->Rat
 n:Int
 ss:List Stp
noncomputable def advD (ps:List Plc) (s:Run) (d:Dd):Run:=⟨ptT ps s.t d,s.n + yrD d,s.ss ++ stD ps s.t s.n d⟩
noncomputable def run (ps:List Plc) (t0:Str->Rat) (n:Int) (ds:List Dd):Run:=ds.foldl (advD ps) ⟨t0,n,[]⟩
theorem run_snoc (ps:List Plc) (t0:Str->Rat) (n:Int) (ds:List Dd) (d:Dd):run ps t0 n (ds ++ [d]) = advD ps (run ps t0 n ds) d:=by
 unfold run; rw [List.foldl_append]; rfl
structure InT (ps:List Plc) (t:Str->Rat) (i:Nat):Prop where
 sz:∀ z ∈ allN ps,Szd i (t z)
 rm:∀ z m,rmF ps z = some m->t z <= m
theorem InT.rmS {ps:List Plc} {t:Str->Rat} {i:Nat} (h:InT ps t i) (hr:RoomsOk ps) {y:Str} (hy:y ∈ ckN ps):Szd i ((rmF ps y).getD 0 - t y) /\ ∃ m,rmF ps y = some m /\ Szd 0 m /\ t y <= m:=by
 obtain ⟨m,hm⟩:=rmF_some hy
 have hs:=hr y m (rmF_mem hm).2
 rw [hm]
 exact ⟨(hs.up (Nat.zero_le _)).sub (h.sz y (ck_sub hy)) (h.rm y m hm),m,rfl,hs,h.rm y m hm⟩
theorem InT.mv {ps:List Plc} {t:Str->Rat} {i:Nat} (h:InT ps t i) {x y:Str} {g:Rat} (hx:x ∈ allN ps) (hy:y ∈ allN ps) (hg:Szd (i + 1) g) (hle:g <= t x) (hroom:∀ m,rmF ps y = some m->t y + g <= m):InT ps (mvT x y g t) (i + 2):=by
 refine ⟨fun z hz=>?_,fun z m e=>?_⟩
 ·unfold mvT
  split
  ·exact (((h.sz x hx).up (by lia)).sub hg hle).up (by lia)
  ·split
   ·exact ((h.sz y hy).up (by lia)).add hg
   ·exact (h.sz z hz).up (by lia)
 ·unfold mvT
  split
  ·rename_i e1
   have:=h.rm x m (e1 ▸ e)
   have:=hg.nn
   grind
  ·split
   ·rename_i e2
    exact hroom m (e2 ▸ e)
   ·exact h.rm z m e
theorem InT.put {ps:List Plc} {t:Str->Rat} {i:Nat} (h:InT ps t i) (hr:RoomsOk ps):∀ {d:Dd},OkD ps d->GoD ps t d->InT ps (ptT ps t d) (i + 2)
 | .br z x r,ok,go=>by
  refine ⟨fun y hy=>?_,fun y m e=>?_⟩
  ·show Szd (i + 2) (if y = x then t x + r else t y)
   split
   ·exact ((h.sz x (ck_sub ok.1)).add (ok.2.2.up (Nat.zero_le _))).up (by lia)
   ·exact (h.sz y hy).up (by lia)
  ·show (if y = x then t x + r else t y) <= m
   split
   ·rename_i e1
    exact go m (e1 ▸ e)
   ·exact h.rm y m e
 | .pt x y q,ok,go=>by
  have hg:=(h.sz x (ck_sub ok.1)).part ok.2.2.2.1 ok.2.2.2.2.1 ok.2.2.2.2.2
  exact h.mv (ck_sub ok.1) ok.2.1 hg go.1 go.2
 | .al x y,ok,go=>by
  have hg:=(h.sz x (ck_sub ok.1)).up (show i <= i + 1 by lia)
  exact h.mv (ck_sub ok.1) ok.2.1 hg Rat.le_refl go
 | .fl x y,ok,go=>by
  obtain ⟨h1,m,hm,hs,hle⟩:=h.rmS hr ok.2.1
  refine h.mv (ck_sub ok.1) (ck_sub ok.2.1) (h1.up (by lia)) go fun m' e=>?_
  rw [hm] at e ⊢
  cases e
  show t y + (m - t y) <= m
  grind
 | .mv x y r,ok,go=>h.mv (ck_sub ok.1) ok.2.1 (ok.2.2.2.up (Nat.zero_le _)) go.1 go.2
 | .yr,_,_=>⟨fun z hz=>(h.sz z hz).up (by lia),h.rm⟩
noncomputable def Goes (ps:List Plc) (t0:Str->Rat) (n:Int) (ds:List Dd):Prop:=∀ i d,ds[i]? = some d->OkD ps d /\ GoD ps (run ps t0 n (ds.take i)).t d
theorem Goes.inT {ps:List Plc} {t0:Str->Rat} {n:Int} {ds:List Dd} (hr:RoomsOk ps) (h0:InT ps t0 0) (h:Goes ps t0 n ds):∀ i,i <= ds.length->InT ps (run ps t0 n (ds.take i)).t (2 * i)
 | 0,_=>h0
 | i + 1,hi=>by
  have ih:=Goes.inT hr h0 h i (by lia)
  have hd:ds[i]? = some ds[i]:=List.getElem?_eq_getElem (by lia)
  obtain ⟨ok,go⟩:=h i _ hd
  rw [take_one hd,run_snoc]
  exact ih.put hr ok go
theorem share_back {g u:Rat} (h0:0 <= g) (h1:g <= u):u * (g / u) = g:=by
 by_cases e:u = 0
 ·subst e
  have:g = 0:=by grind
  subst this
  exact Rat.zero_mul _
 ·grind
theorem all_at {L:List Str} {t:Str->Rat} {x:Str} (hx:x ∈ L):all L t x = some (t x):=if_pos hx
theorem RowAt.get {H:Hp} {kv:List (Key × V)} {L:List Str} {t:Str->Rat} (h:RowAt H kv (all L t)) {x:Str} (hx:x ∈ L):∃ v,valV kv (.inr x) = some v /\ FrV H v (t x):=h.has x (t x) (all_at hx)
theorem RowAt.lenO {H:Hp} {kvs:List (Key × V)} {f:Str->Option Rat} {L:List Str} (h:RowAt H kvs f) (hf:∀ z,(f z).isSome = true->z ∈ L):kvs.length <= L.length:=by
 rw [<- nms_len]
 exact nodup_len (nms_nodup h.nodup h.keys) fun z hz=>hf z ((h.iff z).mp hz)
theorem all_sub {L:List Str} {t:Str->Rat} {z:Str} (h:(all L t z).isSome = true):z ∈ L:=by
 unfold all at h
 split at h
 ·assumption
 ·cases h
theorem rm_sub {ps:List Plc} {z:Str} (h:(rmF ps z).isSome = true):z ∈ allN ps:=by
 obtain ⟨r,hr⟩:=Option.isSome_iff_exists.mp h
 exact ck_sub (rmF_mem hr).1
theorem not_take {α:Type} {L:List α} (nd:L.Nodup) {i:Nat} {n:α} (hi:L[i]? = some n):n ∉ L.take i:=fun h=>by
 obtain ⟨j,hj,ej⟩:=List.getElem_of_mem h
 have hji:j < i:=by rw [List.length_take] at hj; lia
 have hil:i < L.length:=(List.getElem?_eq_some_iff.mp hi).1
 rw [List.getElem_take] at ej
 have ei:=(List.getElem?_eq_some_iff.mp hi).2
 exact List.pairwise_iff_getElem.mp nd j i (by lia) hil hji (ej.trans ei.symm)
theorem allN_take {ps:List Plc} (h:HouseOk ps) {i:Nat} {p:Plc} (hi:ps[i]? = some p):nmP p ∉ allN (ps.take i):=by
 have e:allN (ps.take i) = (allN ps).take i:=List.map_take ..
 rw [e]
 refine not_take h.nd ?_
 unfold allN
 rw [List.getElem?_map,hi]; rfl
noncomputable def isP:Dd->Bool
 | .br _ _ _=>false
 | .yr=>false
 | _=>true
noncomputable def frD:Dd->Str
 | .br _ x _=>x
 | .pt x _ _=>x
 | .al x _=>x
 | .fl x _=>x
 | .mv x _ _=>x
 | .yr=>""
noncomputable def toD:Dd->Str
 | .br _ x _=>x
 | .pt _ y _=>y
 | .al _ y=>y
 | .fl _ y=>y
 | .mv _ y _=>y
 | .yr=>""
noncomputable def shD (ps:List Plc) (t:Str->Rat):Dd->Rat
 | .pt _ _ q=>q
 | .al _ _=>1
 | .fl x y=>((rmF ps y).getD 0 - t y) / t x
 | .mv x _ r=>r / t x
 | _=>0
noncomputable def kdD:Dd->Str
 | .br _ _ _=>"bring"
 | .pt _ _ _=>"part"
 | .al _ _=>"all"
 | .fl _ _=>"fill"
 | .mv _ _ _=>"move"
 | .yr=>"year"
structure PsD (ps:List Plc) (t:Str->Rat) (i:Nat) (d:Dd):Prop where
 x:frD d ∈ ckN ps
 y:toD d ∈ allN ps
 ne:frD d ≠ toD d
 g:Szd (i + 1) (gsD ps t d)
 le:gsD ps t d <= t (frD d)
 rm:∀ m,rmF ps (toD d) = some m->t (toD d) + gsD ps t d <= m
 sh:t (frD d) * shD ps t d = gsD ps t d
 b:Bd 400 (shD ps t d)
 pt:ptT ps t d = mvT (frD d) (toD d) (gsD ps t d) t
 st:∀ n,stD ps t n d = [.ps (frD d) (toD d) (shD ps t d)]
theorem bd01 {q:Rat} (h0:0 <= q) (h1:q <= 1) (hd:q.den ∣ 60):Bd 400 q:=by
 have hle:=Nat.le_of_dvd (by decide) hd
 exact ((Bd.share h0 h1 (Nat.lt_of_le_of_lt hle (by decide))).1).mono (by decide)
theorem PsD.of {ps:List Plc} {t:Str->Rat} {i:Nat} (h:InT ps t i) (hr:RoomsOk ps) (hi:i <= 28):∀ {d:Dd},isP d = true->OkD ps d->GoD ps t d->PsD ps t i d
 | .pt x y q,_,ok,go =>
  { x:=ok.1,y:=ok.2.1,ne:=ok.2.2.1,g:=(h.sz x (ck_sub ok.1)).part ok.2.2.2.1 ok.2.2.2.2.1 ok.2.2.2.2.2,le:=go.1,rm:=go.2,sh:=rfl,b:=bd01 ok.2.2.2.1 ok.2.2.2.2.1 ok.2.2.2.2.2,pt:=rfl,st:=fun _=>rfl }
 | .al x y,_,ok,go =>
  { x:=ok.1,y:=ok.2.1,ne:=ok.2.2,g:=(h.sz x (ck_sub ok.1)).up (by lia),le:=Rat.le_refl,rm:=go,sh:=Rat.mul_one _,b:=(show Bd 400 (1:Rat) from ⟨by decide,by decide⟩),pt:=rfl,st:=fun _=>rfl }
 | .fl x y,_,ok,go=>by
  obtain ⟨h1,m,hm,hs,hle⟩:=h.rmS hr ok.2.1
  have hx:=h.sz x (ck_sub ok.1)
  refine { x:=ok.1,y:=ck_sub ok.2.1,ne:=ok.2.2,g:=h1.up (by lia),le:=go,rm:=fun m' e=>?_,sh:=share_back h1.nn go,b:=?_,pt:=rfl,st:=fun _=>rfl }
  ·have e:rmF ps y = some m':=e
   rw [hm] at e
   cases e
   show t y + ((rmF ps y).getD 0 - t y) <= m
   rw [hm]
   show t y + (m - t y) <= m
   grind
  ·show Bd 400 (((rmF ps y).getD 0 - t y) / t x)
   by_cases e:t x = 0
   ·rw [e,Rat.div_def]
    have:(0:Rat)⁻¹ = 0:=Rat.inv_zero
    rw [this,Rat.mul_zero]
    exact ⟨by decide,by decide⟩
   ·exact h1.over hx e (by lia)
 | .mv x y r,_,ok,go=>by
  have hx:=h.sz x (ck_sub ok.1)
  have h1:Szd i r:=ok.2.2.2.up (Nat.zero_le _)
  refine { x:=ok.1,y:=ok.2.1,ne:=ok.2.2.1,g:=h1.up (by lia),le:=go.1,rm:=go.2,sh:=share_back h1.nn go.1,b:=?_,pt:=rfl,st:=fun _=>rfl }
  show Bd 400 (r / t x)
  by_cases e:t x = 0
  ·rw [e,Rat.div_def]
   have:(0:Rat)⁻¹ = 0:=Rat.inv_zero
   rw [this,Rat.mul_zero]
   exact ⟨by decide,by decide⟩
  ·exact h1.over hx e (by lia)
theorem DdV.pass {H:Hp}:∀ {v:V} {d:Dd},DdV H v d->d ≠ .yr->∃ a ys,v = .ref a /\ H a = some (.tup ys) /\ atI ys 0 = some (.str (kdD d)) /\ (isP d = true->atI ys 1 = some (.str (frD d))) /\ atI ys 2 = some (.str (toD d))
 | _,.br _ _ _,⟨a,f,e,h1,_⟩,_=>⟨a,_,e,h1,rfl,(fun z=>nomatch z),rfl⟩
 | _,.pt _ _ _,⟨a,f,e,h1,_⟩,_=>⟨a,_,e,h1,rfl,fun _=>rfl,rfl⟩
 | _,.al _ _,⟨a,e,h1⟩,_=>⟨a,_,e,h1,rfl,fun _=>rfl,rfl⟩
 | _,.fl _ _,⟨a,e,h1⟩,_=>⟨a,_,e,h1,rfl,fun _=>rfl,rfl⟩
 | _,.mv _ _ _,⟨a,f,e,h1,_⟩,_=>⟨a,_,e,h1,rfl,fun _=>rfl,rfl⟩
 | _,.yr,_,z=>absurd rfl z
theorem DdV.kd {H:Hp}:∀ {v:V} {d:Dd},DdV H v d->∃ a ys,v = .ref a /\ H a = some (.tup ys) /\ atI ys 0 = some (.str (kdD d))
 | _,.br _ _ _,⟨a,f,e,h1,_⟩=>⟨a,_,e,h1,rfl⟩
 | _,.pt _ _ _,⟨a,f,e,h1,_⟩=>⟨a,_,e,h1,rfl⟩
 | _,.al _ _,⟨a,e,h1⟩=>⟨a,_,e,h1,rfl⟩
 | _,.fl _ _,⟨a,e,h1⟩=>⟨a,_,e,h1,rfl⟩
 | _,.mv _ _ _,⟨a,f,e,h1,_⟩=>⟨a,_,e,h1,rfl⟩
 | _,.yr,⟨a,e,h1⟩=>⟨a,_,e,h1,rfl⟩
theorem kd_br {d:Dd}:(V.str (kdD d) = V.str "bring") ↔ (isP d = false /\ d ≠ .yr):=by
 cases d <;> simp [kdD,isP] <;> decide +kernel
theorem kd_yr {d:Dd}:(V.str (kdD d) = V.str "year") ↔ d = .yr:=by
 cases d <;> simp [kdD] <;> decide +kernel
structure Hs (H:Hp) (ps:List Plc) (t:Str->Rat) (pt pr:Addr) (kvt kvr:List (Key × V)):Prop where
 dt:H pt = some (.dK kvt)
 rt:RowAt H kvt (all (allN ps) t)
 dr:H pr = some (.dK kvr)
 rr:RowAt H kvr (rmF ps)
theorem Hs.same {H H':Hp} {ps:List Plc} {t:Str->Rat} {pt pr:Addr} {kvt kvr:List (Key × V)} (h:Hs H ps t pt pr kvt kvr) (s:Same H H'):Hs H' ps t pt pr kvt kvr:=⟨s _ _ h.dt,h.rt.same fun _ _ f=>f.same s,s _ _ h.dr,h.rr.same fun _ _ f=>f.same s⟩
theorem Hs.tot {H:Hp} {ps:List Plc} {t:Str->Rat} {pt pr:Addr} {kvt kvr:List (Key × V)} (h:Hs H ps t pt pr kvt kvr) {z:Str} (hz:z ∈ allN ps):∃ v,DGet H pt (.str z) (some v) /\ FrV H v (t z):=by
 obtain ⟨v,e,f⟩:=h.rt.get hz
 refine ⟨v,?_,f⟩
 have g:=DGet.k (k:=.inr z) h.dt
 rw [e] at g; exact g
theorem Hs.room {H:Hp} {ps:List Plc} {t:Str->Rat} {pt pr:Addr} {kvt kvr:List (Key × V)} (h:Hs H ps t pt pr kvt kvr) {z:Str} {m:Rat} (hz:rmF ps z = some m):∃ v,DGet H pr (.str z) (some v) /\ FrV H v m:=by
 obtain ⟨v,e,f⟩:=h.rr.has z m hz
 refine ⟨v,?_,f⟩
 have g:=DGet.k (k:=.inr z) h.dr
 rw [e] at g; exact g
noncomputable def spCheck:Sp:=fun vs H Q _=>∃ (z:Str) (v:V) (n:Int) (ps:List Plc) (t:Str->Rat) (pt pr:Addr) (kvt kvr:List (Key × V)) (g:Rat),vs = [.str z,v,.int n,.ref pt,.ref pr] /\ Hs H ps t pt pr kvt kvr /\ z ∈ allN ps /\ FrV H v g /\ Bd 2000 g /\ Bd 2000 (t z) /\ (∀ m,rmF ps z = some m->Bd 2000 m /\ t z + g <= m) /\ ∀ H',Same H H'->Q .non H'
noncomputable def spShareOf:Sp:=fun vs H Q _=>∃ (v:V) (d:Dd) (n:Int) (ps:List Plc) (t:Str->Rat) (pt pr:Addr) (kvt kvr:List (Key × V)) (i:Nat),vs = [v,.int n,.ref pt,.ref pr] /\ Hs H ps t pt pr kvt kvr /\ DdV H v d /\ isP d = true /\ OkD ps d /\ GoD ps t d /\ InT ps t i /\ i <= 28 /\ RoomsOk ps /\ ∀ w H',Same H H'->FrV H' w (shD ps t d)->Q w H'
noncomputable def spStepOf:Sp:=fun vs H Q _=>∃ (v:V) (d:Dd) (n yr:Int) (ps:List Plc) (t:Str->Rat) (pt pr:Addr) (kvt kvr:List (Key × V)) (i:Nat),vs = [v,.int n,.int yr,.ref pt,.ref pr] /\ Hs H ps t pt pr kvt kvr /\ DdV H v d /\ d ≠ .yr /\ OkD ps d /\ GoD ps t d /\ InT ps t i /\ i <= 28 /\ RoomsOk ps /\ ∀ w H' s,Same H H'->StV H' w s->stD ps t yr d = [s]->Q w H'
noncomputable def adS (t:Str->Rat):Stp->(Str->Rat)
 | .br _ _ x r=>adT x r t
 | .ps x y q=>mvT x y (t x * q) t
noncomputable def FitS (L:List Str) (t:Str->Rat):Stp->Prop
 | .br _ _ x r=>x ∈ L /\ Bd 2000 (t x) /\ Bd 2000 r
 | .ps x y q=>x ∈ L /\ y ∈ L /\ x ≠ y /\ Bd 2000 (t x) /\ Bd 2000 (t y) /\ Bd 2000 q /\ Bd 2000 (t x * q)
noncomputable def spAddStep:Sp:=fun vs H Q _=>∃ (pt:Addr) (w:V) (s:Stp) (kv:List (Key × V)) (L:List Str) (t:Str->Rat),vs = [.ref pt,w] /\ H pt = some (.dK kv) /\ RowAt H kv (all L t) /\ L.length <= 8 /\ StV H w s /\ FitS L t s /\
 ∀ H' kv',(∀ c o,H c = some o->c ≠ pt->H' c = some o)->H' pt = some (.dK kv')->RowAt H' kv' (all L (adS t s))->Q .non H'
noncomputable def spStepsOf (K:PySem.W.Frag):Sp:=fun vs H Q _=>∃ (ah pt:Addr) (n:Int) (ad:Addr) (xs:List V) (ps:List Plc) (kvt:List (Key × V)) (ys:List V) (ds:List Dd) (t0:Str->Rat),vs = [.ref ah,.ref pt,.int n,.ref ad] /\ SqL K H ah xs /\ Paired (PlV H) xs ps /\ HouseOk ps /\ RoomsOk ps /\ H pt = some (.dK kvt) /\ RowAt H kvt (all (allN ps) t0) /\ SqL K H ad ys /\ Paired (DdV H) ys ds /\ Goes ps t0 n ds /\ InT ps t0 0 /\ ds.length <= 12 /\
 ∀ a p q H' ws kv,Same H H'->H' a = some (.tup [.ref p,.ref q])->H p = none->H q = none->H' p = some (.lst ws)->Paired (StV H') ws (run ps t0 n ds).ss->H' q = some (.dK kv)->RowAt H' kv (all (allN ps) (run ps t0 n ds).t)->Q (.ref a) H'
noncomputable def Nm (z:Str):Prop:=z.length <= 8 /\ z ≠ Str.ofString "A"
noncomputable def spMixed2:Sp:=fun vs H Q _=>∃ c j:Int,vs = [.int c,.int j] /\ (0 <= j /\ j <= 100) /\ ∀ m:Int,0 <= m->Q (.int m) H
noncomputable def spLow:Sp:=fun vs H Q _=>∃ t b:Int,vs = [.int t,.int b] /\ 0 < b /\ b.natAbs < 2 ^ 9000 /\ ∀ v H',Same H H'->FrV H' v (Rat.divInt t b)->Q v H'
noncomputable def spNm (n:Nat):Sp:=fun vs H Q _=>∃ (c:Int) (m:Nat),vs = [.int c,.int (m:Nat)] /\ m <= n /\ ∀ a H' (L:List Str),H a = none->Same H H'->H' a = some (.lst (L.map V.str))->L.length = m->L.Nodup->(∀ z ∈ L,Lay z)->(∀ z ∈ L,Nm z)->Q (.ref a) H'
theorem lt97:∀ j ∈ List.range 26,LT.cps.toList[j]? = some (97 + j):=by decide +kernel
theorem lt_at {i:Int} (h:0 <= i /\ i < 26):atI LT.cps.toList i = some (97 + i.toNat):=by
 obtain ⟨j,rfl⟩:=Int.eq_ofNat_of_zero_le h.1
 exact atI_nat (lt97 j (List.mem_range.mpr (by lia)))
noncomputable def nmc (bs:List Int) (at':Int) (k j:Nat):Nat:=97 + ((bs.getD j 0 + 3 * (k:Int) * (if decide (V.int (j:Nat) = V.int at') = true then 1 else 0)).fmod 26).toNat
noncomputable def nmw (bs:List Int) (at':Int) (k j:Nat):Str:=⟨((List.range j).map (nmc bs at' k)).toArray⟩
theorem nmw_succ (bs:List Int) (at':Int) (k j:Nat):nmw bs at' k j ++ one1 (nmc bs at' k j) = nmw bs at' k (j + 1):=by
 unfold nmw
 rw [List.range_succ,List.map_append]
 show (⟨((List.range j).map (nmc bs at' k)).toArray ++ #[nmc bs at' k j]⟩:Str) = _
 simp
theorem nmw_len (bs:List Int) (at':Int) (k j:Nat):(nmw bs at' k j).length = j:=by
 show (((List.range j).map (nmc bs at' k)).toArray).size = j
 simp
theorem nmw_lay (bs:List Int) (at':Int) (k j:Nat):Lay (nmw bs at' k j):=by
 show (PyData.str _).canLay0 = true
 simp only [PyData.canLay0,PyData.strOk,nmw]
 simp only [Array.all_eq_true,decide_eq_true_eq]
 intro i hi
 simp
 unfold nmc
 have:=fmod_lt (c:=bs.getD i 0 + 3 * (k:Int) * (if decide (V.int (i:Nat) = V.int at') = true then 1 else 0)) (m:=26) (by decide)
 lia
theorem nmw_inj {bs:List Int} {a n:Nat} (ha:a < n) {k k':Nat} (hk:k < 8) (hk':k' < 8) (e:nmw bs (a:Nat) k n = nmw bs (a:Nat) k' n):k = k':=by
 have e1:(List.range n).map (nmc bs (a:Nat) k) = (List.range n).map (nmc bs (a:Nat) k'):=by
  have:=congrArg (fun z:Str=>z.cps.toList) e
  simpa [nmw] using this
 have e2:nmc bs (a:Nat) k a = nmc bs (a:Nat) k' a:=by
  have h1:=congrArg (fun l:List Nat=>l[a]?) e1
  simpa [ha] using h1
 unfold nmc at e2
 rw [decide_eq_true rfl,if_pos rfl,Int.mul_one,Int.mul_one] at e2
 have q1:=fmod_lt (c:=bs.getD a 0 + 3 * (k:Int)) (m:=26) (by decide)
 have q2:=fmod_lt (c:=bs.getD a 0 + 3 * (k':Int)) (m:=26) (by decide)
 rw [Int.fmod_eq_emod_of_nonneg _ (by decide)] at q1 q2
 rw [Int.fmod_eq_emod_of_nonneg _ (by decide),Int.fmod_eq_emod_of_nonneg _ (by decide)] at e2
 lia
theorem nmw_nodup {bs:List Int} {a n:Nat} (ha:a < n) {m:Nat} (hm:m <= 8):((List.range m).map fun k=>nmw bs (a:Nat) k n).Nodup:=by
 unfold List.Nodup
 rw [List.pairwise_map]
 refine List.Pairwise.imp_of_mem (fun {x y} hx hy hxy e=>hxy ?_) (List.nodup_range (n:=m))
 exact nmw_inj ha (by have:=List.mem_range.mp hx; lia) (by have:=List.mem_range.mp hy; lia) e
theorem getD_map_at {bs:List Int} {j:Nat} (hj:j < bs.length):atI (bs.map V.int) (0 + (j:Int)) = some (V.int (bs.getD j 0)):=by
 rw [Int.zero_add]
 refine atI_nat ?_
 rw [List.getElem?_map,List.getElem?_eq_getElem hj,List.getD_eq_getElem?_getD,List.getElem?_eq_getElem hj]
 rfl
theorem nmw_nm (bs:List Int) (at':Int) (k:Nat) {j:Nat} (h:j <= 8):Nm (nmw bs at' k j):=by
 refine ⟨by rw [nmw_len]; exact h,fun e=>?_⟩
 have e1:(Str.ofString "A").cps.toList = [65]:=by decide +kernel
 have e2:=congrArg (fun z:Str=>z.cps.toList) e
 rw [e1] at e2
 have e3:(List.range j).map (nmc bs at' k) = [65]:=by simpa [nmw] using e2
 have h1:65 ∈ (List.range j).map (nmc bs at' k):=by rw [e3]; exact List.mem_singleton.mpr rfl
 obtain ⟨i,_,hi⟩:=List.mem_map.mp h1
 unfold nmc at hi
 lia
noncomputable def RoomsR (ps:List Plc):Prop:=∀ z r,Plc.ck z r ∈ ps->Rm r
theorem RoomsR.ok {ps:List Plc} (h:RoomsR ps):RoomsOk ps:=fun z r e=>(h z r e).1
noncomputable def skN (ps:List Plc):List Str:=(ps.filter fun p=>isC p == false).map nmP
theorem house52 {L:List Str} (nm:∀ z ∈ L,Nm z) {cs sk:List Plc} {m j:Nat} (hj:1 <= j) (hL:m + j <= L.length) (ec:allN cs = L.take m) (es:allN sk = (L.drop m).take j) (is:∀ p ∈ sk,isC p = false) (ro:RoomsR cs) :
  (RoomsR (cs ++ sk) /\ (∀ z ∈ allN (cs ++ sk),Nm z) /\ 1 <= (skN (cs ++ sk)).length) /\ RoomsR (sk ++ cs) /\ (∀ z ∈ allN (sk ++ cs),Nm z) /\ 1 <= (skN (sk ++ cs)).length:=by
 have c1:∀ z ∈ allN cs,Nm z:=fun z hz=>by rw [ec] at hz; exact nm z (List.mem_of_mem_take hz)
 have c2:∀ z ∈ allN sk,Nm z:=fun z hz=>by rw [es] at hz; exact nm z (List.mem_of_mem_drop (List.mem_of_mem_take hz))
 have ls:sk.length = j:=by
  have:=congrArg List.length es
  unfold allN at this
  rw [List.length_map,List.length_take,List.length_drop] at this
  lia
 have fs:sk.filter (fun p=>isC p == false) = sk:=List.filter_eq_self.mpr fun p hp=>by rw [is p hp]; rfl
 have rr:∀ {z:Str} {r:Rat},Plc.ck z r ∈ cs \/ Plc.ck z r ∈ sk->Rm r:=fun {z r} h=>by
  rcases h with h | h
  ·exact ro z r h
  ·have:=is _ h
   cases this
 have nn:∀ {z:Str},z ∈ allN cs \/ z ∈ allN sk->Nm z:=fun {z} h=>h.elim (c1 z) (c2 z)
 refine ⟨⟨fun z r h=>rr (List.mem_append.mp h),fun z h=>nn ?_,?_⟩,fun z r h=>rr (List.mem_append.mp h).symm,fun z h=>nn ?_,?_⟩
 ·unfold allN at h ⊢; rw [List.map_append] at h; exact List.mem_append.mp h
 ·unfold skN; rw [List.filter_append,fs,List.length_map,List.length_append]; lia
 ·unfold allN at h ⊢; rw [List.map_append] at h; exact (List.mem_append.mp h).symm
 ·unfold skN; rw [List.filter_append,fs,List.length_map,List.length_append]; lia
noncomputable def spHouse:Sp:=fun vs H Q _=>∃ c:Int,vs = [.int c] /\ ∀ p H' xs ps,H p = none->Same H H'->H' p = some (.lst xs)->Paired (PlV H') xs ps->HouseOk ps->RoomsR ps->2 <= (ckN ps).length->(∀ z ∈ allN ps,Nm z)->1 <= (skN ps).length->Q (.ref p) H'
theorem house_mk {L:List Str} (nd:L.Nodup) (lay:∀ z ∈ L,Lay z) {cs sk:List Plc} {m j:Nat} (hm:2 <= m) (h8:m + j <= 8) (hL:m + j <= L.length) (ec:allN cs = L.take m) (es:allN sk = (L.drop m).take j) (ic:∀ p ∈ cs,isC p = true) (is:∀ p ∈ sk,isC p = false) (ro:RoomsOk cs) :
  (HouseOk (cs ++ sk) /\ RoomsOk (cs ++ sk) /\ 2 <= (ckN (cs ++ sk)).length) /\ (HouseOk (sk ++ cs) /\ RoomsOk (sk ++ cs) /\ 2 <= (ckN (sk ++ cs)).length):=by
 have e1:allN (cs ++ sk) = L.take (m + j):=by
  unfold allN at ec es ⊢
  rw [List.map_append,ec,es,List.take_add]
 have pm:(allN (sk ++ cs)).Perm (allN (cs ++ sk)):=by
  unfold allN
  rw [List.map_append,List.map_append]
  exact List.perm_append_comm
 have n1:(allN (cs ++ sk)).Nodup:=by rw [e1]; exact nd.sublist (List.take_sublist _ _)
 have l1:∀ z ∈ allN (cs ++ sk),Lay z:=fun z hz=>by rw [e1] at hz; exact lay z (List.mem_of_mem_take hz)
 have lc:cs.length = m:=by
  have:=congrArg List.length ec
  unfold allN at this
  rw [List.length_map,List.length_take] at this
  lia
 have ls:sk.length = j:=by
  have:=congrArg List.length es
  unfold allN at this
  rw [List.length_map,List.length_take,List.length_drop] at this
  lia
 have ro1:∀ {z:Str} {r:Rat},Plc.ck z r ∈ cs \/ Plc.ck z r ∈ sk->Szd 0 r:=fun {z r} h=>by
  rcases h with h | h
  ·exact ro z r h
  ·have:=is _ h
   cases this
 have fc:cs.filter isC = cs:=List.filter_eq_self.mpr ic
 have fs:sk.filter isC = []:=List.filter_eq_nil_iff.mpr fun p hp=>by rw [is p hp]; decide
 refine ⟨⟨⟨n1,l1,by rw [List.length_append]; lia⟩,fun z r h=>ro1 (List.mem_append.mp h),?_⟩,⟨⟨pm.nodup_iff.mpr n1,fun z hz=>l1 z (pm.mem_iff.mp hz),by rw [List.length_append]; lia⟩,fun z r h=>ro1 (List.mem_append.mp h).symm,?_⟩⟩
 ·unfold ckN
  rw [List.filter_append,fc,fs,List.append_nil,List.length_map,lc]; exact hm
 ·unfold ckN
  rw [List.filter_append,fc,fs,List.nil_append,List.length_map,lc]; exact hm
theorem pow12:(10:Int) ^ (12:Int).toNat = 1000000000000:=by decide
noncomputable def inL (c:Nat):Bool:=!(Builtin.Str.occurrences LT ⟨#[c]⟩ 0 LT.length 1).isEmpty
noncomputable def nm (z:Str):Bool:=decide (1 <= z.length /\ z.length <= 8) && z.cps.toList.all inL
noncomputable def spIsName:Sp:=fun vs H Q _=>∃ v n,vs = [v] /\ tyS H v = some n /\ (n ≠ "str"->Q (.bl false) H) /\ (∀ z,v = .str z->z.length <= 100 /\ ∀ H',Same H H'->Q (.bl (nm z)) H')
theorem str_of {H:Hp} {v:V} (h:tyS H v = some "str"):∃ z,v = .str z:=by
 cases v with
 | str z=>exact ⟨z,rfl⟩
 | ref a =>
  have h:tyH (H a) = some "str":=h
  rcases tyH_cases h with ⟨e,_⟩ | ⟨e,_⟩ | ⟨e,_⟩ <;> exact absurd e (by decide)
 | non=>exact absurd h (by simp [tyS])
 | bl b=>exact absurd h (by simp [tyS])
 | int x=>exact absurd h (by simp [tyS])
 | byt x=>exact absurd h (by simp [tyS])
 | flt x=>exact absurd h (by simp [tyS])
 | ty x=>exact absurd h (by simp [tyS])
theorem sub_str {n:String} (h:n ≠ "str"):subS n "str" = false:=by
 simp [subS,h]
noncomputable def TSame (H H':Hp):Prop:=∀ a xs,H a = some (.tup xs)->H' a = some (.tup xs)
theorem _root_.L2.Same.ts {H H':Hp} (s:Same H H'):TSame H H':=fun a _ h=>s a _ h
theorem at_0 (a:V) (r:List V):atI (a :: r) 0 = some a:=atI_nat (j:=0) rfl
theorem at_1 (a b:V) (r:List V):atI (a :: b :: r) 1 = some b:=atI_nat (j:=1) rfl
theorem ty_of {H:Hp} {a:Addr} {o:HO} {n:String} (h:H a = some o) (e:tyH (some o) = some n):tyS H (.ref a) = some n:=by
 show tyH (H a) = some n
 rw [h]; exact e
inductive Kd where
 | np | nc | nr
noncomputable def cl3 (a b c:Addr):Kd->Addr
 | .np=>a
 | .nc=>b
 | .nr=>c
noncomputable def jP (kd:Str->Option Str) (p:Str × Bool):Option Kd:=match kd p.1 with
 | none=>some .np
 | some k=>if p.2 = true /\ k = Str.ofString "sink" then some .nc else none
inductive Un where
 | pl (ps:List (Str × Bool)) | dd (r:Str) (ps:List Str)
noncomputable def twin:List (Str × Bool)->Bool
 | [a,b]=>decide (a.1 = b.1)
 | _=>false
noncomputable def jU (kd:Str->Option Str) (ah:Str->Option Nat):Un->Option Kd
 | .pl ps=>match ps.findSome? (jP kd) with
  | some k=>some k
  | none=>if twin ps = true then some .nc else none
 | .dd r ps=>match ah r with
  | none=>some .nr
  | some n=>if ps.length = n then ps.findSome? (fun p=>jP kd (p,false)) else some .nr
noncomputable def KdV (kv:List (Key × V)) (kd:Str->Option Str):Prop:=∀ x,valV kv (.inr x) = (kd x).map V.str
theorem jP_none {kd:Str->Option Str} {z:Str} {c:Bool} (e:kd z = none):jP kd (z,c) = some .np:=by
 show (match kd z with | none=>some Kd.np | some k=>if c = true /\ k = Str.ofString "sink" then some Kd.nc else none) = _
 rw [e]
theorem jP_some {kd:Str->Option Str} {z k:Str} {c:Bool} (e:kd z = some k):jP kd (z,c) = if c = true /\ k = Str.ofString "sink" then some Kd.nc else none:=by
 show (match kd z with | none=>some Kd.np | some k=>if c = true /\ k = Str.ofString "sink" then some Kd.nc else none) = _
 rw [e]
theorem jl {acc y:Str} {m n:Nat} (h1:acc.length <= m) (h2:y.length <= n):(acc ++ y).length <= m + n:=by rw [strLen_append]; lia
theorem je:Str.empty.length <= 0:=by decide
theorem twin_ne:∀ {ps:List (Str × Bool)},ps.length ≠ 2->twin ps = false
 | [],_=>rfl
 | [_],_=>rfl
 | [_,_],h=>absurd rfl h
 | _ :: _ :: _ :: _,_=>rfl
noncomputable def spCp (C:Kd->Addr):Sp:=fun vs H Q E=>∃ (z:Str) (kk:Addr) (c:Bool) (kv:List (Key × V)) (kd:Str->Option Str),vs = [.str z,.ref kk,.bl c] /\ H kk = some (.dK kv) /\ KdV kv kd /\ z.length <= 100 /\ (jP kd (z,c) = none->Q .non H) /\ ∀ k,jP kd (z,c) = some k->E (.ref (C k)) none H
theorem at_2' (a b c:V) (r:List V):atI (a :: b :: c :: r) 2 = some c:=atI_nat (j:=2) rfl
noncomputable def WtV (H:Hp) (t:V) (p:Str × Bool):Prop:=∃ a,t = V.ref a /\ H a = some (.tup [.str p.1,.bl p.2])
noncomputable def Pl8 (H:Hp) (v:V) (ps:List (Str × Bool)):Prop:=∃ a,v = V.ref a /\ ((H a = some (.tup [.str (Str.ofString "year")]) /\ ps = []) \/ (∃ n x q,H a = some (.tup [.str (Str.ofString "bring"),n,.str x,q]) /\ ps = [(x,true)]) \/
 ∃ w x y r,H a = some (.tup (.str w :: .str x :: .str y :: r)) /\ w ≠ Str.ofString "year" /\ w ≠ Str.ofString "bring" /\ w ≠ Str.ofString "times" /\ w ≠ Str.ofString "do" /\ ps = [(x,true),(y,decide (w = Str.ofString "fill"))])
theorem Pl8.ts {H H':Hp} {v:V} {ps:List (Str × Bool)} (s:TSame H H'):Pl8 H v ps->Pl8 H' v ps:=fun ⟨a,e,h⟩=>⟨a,e,by
 rcases h with ⟨h,e⟩ | ⟨n,x,q,h,e⟩ | ⟨w,x,y,r,h,e⟩
 ·exact .inl ⟨s _ _ h,e⟩
 ·exact .inr (.inl ⟨n,x,q,s _ _ h,e⟩)
 ·exact .inr (.inr ⟨w,x,y,r,s _ _ h,e⟩)⟩
noncomputable def spW8:Sp:=fun vs H Q _=>∃ (v:V) (ps:List (Str × Bool)),vs = [v] /\ Pl8 H v ps /\ ∀ l ts H',Same H H'->H' l = some (.lst ts)->Paired (WtV H') ts ps->Q (.ref l) H'
noncomputable def sh (ps:List (Str × Bool)):Prop:=∀ p ∈ ps,p.1.length <= 100
noncomputable def spCl (C:Kd->Addr):Sp:=fun vs H Q E=>∃ (v:V) (kk:Addr) (ps:List (Str × Bool)) (kv:List (Key × V)) (kd:Str->Option Str),vs = [v,.ref kk] /\ Pl8 H v ps /\ sh ps /\ H kk = some (.dK kv) /\ KdV kv kd /\ (jU kd (fun _=>none) (.pl ps) = none->∀ H',Same H H'->Q .non H') /\ ∀ k,jU kd (fun _=>none) (.pl ps) = some k->∀ H',Same H H'->E (.ref (C k)) none H'
noncomputable def PcV (H:Hp) (v:V) (p:Str × Str):Prop:=∃ a r,v = V.ref a /\ H a = some (.tup (.str p.2 :: .str p.1 :: r))
noncomputable def lk {α:Type}:List (Str × α)->Str->Option α
 | [],_=>none
 | p :: ps,z=>match lk ps z with
  | some k=>some k
  | none=>if z = p.1 then some p.2 else none
theorem lk_snoc {α:Type} (ps:List (Str × α)) (p:Str × α) (z:Str):lk (ps ++ [p]) z = if z = p.1 then some p.2 else lk ps z:=by
 induction ps with
 | nil =>
  show (match lk [] z with | some k=>some k | none=>if z = p.1 then some p.2 else none) = _
  rfl
 | cons q ps ih =>
  show (match lk (ps ++ [p]) z with | some k=>some k | none=>if z = q.1 then some q.2 else none) = if z = p.1 then some p.2 else (match lk ps z with | some k=>some k | none=>if z = q.1 then some q.2 else none)
  rw [ih]
  by_cases e:z = p.1
  ·rw [if_pos e,if_pos e]
  ·rw [if_neg e,if_neg e]
noncomputable def spK8 (K:PySem.W.Frag):Sp:=fun vs H Q _=>∃ (a:Addr) (xs:List V) (ps:List (Str × Str)),vs = [.ref a] /\ H a = some (.lst xs) /\ Paired (PcV H) xs ps /\ ps.length <= 100 /\ ∀ p kv H',Same H H'->H p = none->H' p = some (.dK kv)->kv.length <= ps.length->KdV kv (lk ps)->Q (.ref p) H'
noncomputable def FrA (H:Hp) (v:V) (b:Bool):Prop:=(∃ n,tyS H v = some n /\ n ≠ "tuple" /\ b = false) \/ (∃ a x y,v = .ref a /\ H a = some (.tup [.int x,.int y]) /\ b = (decide (1 <= y) && decide (dv x y = 1))) \/ ∃ a p y,v = .ref a /\ H a = some (.tup [.bl p,y]) /\ b = false
noncomputable def spFrA (K:PySem.W.Frag):Sp:=fun vs H Q _=>∃ v b,vs = [v] /\ FrA H v b /\ Q (.bl b) H
theorem sub_tup {n:String} (h:n ≠ "tuple"):subS n "tuple" = false:=by
 simp [subS,h]
noncomputable def ms (kd:Str) (x y:Int):Bool:=decide (1 <= y) && decide (dv x y = 1) && (decide (0 <= x) && (if kd = Str.ofString "part" then decide (x <= y) else !decide (x = 0 /\ y = 1)))
noncomputable def MsV (H:Hp) (kd:Str) (v:V) (b:Bool):Prop:=(∃ n,tyS H v = some n /\ n ≠ "tuple" /\ b = false) \/ (∃ a x y,v = .ref a /\ H a = some (.tup [.int x,.int y]) /\ x.natAbs < 2 ^ 60 /\ y.natAbs < 2 ^ 60 /\ b = ms kd x y) \/ ∃ a p y,v = .ref a /\ H a = some (.tup [.bl p,y]) /\ b = false
noncomputable def spMs:Sp:=fun vs H Q _=>∃ kd v b,vs = [.str kd,v] /\ MsV H kd v b /\ ∀ H',Same H H'->Q (.bl b) H'
theorem sealH {P F:Hp->Prop} {Hb:Hp} (s:F Hb) (body:∀ Hn,F Hn->P Hn):P Hb:=body Hb s
theorem ln0 (x:V) (r:List V):¬ V.int (((x :: r).length:Nat):Int) = V.int 0:=fun e=>by
 have:=V.int.inj e
 rw [List.length_cons] at this
 lia
noncomputable abbrev lens:List (Str × Int):=[("bring",4),("move",4),("part",4),("all",3),("fill",3),("year",1)]
noncomputable def isS:V->Bool
 | .str _=>true
 | _=>false
noncomputable def nmV:V->Bool
 | .str z=>nm z
 | _=>false
noncomputable def HfV (H:Hp) (v:V) (b:Bool):Prop:=(∃ n,tyS H v = some n /\ n ≠ "tuple" /\ b = false) \/ ∃ a xs,v = .ref a /\ H a = some (.tup xs) /\ ((xs = [] /\ b = false) \/ (∃ x r n,xs = x :: r /\ tyS H x = some n /\ n ≠ "str" /\ b = false) \/
 (∃ w r,xs = .str w :: r /\ r.length <= 10 /\ lens.lookup w ≠ some ((r.length:Int) + 1) /\ b = false) \/
 ∃ w r bm,xs = .str w :: r /\ lens.lookup w = some ((r.length:Int) + 1) /\ (∀ x ∈ r.take 2,∃ n,tyS H x = some n /\ ∀ z,x = .str z->z.length <= 100) /\ (∀ x,r[2]? = some x->MsV H w x bm) /\
  b = ((if w = Str.ofString "bring" then nmV (r.getD 0 .non) else true) && (r.take 2).all isS && (if r.length = 3 then bm else true)))
noncomputable def spHf (K:PySem.W.Frag):Sp:=fun vs H Q _=>∃ v b,vs = [v] /\ HfV H v b /\ ∀ H',Same H H'->Q (.bl b) H'
theorem ix1 (x:V) (r:List V):¬ (HT.sIx (x :: r).length 0 (some 1) = 0 /\ HT.sIx (x :: r).length (x :: r).length (some 3) = (x :: r).length):=fun h=>by
 have e:HT.sIx (x :: r).length 0 (some ((1:Nat):Int)) = min 1 (x :: r).length:=HT.sIx_nat _ _ 1
 have h1:HT.sIx (x :: r).length 0 (some ((1:Nat):Int)) = 0:=h.1
 rw [e,List.length_cons] at h1
 lia
theorem cut13 (x:V) (r:List V):cutV (x :: r) (some 1) (some 3) = r.take 2:=by
 have e1:HT.sIx (x :: r).length 0 (some ((1:Nat):Int)) = min 1 (x :: r).length:=HT.sIx_nat _ _ 1
 have e3:HT.sIx (x :: r).length (x :: r).length (some ((3:Nat):Int)) = min 3 (x :: r).length:=HT.sIx_nat _ _ 3
 show ((x :: r).drop (HT.sIx (x :: r).length 0 (some ((1:Nat):Int)))).take (HT.sIx (x :: r).length (x :: r).length (some ((3:Nat):Int)) - HT.sIx (x :: r).length 0 (some ((1:Nat):Int))) = _
 rw [e1,e3,List.length_cons]
 match r with
 | []=>rfl
 | [_]=>rfl
 | a :: b :: t =>
  have h1:min 1 ((a :: b :: t).length + 1) = 1:=by rw [List.length_cons]; lia
  have h2:min 3 ((a :: b :: t).length + 1) = 3:=by rw [List.length_cons,List.length_cons]; lia
  rw [h1,h2]; rfl
theorem tyS_same {H H':Hp} {v:V} {n:String} (h:tyS H v = some n) (s:Same H H'):tyS H' v = some n:=by
 cases v with
 | ref a =>
  have h:tyH (H a) = some n:=h
  show tyH (H' a) = some n
  cases e:H a with
  | none=>rw [e] at h; cases h
  | some o=>rw [s _ _ e,<- e]; exact h
 | _=>exact h
theorem isS_sub {H:Hp} {x:V} {n:String} (h:tyS H x = some n):isS x = subS n "str":=by
 cases x with
 | ref a =>
  have h:tyH (H a) = some n:=h
  rcases tyH_cases h with ⟨rfl,_⟩ | ⟨rfl,_⟩ | ⟨rfl,_⟩ <;> rfl
 | _=>first | (cases h; done) | (cases h; rfl)
theorem lens_le {w:Str} {n:Nat} (h:lens.lookup w = some ((n:Int) + 1)):n <= 3:=by
 have key:∀ (l:List (Str × Int)),(∀ p ∈ l,p.2 <= 4)->∀ m,l.lookup w = some m->m <= 4:=by
  intro l
  induction l with
  | nil=>intro _ m h; cases h
  | cons p l ih =>
   intro hp m h
   rw [List.lookup_cons] at h
   split at h
   ·cases h; exact hp p (List.mem_cons_self ..)
   ·exact ih (fun q hq=>hp q (List.mem_cons_of_mem _ hq)) m h
 have:=key lens (by decide) _ h
 lia
theorem MsV.same {H H':Hp} {kd:Str} {v:V} {b:Bool} (h:MsV H kd v b) (s:Same H H'):MsV H' kd v b:=by
 rcases h with ⟨n,h1,h2⟩ | ⟨a,x,y,h1,h2,h3⟩ | ⟨a,p,y,h1,h2,h3⟩
 ·exact .inl ⟨n,tyS_same h1 s,h2⟩
 ·exact .inr (.inl ⟨a,x,y,h1,s _ _ h2,h3⟩)
 ·exact .inr (.inr ⟨a,p,y,h1,s _ _ h2,h3⟩)
theorem HfV.same {H H':Hp} {v:V} {b:Bool} (h:HfV H v b) (s:Same H H'):HfV H' v b:=by
 rcases h with ⟨n,h1,h2⟩ | ⟨a,xs,h1,h2,h3⟩
 ·exact .inl ⟨n,tyS_same h1 s,h2⟩
 ·refine .inr ⟨a,xs,h1,s _ _ h2,?_⟩
  rcases h3 with h3 | ⟨x,r,n,h3,h4,h5⟩ | h3 | ⟨w,r,bm,h3,h4,h5,h6,h7⟩
  ·exact .inl h3
  ·exact .inr (.inl ⟨x,r,n,h3,tyS_same h4 s,h5⟩)
  ·exact .inr (.inr (.inl h3))
  ·exact .inr (.inr (.inr ⟨w,r,bm,h3,h4,fun x hx=>let ⟨n,z1,z2⟩:=h5 x hx; ⟨n,tyS_same z1 s,z2⟩,fun x hx=>(h6 x hx).same s,h7⟩))
noncomputable def spCkd (C:Addr):Sp:=fun vs H Q E=>∃ (v:V) (kk:Addr) (b:Bool),vs = [v,.ref kk] /\ HfV H v b /\ (b = false->∀ H',Same H H'->E (.ref C) none H') /\
 (b = true->∃ ps kv kd,Pl8 H v ps /\ sh ps /\ H kk = some (.dK kv) /\ KdV kv kd /\ (jU kd (fun _=>none) (.pl ps) = none->∀ H',Same H H'->Q .non H') /\ ∀ k,jU kd (fun _=>none) (.pl ps) = some k->∀ H',Same H H'->E (.ref C) none H')
noncomputable abbrev LOT:List Key:=[.inr (Str.ofString "grape"),.inl 3]
noncomputable def WnA (H:Hp) (d:Addr) (k:Nat):Prop:=(k = 0 /\ H d = some (.dT [])) \/ (1 <= k /\ ∃ f,H d = some (.dT [(LOT,f)]) /\ FrV H f ((k:Rat) / 10000))
noncomputable def WS (H:Hp) (kv:List (Key × V)) (L:List Str) (g:Str->Nat):Prop:=Paired (fun (e:Key × V) (z:Str)=>∃ d,e = (.inr z,.ref d) /\ WnA H d (g z)) kv L
noncomputable def tdO:HO->Bool
 | .tup _=>true
 | .dT _=>true
 | _=>false
noncomputable def KpD (H H':Hp):Prop:=∀ a o,H a = some o->tdO o = true->H' a = some o
theorem _root_.L2.Same.kpd {H H':Hp} (s:Same H H'):KpD H H':=fun a o e _=>s a o e
theorem KpD.trans {H H' H'':Hp} (s:KpD H H') (t:KpD H' H''):KpD H H'':=fun a o e n=>t a o (s a o e n) n
theorem KpD.but {H H':Hp} {d:Addr} {kv:List (Key × V)} (h:H d = some (.dK kv)) (k:∀ b ob,H b = some ob->b ≠ d->H' b = some ob):KpD H H':=fun a o e n=>k a o e fun z=>by
 subst z
 rw [h] at e
 cases e
 cases n
theorem KpD.upd {H:Hp} {p:Addr} {u o:HO} (h:H p = some u) (hu:tdO u = false):KpD H (upd H p o):=fun a w e n=>by
 rw [upd_ne (fun z=>by subst z; rw [h] at e; cases e; rw [hu] at n; cases n)]
 exact e
theorem KpD.fr {H H':Hp} (s:KpD H H') {v:V} {r:Rat} (h:FrV H v r):FrV H' v r:=h.tup fun a xs e=>s a _ e rfl
theorem items_at {kv:List (Key × V)} {i:Nat} {k v:V} (h:(kv.map fun e=>(kV e.1,e.2))[i]? = some (k,v)):∃ kk,kv[i]? = some (kk,v) /\ k = kV kk:=by
 rw [List.getElem?_map] at h
 obtain ⟨e,he,ee⟩:=Option.map_eq_some_iff.mp h
 obtain ⟨e1,e2⟩:=e
 cases ee
 exact ⟨e1,he,rfl⟩
theorem WnA.kp {H H':Hp} {d:Addr} {k:Nat} (h:WnA H d k) (s:KpD H H'):WnA H' d k:=by
 rcases h with ⟨h1,h2⟩ | ⟨h1,f,h2,h3⟩
 ·exact .inl ⟨h1,s _ _ h2 rfl⟩
 ·exact .inr ⟨h1,f,s _ _ h2 rfl,s.fr h3⟩
theorem WS.kp {H H':Hp} {kv:List (Key × V)} {L:List Str} {g:Str->Nat} (h:WS H kv L g) (s:KpD H H'):WS H' kv L g:=Paired.mapP h fun _ _ ⟨d,e,w⟩=>⟨d,e,w.kp s⟩
theorem WS.congr {H:Hp} {kv:List (Key × V)} {L:List Str} {g g':Str->Nat} (h:WS H kv L g) (e:∀ z ∈ L,g z = g' z):WS H kv L g':=by
 unfold WS at h ⊢
 induction h with
 | nil=>exact .nil
 | cons a _ ih =>
  refine .cons ?_ (ih fun z hz=>e z (List.mem_cons_of_mem _ hz))
  obtain ⟨d,e1,w⟩:=a
  exact ⟨d,e1,by rw [<- e _ (List.mem_cons_self ..)]; exact w⟩
theorem WS.keys {H:Hp} {kv:List (Key × V)} {L:List Str} {g:Str->Nat} (h:WS H kv L g):kv.map (·.1) = L.map Sum.inr:=by
 unfold WS at h
 induction h with
 | nil=>rfl
 | cons a _ ih =>
  obtain ⟨d,e1,_⟩:=a
  rw [List.map_cons,List.map_cons,ih,e1]
theorem WS.at {H:Hp} {kv:List (Key × V)} {L:List Str} {g:Str->Nat} (h:WS H kv L g) {i:Nat} {z:Str} (hz:L[i]? = some z):∃ d,kv[i]? = some (.inr z,.ref d) /\ WnA H d (g z):=by
 unfold WS at h
 induction h generalizing i with
 | nil=>simp at hz
 | cons a t ih =>
  cases i with
  | zero =>
   obtain ⟨d,e1,w⟩:=a
   simp at hz
   subst hz
   exact ⟨d,by rw [e1]; rfl,w⟩
  | succ i =>
   obtain ⟨d,e1,w⟩:=ih (i:=i) (by simpa using hz)
   exact ⟨d,by simpa using e1,w⟩
theorem WS.nd {H:Hp} {kv:List (Key × V)} {L:List Str} {g:Str->Nat} (h:WS H kv L g) (n:L.Nodup):(kv.map (·.1)).Nodup:=by
 rw [h.keys]
 unfold List.Nodup
 rw [List.pairwise_map]
 exact List.Pairwise.imp (fun h e=>h (Sum.inr.inj e)) n
theorem WS.val {H:Hp} {kv:List (Key × V)} {L:List Str} {g:Str->Nat} (h:WS H kv L g) (n:L.Nodup) {z:Str} (hz:z ∈ L):∃ d,valV kv (.inr z) = some (.ref d) /\ WnA H d (g z):=by
 obtain ⟨i,hi,e⟩:=List.getElem_of_mem hz
 obtain ⟨d,e1,w⟩:=h.at (i:=i) (z:=z) (by rw [List.getElem?_eq_getElem hi,e])
 exact ⟨d,valV_get (h.nd n) e1,w⟩
theorem WS.not {H:Hp} {kv:List (Key × V)} {L:List Str} {g:Str->Nat} (h:WS H kv L g) {z:Str} (hz:z ∉ L):valV kv (.inr z) = none:=by
 unfold valV
 have:kv.find? (fun e=>decide (e.1 = .inr z)) = none:=by
  rw [List.find?_eq_none]
  intro e he q
  have h1:e.1 ∈ kv.map (·.1):=List.mem_map.mpr ⟨e,he,rfl⟩
  rw [h.keys,of_decide_eq_true q] at h1
  obtain ⟨y,hy,ey⟩:=List.mem_map.mp h1
  cases ey
  exact hz hy
 rw [this]; rfl
theorem WS.snoc {H:Hp} {kv:List (Key × V)} {L:List Str} {g:Str->Nat} (h:WS H kv L g) {z:Str} {d:Addr} (hz:z ∉ L) (w:WnA H d (g z)):WS H (putK kv (.inr z) (.ref d)) (L ++ [z]) g:=by
 rw [putK_new _ (h.not hz)]
 exact Paired.snoc h ⟨d,rfl,w⟩
theorem WS.put {H:Hp} {kv:List (Key × V)} {L:List Str} {g g':Str->Nat} (h:WS H kv L g) {x:Str} {d:Addr} (hx:x ∈ L) (w:WnA H d (g' x)) (e:∀ z,z ≠ x->g' z = g z):WS H (putK kv (.inr x) (.ref d)) L g':=by
 have ha:(kv.any fun e=>decide (e.1 = .inr x)) = true:=by
  have:Sum.inr x ∈ kv.map (·.1):=by rw [h.keys]; exact List.mem_map.mpr ⟨x,hx,rfl⟩
  obtain ⟨e,he,ee⟩:=List.mem_map.mp this
  exact List.any_eq_true.mpr ⟨e,he,decide_eq_true ee⟩
 unfold putK
 rw [if_pos ha]
 clear ha hx
 unfold WS at h ⊢
 induction h with
 | nil=>exact .nil
 | @cons q z kv L a t ih =>
  refine .cons ?_ ih
  obtain ⟨c,e1,wc⟩:=a
  subst e1
  by_cases hz:z = x
  ·subst hz
   exact ⟨d,if_pos rfl,w⟩
  ·refine ⟨c,if_neg fun q=>hz (Sum.inr.inj q),?_⟩
   rw [e z hz]; exact wc
theorem bd10k (k:Nat) (h:k <= 1000):Bd 400 ((k:Rat) / 10000):=(szd_10k k h).bd (Nat.zero_le _)
noncomputable def spTot52:Sp:=fun vs H Q _=>∃ d k,vs = [.ref d] /\ WnA H d k /\ k <= 100 /\ ∀ v H',Same H H'->FrV H' v ((k:Rat) / 10000)->Q v H'
noncomputable def tenK (g:Str->Nat):Str->Rat:=fun z=>(g z:Rat) / 10000
noncomputable def spTots:Sp:=fun vs H Q _=>∃ a kv L g,vs = [.ref a] /\ H a = some (.dK kv) /\ WS H kv L g /\ L.Nodup /\ L.length <= 8 /\ (∀ z,g z <= 100) /\ ∀ p H' kvt,H p = none->Same H H'->H' p = some (.dK kvt)->RowAt H' kvt (all L (tenK g))->Q (.ref p) H'
noncomputable def spCopied:Sp:=fun vs H Q _=>∃ a kv L g,vs = [.ref a] /\ H a = some (.dK kv) /\ WS H kv L g /\ L.Nodup /\ L.length <= 8 /\ ∀ p H' kv',H p = none->Same H H'->H' p = some (.dK kv')->WS H' kv' L g->Q (.ref p) H'
theorem WnA.ex {H:Hp} {d:Addr} {k:Nat} (h:WnA H d k):∃ kvs,H d = some (.dT kvs) /\ kvs.length <= 1 /\ ∀ q H',KpD H H'->H' q = some (.dT kvs)->WnA H' q k:=by
 rcases h with ⟨h1,h2⟩ | ⟨h1,f,h2,h3⟩
 ·exact ⟨_,h2,Nat.zero_le _,fun q H' _ e=>.inl ⟨h1,e⟩⟩
 ·exact ⟨_,h2,Nat.le_refl _,fun q H' s e=>.inr ⟨h1,f,e,s.fr h3⟩⟩
theorem same_thaw {H H2:Hp} {d:Addr} {o:HO} (h:H d = some o) (k:∀ b ob,H b = some ob->b ≠ d->H2 b = some ob):Same H (upd H2 d o):=fun x ob ex=>by
 by_cases z:x = d
 ·subst z; rw [upd_same]; rw [h] at ex; exact ex
 ·rw [upd_ne z]; exact k _ _ ex z
noncomputable def spEmp (K:PySem.W.Frag):Sp:=fun vs H Q _=>∃ (a:Addr) (xs:List V) (ps:List Plc),vs = [.ref a] /\ SqL K H a xs /\ Paired (PlV H) xs ps /\ HouseOk ps /\ ∀ p H' kv,H p = none->Same H H'->H' p = some (.dK kv)->WS H' kv (allN ps) (fun _=>0)->Q (.ref p) H'
noncomputable def spPoured:Sp:=fun vs H Q _=>∃ (d e:Addr) (k:Nat) (f:V),vs = [.ref d,.ref e] /\ WnA H d k /\ k <= 99 /\ H e = some (.dT [(LOT,f)]) /\ FrV H f (1 / 10000) /\ ∀ q H',H q = none->Same H H'->WnA H' q (k + 1)->Q (.ref q) H'
noncomputable def spPour:Sp:=fun vs H Q _=>∃ (st:Addr) (v:V) (kv:List (Key × V)) (L:List Str) (g:Str->Nat) (x:Str),vs = [.ref st,v] /\ H st = some (.dK kv) /\ WS H kv L g /\ L.Nodup /\ L.length <= 8 /\ x ∈ L /\ g x <= 99 /\ StV H v (.br (Str.ofString "grape") 3 x (1 / 10000)) /\
 ∀ H' kv',(∀ b ob,H b = some ob->b ≠ st->H' b = some ob)->H' st = some (.dK kv')->WS H' kv' L (fun z=>if z = x then g z + 1 else g z)->Q .non H'
noncomputable def spGone (K:PySem.W.Frag):Sp:=fun vs H Q _=>∃ (a l:Addr) (kv:List (Key × V)) (L:List Str) (g:Str->Nat) (x:Str) (ws:List V),vs = [.ref a,.ref l] /\ H a = some (.dK kv) /\ WS H kv L g /\ L.Nodup /\ L.length <= 8 /\ x ∈ L /\ g x + ws.length <= 100 /\ SqL K H l ws /\ (∀ w ∈ ws,StV H w (.br (Str.ofString "grape") 3 x (1 / 10000))) /\
 ∀ p H' kv',H p = none->Same H H'->H' p = some (.dK kv')->WS H' kv' L (fun z=>if z = x then g z + ws.length else g z)->Q (.ref p) H'
theorem frac1 (k:Nat):((k:Rat) / 10000) + 1 / 10000 = (((k + 1:Nat):Rat) / 10000):=by
 rw [Rat.natCast_add]
 have:((1:Nat):Rat) = 1:=rfl
 rw [this]
 grind
noncomputable abbrev bfs (pl rw tk wn:V) (now:Int) (pt:V):List (Str × V):=[(Str.ofString "places",pl),(Str.ofString "row",rw),(Str.ofString "taken",tk),(Str.ofString "wines",wn),(Str.ofString "now",.int now),(Str.ofString "first",.int 3),(Str.ofString "past",pt)]
section
variable {pl rw tk wn pt x:V} {now n:Int}
theorem b_pl:(bfs pl rw tk wn now pt).lookup (Str.ofString "places") = some pl:=rfl
theorem b_rw:(bfs pl rw tk wn now pt).lookup (Str.ofString "row") = some rw:=rfl
theorem b_tk:(bfs pl rw tk wn now pt).lookup (Str.ofString "taken") = some tk:=rfl
theorem b_wn:(bfs pl rw tk wn now pt).lookup (Str.ofString "wines") = some wn:=rfl
theorem b_now:(bfs pl rw tk wn now pt).lookup (Str.ofString "now") = some (.int now):=rfl
theorem b_pt:(bfs pl rw tk wn now pt).lookup (Str.ofString "past") = some pt:=rfl
theorem m_keep:(bfs pl rw tk wn now pt).lookup (Str.ofString "keep") = none:=rfl
theorem m_put:(bfs pl rw tk wn now pt).lookup (Str.ofString "put") = none:=rfl
theorem m_strike:(bfs pl rw tk wn now pt).lookup (Str.ofString "strike") = none:=rfl
theorem m_undo:(bfs pl rw tk wn now pt).lookup (Str.ofString "undo") = none:=rfl
theorem m_deeds:(bfs pl rw tk wn now pt).lookup (Str.ofString "deeds") = none:=rfl
theorem m_year:(bfs pl rw tk wn now pt).lookup (Str.ofString "year") = none:=rfl
end
noncomputable def spDeeds (C:Addr):Sp:=fun vs H Q _=>∃ (bk dx rw:Addr) (pl tk wn pt:V) (now:Int) (row:List V),vs = [.ref bk] /\ H bk = some (.ins C dx (bfs pl (.ref rw) tk wn now pt)) /\ H rw = some (.lst row) /\ ∀ l,H l = none->Q (.ref l) (upd H l (.lst row))
noncomputable def spYear (C:Addr):Sp:=fun vs H Q _=>∃ (bk dx:Addr) (pl rw tk wn pt:V) (now:Int),vs = [.ref bk] /\ H bk = some (.ins C dx (bfs pl rw tk wn now pt)) /\ Q (.int now) H
noncomputable def spKeep (C:Addr):Sp:=fun vs H Q _=>∃ (bk dx pt:Addr) (pl rw tk wn:V) (now:Int) (past:List V),vs = [.ref bk] /\ H bk = some (.ins C dx (bfs pl rw tk wn now (.ref pt))) /\ H pt = some (.lst past) /\ past.length <= 100 /\ ∀ t,H t = none->Q .non (upd (upd H t (.tup [rw,tk,wn,.int now])) pt (.lst (past ++ [.ref t])))
noncomputable def spUndo (C N:Addr):Sp:=fun vs H Q E=>∃ (bk dx pt:Addr) (pl rw tk wn:V) (now:Int) (past:List V),vs = [.ref bk] /\ H bk = some (.ins C dx (bfs pl rw tk wn now (.ref pt))) /\ H pt = some (.lst past) /\ past.length <= 100 /\ ((past = [] /\ E (.ref N) none H) \/
 ∃ (ps:List V) (t:Addr) (rw' tk' wn':V) (n':Int),past = ps ++ [.ref t] /\ H t = some (.tup [rw',tk',wn',.int n']) /\ Q .non (upd (upd H pt (.lst ps)) bk (.ins C dx (bfs pl rw' tk' wn' n' (.ref pt)))))
noncomputable def spStrike (C N:Addr):Sp:=fun vs H Q E=>∃ (bk dx rw:Addr) (pl tk wn pt:V) (now:Int) (row:List V) (k:V) (n:String),vs = [.ref bk,k] /\ H bk = some (.ins C dx (bfs pl (.ref rw) tk wn now pt)) /\ H rw = some (.lst row) /\ tyS H k = some n /\ (∀ i,k = .int i->i < 0 \/ (row.length:Int) <= i) /\ E (.ref N) none H
theorem int_of {H:Hp} {v:V} (h:tyS H v = some "int"):∃ z,v = .int z:=by
 cases v with
 | int z=>exact ⟨z,rfl⟩
 | ref a =>
  have h:tyH (H a) = some "int":=h
  rcases tyH_cases h with ⟨e,_⟩ | ⟨e,_⟩ | ⟨e,_⟩ <;> exact absurd e (by decide)
 | non=>exact absurd h (by simp [tyS])
 | bl b=>exact absurd h (by simp [tyS])
 | str x=>exact absurd h (by simp [tyS])
 | byt x=>exact absurd h (by simp [tyS])
 | flt x=>exact absurd h (by simp [tyS])
 | ty x=>exact absurd h (by simp [tyS])
noncomputable def Kb (bk:Addr) (H H':Hp):Prop:=∀ b ob,H b = some ob->b ≠ bk->H' b = some ob
theorem Kb.trans {bk:Addr} {H H' H'':Hp} (s:Kb bk H H') (t:Kb bk H' H''):Kb bk H H'':=fun b ob e n=>t b ob (s b ob e n) n
theorem _root_.L2.Same.kb {bk:Addr} {H H':Hp} (s:Same H H'):Kb bk H H':=fun b ob e _=>s b ob e
theorem Kb.up (bk:Addr) (H:Hp) (o:HO):Kb bk H (upd H bk o):=fun b ob e n=>by rw [upd_ne n]; exact e
noncomputable def spIni52 (K:PySem.W.Frag) (C:Addr):Sp:=fun vs H Q _=>∃ (bk dx hs:Addr) (xs:List V) (ps:List Plc),vs = [.ref bk,.ref hs,.int 3] /\ H bk = some (.ins C dx []) /\ H hs = some (.lst xs) /\ Paired (PlV H) xs ps /\ HouseOk ps /\
 ∀ pl rw tk wn pt kv H',Kb bk H H'->H' bk = some (.ins C dx (bfs (.ref pl) (.ref rw) (.ref tk) (.ref wn) 3 (.ref pt)))->H' pl = some (.lst xs)->H' rw = some (.lst [])->H' tk = some (.lst [])->H' wn = some (.dK kv)->WS H' kv (allN ps) (fun _=>0)->H' pt = some (.lst [])->pt ≠ pl->pt ≠ rw->pt ≠ tk->(pt ≠ bk /\ H pt = none)->Q .non H'
theorem kbT {bk C dx:Addr} {fs:List (Str × V)} {H H':Hp} (hb:H bk = some (.ins C dx fs)) (k:Kb bk H H'):∀ a zs,H a = some (.tup zs)->H' a = some (.tup zs):=fun a _ e=>k a _ e (ne_of e hb (by intro z; cases z))
theorem kbL {bk C dx:Addr} {fs:List (Str × V)} {H H':Hp} (hb:H bk = some (.ins C dx fs)) (k:Kb bk H H') {a:Addr} {zs:List V} (e:H a = some (.lst zs)):H' a = some (.lst zs):=k a _ e (ne_of e hb (by intro z; cases z))
theorem kbK {bk C dx:Addr} {fs:List (Str × V)} {H H':Hp} (hb:H bk = some (.ins C dx fs)) (k:Kb bk H H') {a:Addr} {zs:List (Key × V)} (e:H a = some (.dK zs)):H' a = some (.dK zs):=k a _ e (ne_of e hb (by intro z; cases z))
theorem kbD {bk C dx:Addr} {fs:List (Str × V)} {H H':Hp} (hb:H bk = some (.ins C dx fs)) (k:Kb bk H H'):KpD H H':=fun a o e n=>k a o e fun z=>by
 subst z
 rw [hb] at e
 cases e
 cases n
noncomputable def hpP (ps:List Plc):List (Str × Str):=ps.map fun p=>(nmP p,kd (isC p))
noncomputable def JdV (ps:List Plc) (H:Hp) (v:V) (ok:Bool):Prop:=∃ b,HfV H v b /\ ((b = false /\ ok = false) \/ (b = true /\ ∃ qs,Pl8 H v qs /\ sh qs /\ ok = (jU (lk (hpP ps)) (fun _=>none) (.pl qs)).isNone))
theorem JdV.same {ps:List Plc} {H H':Hp} {v:V} {ok:Bool} (h:JdV ps H v ok) (s:Same H H'):JdV ps H' v ok:=by
 obtain ⟨b,h1,h2⟩:=h
 refine ⟨b,h1.same s,?_⟩
 rcases h2 with h2 | ⟨h2,qs,h3,h4⟩
 ·exact .inl h2
 ·exact .inr ⟨h2,qs,h3.ts s.ts,h4⟩
theorem plc_pc {H:Hp} {v:V} {p:Plc} (h:PlV H v p):PcV H v (nmP p,kd (isC p)):=by
 cases p with
 | ck z r=>obtain ⟨a,f,e,h1,_⟩:=h; exact ⟨a,_,e,h1⟩
 | sk z=>obtain ⟨a,e,h1⟩:=h; exact ⟨a,_,e,h1⟩
theorem house_pc {H:Hp} {xs:List V} {ps:List Plc} (h:Paired (PlV H) xs ps):Paired (PcV H) xs (hpP ps):=by
 unfold hpP
 induction h with
 | nil=>exact .nil
 | cons a _ ih=>exact .cons (plc_pc a) ih
noncomputable abbrev brD (x:Str):Dd:=.br (Str.ofString "grape") x (1 / 10000)
noncomputable def atK (x:Str) (k:Nat):Str->Nat:=fun z=>if z = x then k else 0
theorem atK_len {x:Str} {k n:Nat} (h:k <= n) (z:Str):atK x k z <= n:=by
 unfold atK
 split <;> lia
theorem atK_add (x:Str) (k m:Nat):(fun z=>if z = x then atK x k z + m else atK x k z) = atK x (k + m):=by
 funext z
 unfold atK
 by_cases h:z = x
 ·rw [if_pos h,if_pos h,if_pos h]
 ·rw [if_neg h,if_neg h,if_neg h]
theorem run_br (ps:List Plc) (x:Str) (y:Nat):∀ (m k:Nat),run ps (tenK (atK x k)) 3 (List.replicate m (brD x)) = ⟨tenK (atK x (k + m)),3,List.replicate m (.br (Str.ofString "grape") 3 x (1 / 10000))⟩:=by
 intro m
 induction m with
 | zero=>intro k; rfl
 | succ m ih =>
  intro k
  rw [List.replicate_succ',run_snoc,ih]
  unfold advD
  refine congr (congr (congrArg Run.mk ?_) rfl) ?_
  ·funext z
   show (if z = x then tenK (atK x (k + m)) x + 1 / 10000 else tenK (atK x (k + m)) z) = tenK (atK x (k + (m + 1))) z
   unfold tenK atK
   by_cases h:z = x
   ·rw [if_pos h,if_pos rfl,if_pos h,frac1]; rfl
   ·rw [if_neg h,if_neg h,if_neg h]
  ·show List.replicate m _ ++ [_] = _
   rw [List.replicate_succ']
theorem run_all (ps:List Plc) (x:Str) (k m:Nat):∀ y:Nat,run ps (tenK (atK x k)) 3 (List.replicate m (brD x) ++ List.replicate y .yr) = ⟨tenK (atK x (k + m)),3 + (y:Int),List.replicate m (.br (Str.ofString "grape") 3 x (1 / 10000))⟩:=by
 intro y
 induction y with
 | zero=>rw [List.replicate_zero,List.append_nil,run_br ps x 0 m k]; rfl
 | succ y ih =>
  rw [List.replicate_succ',<- List.append_assoc,run_snoc,ih]
  unfold advD
  refine congr (congr (congrArg Run.mk rfl) ?_) ?_
  ·show 3 + (y:Int) + 1 = 3 + ((y + 1:Nat):Int); lia
  ·show _ ++ [] = _; rw [List.append_nil]
theorem take_all (x:Str) (m y i:Nat):∃ m' y',(List.replicate m (brD x) ++ List.replicate y Dd.yr).take i = List.replicate m' (brD x) ++ List.replicate y' Dd.yr /\ m' <= m /\ (i < m->m' = i):=by
 refine ⟨min i m,min (i - m) y,?_,Nat.min_le_right _ _,fun h=>by lia⟩
 rw [List.take_append,List.take_replicate,List.take_replicate,List.length_replicate]
theorem small_in {ps:List Plc} (hro:RoomsR ps) {x z:Str} {k:Nat} (hk:k <= 100) {r:Rat} (e:rmF ps z = some r):tenK (atK x k) z <= r:=by
 have h1:=(hro z r (rmF_mem e).2).2
 have h2:(atK x k z:Rat) <= 100:=by exact_mod_cast atK_len hk z
 unfold tenK
 grind
theorem inT_k {ps:List Plc} (hro:RoomsR ps) (x:Str) {k:Nat} (hk:k <= 100):InT ps (tenK (atK x k)) 0 :=
 ⟨fun z _=>szd_10k _ (Nat.le_trans (atK_len hk z) (by decide)),fun z m e=>small_in hro hk e⟩
theorem goes_k {ps:List Plc} (hH:HouseOk ps) (hro:RoomsR ps) {x:Str} (hx:x ∈ ckN ps) {k m y:Nat} (hk:k + m <= 20):Goes ps (tenK (atK x k)) 3 (List.replicate m (brD x) ++ List.replicate y .yr):=by
 intro i d hd
 obtain ⟨m',y',et,hm,hi⟩:=take_all x m y i
 rw [et,run_all]
 by_cases h:i < m
 ·rw [List.getElem?_append_left (by rw [List.length_replicate]; exact h),List.getElem?_replicate,if_pos h] at hd
  cases hd
  refine ⟨⟨hx,by decide +kernel,?_⟩,fun r e=>?_⟩
  ·have:=szd_10k 1 (by decide)
   exact this
  ·have h1:=(hro x r (rmF_mem e).2).2
   have h2:(atK x (k + m') x:Rat) <= 100:=by exact_mod_cast atK_len (x:=x) (show k + m' <= 100 by lia) x
   show tenK (atK x (k + m')) x + 1 / 10000 <= r
   unfold tenK
   grind
 ·rw [List.getElem?_append_right (by rw [List.length_replicate]; lia),List.getElem?_replicate] at hd
  split at hd
  ·cases hd
   exact ⟨True.intro,True.intro⟩
  ·cases hd
noncomputable def isYD:Dd->Bool
 | .yr=>true
 | _=>false
theorem dd_rep {K:PySem.W.Frag} {H:Hp} {x:Str} (hx:Lay x) {u:V} {d:Dd} (h:DdV H u d) (hd:d = brD x \/ d = .yr):∃ a dd,u = .ref a /\ RepD K H dd u /\ dd.depth <= 40 /\ PyData.eqv dd (.tuple [.str "year"]) = isYA H a /\ isYA H a = isYD d:=by
 rcases hd with rfl | rfl
 ·obtain ⟨a,f,rfl,h1,h3⟩:=h
  refine ⟨a,.tuple [.str "bring",.str (Str.ofString "grape"),.str x,pq (1 / 10000:Rat).num (1 / 10000:Rat).den],rfl,repT (SqT.of h1) (repsC (repS (by decide +kernel)) (repsC (repS (by decide +kernel)) (repsC (repS hx) (repsC h3.rep reps0)))),?_,?_,?_⟩
  ·simp [pq,PyData.depth,PyData.depthAll]
  ·unfold isYA
   rw [h1]
   simp [PyData.eqv,PyData.eqvAll]
  ·unfold isYA
   rw [h1]; rfl
 ·obtain ⟨a,rfl,h1⟩:=h
  refine ⟨a,.tuple [.str "year"],rfl,repT (SqT.of h1) (repsC (repS (by decide +kernel)) reps0),?_,?_,?_⟩
  ·simp [PyData.depth,PyData.depthAll]
  ·unfold isYA
   rw [h1]
   simp [PyData.eqv,PyData.eqvAll]
  ·unfold isYA
   rw [h1]
   exact decide_eq_true rfl
theorem mem_brs {x:Str} {m y:Nat} {d:Dd} (h:d ∈ List.replicate m (brD x) ++ List.replicate y Dd.yr):d = brD x \/ d = .yr:=by
 rcases List.mem_append.mp h with h | h
 ·exact .inl (List.mem_replicate.mp h).2
 ·exact .inr (List.mem_replicate.mp h).2
theorem count_yr {K:PySem.W.Frag} {H:Hp} {x:Str} (hx:Lay x):∀ {ys:List V} {ds:List Dd},Paired (DdV H) ys ds->(∀ d ∈ ds,d = brD x \/ d = .yr)->ys.countP (isYV H) = ds.countP isYD
 | _,_,.nil,_=>rfl
 | _,_,.cons (a:=u) (b:=d) (l₁:=ys) (l₂:=ds) r t,h=>by
  obtain ⟨a,dd,e,_,_,_,ei⟩:=dd_rep (K:=K) hx r (h d (List.mem_cons_self ..))
  have eu:isYV H u = isYD d:=by rw [e]; exact ei
  rw [List.countP_cons,List.countP_cons,count_yr (K:=K) hx t fun d hd=>h d (List.mem_cons_of_mem _ hd),eu]
theorem count_ds (x:Str) (m y:Nat):(List.replicate m (brD x) ++ List.replicate y Dd.yr).countP isYD = y:=by
 rw [List.countP_append,List.countP_replicate,List.countP_replicate]
 have e1:isYD (brD x) = false:=rfl
 have e2:isYD .yr = true:=rfl
 rw [e1,e2]
 simp
theorem all_br {H:Hp} {x:Str} {m:Nat} {ws:List V} (h:Paired (StV H) ws (List.replicate m (.br (Str.ofString "grape") 3 x (1 / 10000)))):∀ w ∈ ws,StV H w (.br (Str.ofString "grape") 3 x (1 / 10000)):=fun w hw=>by
 obtain ⟨i,hi,e⟩:=List.getElem_of_mem hw
 obtain ⟨s,hs,hv⟩:=paired_get h (List.getElem?_eq_getElem hi)
 rw [List.getElem?_replicate] at hs
 split at hs
 ·cases hs
  rw [e] at hv; exact hv
 ·cases hs
noncomputable def spPut (K:PySem.W.Frag) (C N:Addr):Sp:=fun vs H Q E=>∃ (bk dx pl rw tk wn pt dl:Addr) (now:Int) (xs ys:List V) (ps:List Plc),vs = [.ref bk,.ref dl] /\ H bk = some (.ins C dx (bfs (.ref pl) (.ref rw) (.ref tk) (.ref wn) now (.ref pt))) /\ H pl = some (.lst xs) /\ Paired (PlV H) xs ps /\ HouseOk ps /\ H dl = some (.lst ys) /\
  ((∃ (j:Nat) (v:V),ys[j]? = some v /\ JdV ps H v false /\ (∀ (i:Nat) (u:V),i < j->ys[i]? = some u->JdV ps H u true) /\ ∀ H',Same H H'->E (.ref N) none H') \/
   ((∀ u ∈ ys,JdV ps H u true) /\ now = 3 /\ RoomsR ps /\ pt ≠ pl /\ pt ≠ rw /\ pt ≠ tk /\ pt ≠ dl /\ ∃ (row tv past:List V) (kv:List (Key × V)) (x:Str) (k m y:Nat),H rw = some (.lst row) /\ H tk = some (.lst tv) /\ H wn = some (.dK kv) /\ H pt = some (.lst past) /\ row.length <= 50 /\ tv.length <= 50 /\ past.length <= 50 /\
     WS H kv (allN ps) (atK x k) /\ x ∈ ckN ps /\ k + m <= 20 /\ m + y <= 12 /\ Paired (DdV H) ys (List.replicate m (brD x) ++ List.replicate y .yr) /\
     ∀ (rw' tk' wn' t:Addr) (tv':List V) (kv':List (Key × V)) (H':Hp),(∀ b ob,H b = some ob->b ≠ bk->b ≠ pt->H' b = some ob)->H' bk = some (.ins C dx (bfs (.ref pl) (.ref rw') (.ref tk') (.ref wn') (3 + (y:Int)) (.ref pt)))->H' rw' = some (.lst (row ++ ys))->H' tk' = some (.lst tv')->tv'.length = tv.length + m ->
       H' wn' = some (.dK kv')->WS H' kv' (allN ps) (atK x (k + m))->H' t = some (.tup [.ref rw,.ref tk,.ref wn,.int 3])->H' pt = some (.lst (past ++ [.ref t]))->pt ≠ rw'->pt ≠ tk'->Q .non H'))
noncomputable def spKind (N O:Addr):Sp:=fun vs H Q _=>∃ (a C:Addr) (z:Str),vs = [.ref a] /\ H a = some (excO a (.ref C)) /\ ((C = N /\ z = Str.ofString "nodeed") \/ (C = O /\ z = Str.ofString "nochange")) /\ ∀ H',Same H H'->Q (.str z) H'
noncomputable abbrev NDD:List V:=[.str (Str.ofString "nodeed"),.int (-1)]
noncomputable abbrev GOES:List V:=[.str (Str.ofString "goes"),.int (-1)]
noncomputable def spPutIn (K:PySem.W.Frag) (C:Addr):Sp:=fun vs H Q _=>spPut K C 0 vs H (fun _ H'=>∀ p,H' p = none->Q (.ref p) (upd H' p (.tup GOES))) (fun _ _ H1=>∀ p H',Same H1 H'->H' p = some (.tup NDD)->Q (.ref p) H')
noncomputable def spStruck (C:Addr):Sp:=fun vs H Q _=>spStrike C 0 vs H (fun _ _=>False) (fun _ _ H1=>∀ p H',Same H1 H'->H' p = some (.tup NDD)->Q (.ref p) H')
noncomputable def spUndone (C:Addr):Sp:=fun vs H Q _=>∃ (bk dx pt:Addr) (pl rw tk wn:V) (now:Int),vs = [.ref bk] /\ H bk = some (.ins C dx (bfs pl rw tk wn now (.ref pt))) /\ H pt = some (.lst []) /\ ∀ H',Same H H'->Q (.str (Str.ofString "nochange")) H'
noncomputable def spNoNum:Sp:=fun vs H Q _=>∃ (c m:Int),vs = [.int c,.int m] /\ 0 <= m /\ m <= 1000 /\ ∀ v H' n,Same H H'->tyS H' v = some n->(∀ i,v = .int i->i < 0 \/ m <= i)->Q v H'
noncomputable def okz (kd:Str->Option Str) (z:Str):Prop:=∃ k,kd z = some k /\ k ≠ Str.ofString "sink"
theorem jU_pl (kd:Str->Option Str) (an:Str->Option Nat) (ps:List (Str × Bool)):jU kd an (.pl ps) = match ps.findSome? (jP kd) with
  | some k=>some k
  | none=>if twin ps = true then some .nc else none:=rfl
theorem jok {kd:Str->Option Str} {x:Str} (h:okz kd x) (b:Bool):jP kd (x,b) = none:=by
 obtain ⟨k,h1,h2⟩:=h
 rw [jP_some h1,if_neg (fun z=>h2 z.2)]
theorem jsk {kd:Str->Option Str} {x:Str} (h:kd x = some (Str.ofString "sink")):jP kd (x,true) = some .nc:=by
 rw [jP_some h,if_pos ⟨rfl,rfl⟩]
theorem j_far {kd:Str->Option Str} {an:Str->Option Nat} {x:Str} (h:kd x = none) (r:List (Str × Bool)):jU kd an (.pl ((x,true) :: r)) = some .np:=by
 rw [jU_pl,List.findSome?_cons,jP_none h]
theorem j_sk {kd:Str->Option Str} {an:Str->Option Nat} {x:Str} (h:kd x = some (Str.ofString "sink")) (r:List (Str × Bool)):jU kd an (.pl ((x,true) :: r)) = some .nc:=by
 rw [jU_pl,List.findSome?_cons,jsk h]
theorem j_cs {kd:Str->Option Str} {an:Str->Option Nat} {x y:Str} (h:okz kd x) (h2:kd y = some (Str.ofString "sink")) {b:Bool} (e:b = true):jU kd an (.pl [(x,true),(y,b)]) = some .nc:=by
 rw [e,jU_pl,List.findSome?_cons,jok h,List.findSome?_cons,jsk h2]
theorem j_cc {kd:Str->Option Str} {an:Str->Option Nat} {x:Str} (h:okz kd x) (b:Bool):jU kd an (.pl [(x,true),(x,b)]) = some .nc:=by
 rw [jU_pl,List.findSome?_cons,jok h,List.findSome?_cons,jok h,List.findSome?_nil]
 exact if_pos (decide_eq_true rfl)
section
variable {ps:List Plc} {H:Hp} {a:Addr}
theorem b_ty {v:V} {n:String} (h:tyS H v = some n) (hn:n ≠ "tuple"):JdV ps H v false:=⟨false,.inl ⟨n,h,hn,rfl⟩,.inl ⟨rfl,rfl⟩⟩
theorem b_nil (h:H a = some (.tup [])):JdV ps H (.ref a) false:=⟨false,.inr ⟨a,[],rfl,h,.inl ⟨rfl,rfl⟩⟩,.inl ⟨rfl,rfl⟩⟩
theorem b_fst {x:V} {r:List V} {n:String} (h:H a = some (.tup (x :: r))) (hx:tyS H x = some n) (hn:n ≠ "str"):JdV ps H (.ref a) false:=⟨false,.inr ⟨a,_,rfl,h,.inr (.inl ⟨x,r,n,rfl,hx,hn,rfl⟩)⟩,.inl ⟨rfl,rfl⟩⟩
theorem b_len {w:Str} {r:List V} (n:Nat) (h:H a = some (.tup (.str w :: r))) (hl:r.length = n) (hr:n <= 10) (hw:lens.lookup w ≠ some ((n:Int) + 1)):JdV ps H (.ref a) false:=⟨false,.inr ⟨a,_,rfl,h,.inr (.inr (.inl ⟨w,r,rfl,by rw [hl]; exact hr,by rw [hl]; exact hw,rfl⟩))⟩,.inl ⟨rfl,rfl⟩⟩
noncomputable def Wd (H:Hp) (x:V):Prop:=∃ n,tyS H x = some n /\ ∀ z,x = .str z->z.length <= 100
theorem wd_str {z:Str} (h:z.length <= 8):Wd H (.str z):=⟨"str",rfl,fun y e=>by cases e; lia⟩
theorem wd_no {x:V} {n:String} (h:tyS H x = some n) (hx:isS x = false):Wd H x:=⟨n,h,fun z e=>by rw [e] at hx; cases hx⟩
theorem hf4 {w:Str} {x1 x2 m:V} {bm b:Bool} (h:H a = some (.tup [.str w,x1,x2,m])) (hw:lens.lookup w = some 4) (h1:Wd H x1) (h2:Wd H x2) (hm:MsV H w m bm) (e:((if w = Str.ofString "bring" then nmV x1 else true) && (isS x1 && isS x2) && bm) = b):HfV H (.ref a) b:=by
 refine .inr ⟨a,_,rfl,h,.inr (.inr (.inr ⟨w,[x1,x2,m],bm,rfl,hw,fun x hx=>?_,fun x hx=>?_,?_⟩))⟩
 ·rcases List.mem_cons.mp (show x ∈ [x1,x2] from hx) with rfl | hx
  ·exact h1
  ·rw [List.mem_singleton.mp hx]; exact h2
 ·cases hx; exact hm
 ·rw [<- e]
  show _ = ((if w = Str.ofString "bring" then nmV x1 else true) && (isS x1 && (isS x2 && true)) && bm)
  rw [Bool.and_true]
theorem hf3 {w:Str} {x1 x2:V} {b:Bool} (h:H a = some (.tup [.str w,x1,x2])) (hw:lens.lookup w = some 3) (hb:¬ w = Str.ofString "bring") (h1:Wd H x1) (h2:Wd H x2) (e:(isS x1 && isS x2) = b):HfV H (.ref a) b:=by
 refine .inr ⟨a,_,rfl,h,.inr (.inr (.inr ⟨w,[x1,x2],true,rfl,hw,fun x hx=>?_,fun x hx=>?_,?_⟩))⟩
 ·rcases List.mem_cons.mp (show x ∈ [x1,x2] from hx) with rfl | hx
  ·exact h1
  ·rw [List.mem_singleton.mp hx]; exact h2
 ·cases hx
 ·rw [<- e,if_neg hb]
  show _ = (true && (isS x1 && (isS x2 && true)) && true)
  rw [Bool.and_true,Bool.and_true,Bool.true_and]
theorem b_form {v:V} (h:HfV H v false):JdV ps H v false:=⟨false,h,.inl ⟨rfl,rfl⟩⟩
theorem b_plc {v:V} {qs:List (Str × Bool)} {k:Kd} (h:HfV H v true) (hp:Pl8 H v qs) (hs:sh qs) (hj:jU (lk (hpP ps)) (fun _=>none) (.pl qs) = some k):JdV ps H v false:=⟨true,h,.inr ⟨rfl,qs,hp,hs,by rw [hj]; rfl⟩⟩
noncomputable def wok (w:Str):Prop:=w ≠ Str.ofString "year" /\ w ≠ Str.ofString "bring" /\ w ≠ Str.ofString "times" /\ w ≠ Str.ofString "do"
theorem wk_move:wok (Str.ofString "move"):=⟨by decide +kernel,by decide +kernel,by decide +kernel,by decide +kernel⟩
theorem wk_part:wok (Str.ofString "part"):=⟨by decide +kernel,by decide +kernel,by decide +kernel,by decide +kernel⟩
theorem wk_all:wok (Str.ofString "all"):=⟨by decide +kernel,by decide +kernel,by decide +kernel,by decide +kernel⟩
theorem wk_fill:wok (Str.ofString "fill"):=⟨by decide +kernel,by decide +kernel,by decide +kernel,by decide +kernel⟩
theorem p_two {w x y:Str} {r:List V} (h:H a = some (.tup (.str w :: .str x :: .str y :: r))) (hw:wok w):Pl8 H (.ref a) [(x,true),(y,decide (w = Str.ofString "fill"))]:=⟨a,rfl,.inr (.inr ⟨w,x,y,r,h,hw.1,hw.2.1,hw.2.2.1,hw.2.2.2,rfl⟩)⟩
theorem p_one {n q:V} {x:Str} (h:H a = some (.tup [.str (Str.ofString "bring"),n,.str x,q])):Pl8 H (.ref a) [(x,true)]:=⟨a,rfl,.inr (.inl ⟨n,x,q,h,rfl⟩)⟩
theorem sh1 {x:Str} {b:Bool} (h:x.length <= 8):sh [(x,b)]:=fun p hp=>by rw [List.mem_singleton.mp hp]; exact Nat.le_trans h (by decide)
theorem sh2 {x y:Str} {b c:Bool} (h:x.length <= 8) (h2:y.length <= 8):sh [(x,b),(y,c)]:=fun p hp=>by
 rcases List.mem_cons.mp hp with rfl | hp
 ·exact Nat.le_trans h (by decide)
 ·rw [List.mem_singleton.mp hp]; exact Nat.le_trans h2 (by decide)
theorem ms_ty {w:Str} {v:V} {n:String} (h:tyS H v = some n) (hn:n ≠ "tuple"):MsV H w v false:=.inl ⟨n,h,hn,rfl⟩
theorem ms_two {w:Str} {q:Addr} {i j:Int} {b:Bool} (h:H q = some (.tup [.int i,.int j])) (hi:i.natAbs < 2 ^ 60) (hj:j.natAbs < 2 ^ 60) (e:ms w i j = b):MsV H w (.ref q) b:=.inr (.inl ⟨q,i,j,rfl,h,hi,hj,e.symm⟩)
theorem ms_bl {w:Str} {q:Addr} {p:Bool} {y:V} (h:H q = some (.tup [.bl p,y])):MsV H w (.ref q) false:=.inr (.inr ⟨q,p,y,rfl,h,rfl⟩)
end
theorem allc {ps:List Plc} {H:Hp} {a:V} {l:List V} (h:JdV ps H a false) (t:∀ v ∈ l,JdV ps H v false):∀ v ∈ a :: l,JdV ps H v false:=fun v hv=>by
 rcases List.mem_cons.mp hv with rfl | hv
 ·exact h
 ·exact t v hv
theorem alln {ps:List Plc} {H:Hp}:∀ v ∈ ([]:List V),JdV ps H v false:=fun _ h=>nomatch h
theorem MsV.via {H H':Hp} (ht:∀ v n,tyS H v = some n->tyS H' v = some n) (s:TSame H H') {kd:Str} {v:V} {b:Bool} (h:MsV H kd v b):MsV H' kd v b:=by
 rcases h with ⟨n,h1,h2⟩ | ⟨a,x,y,h1,h2,h3⟩ | ⟨a,p,y,h1,h2,h3⟩
 ·exact .inl ⟨n,ht _ _ h1,h2⟩
 ·exact .inr (.inl ⟨a,x,y,h1,s _ _ h2,h3⟩)
 ·exact .inr (.inr ⟨a,p,y,h1,s _ _ h2,h3⟩)
theorem HfV.via {H H':Hp} (ht:∀ v n,tyS H v = some n->tyS H' v = some n) (s:TSame H H') {v:V} {b:Bool} (h:HfV H v b):HfV H' v b:=by
 rcases h with ⟨n,h1,h2⟩ | ⟨a,xs,h1,h2,h3⟩
 ·exact .inl ⟨n,ht _ _ h1,h2⟩
 ·refine .inr ⟨a,xs,h1,s _ _ h2,?_⟩
  rcases h3 with h3 | ⟨x,r,n,h3,h4,h5⟩ | h3 | ⟨w,r,bm,h3,h4,h5,h6,h7⟩
  ·exact .inl h3
  ·exact .inr (.inl ⟨x,r,n,h3,ht _ _ h4,h5⟩)
  ·exact .inr (.inr (.inl h3))
  ·exact .inr (.inr (.inr ⟨w,r,bm,h3,h4,fun x hx=>let ⟨n,z1,z2⟩:=h5 x hx; ⟨n,ht _ _ z1,z2⟩,fun x hx=>(h6 x hx).via ht s,h7⟩))
theorem JdV.via {ps:List Plc} {H H':Hp} (ht:∀ v n,tyS H v = some n->tyS H' v = some n) (s:TSame H H') {v:V} {ok:Bool} (h:JdV ps H v ok):JdV ps H' v ok:=by
 obtain ⟨b,h1,h2⟩:=h
 refine ⟨b,h1.via ht s,?_⟩
 rcases h2 with h2 | ⟨h2,qs,h3,h4⟩
 ·exact .inl h2
 ·exact .inr ⟨h2,qs,h3.ts s,h4⟩
theorem jd_keep {ps:List Plc} {H:Hp} {l:Addr} {xs ys:List V} (hl:H l = some (.lst xs)) {v:V} {ok:Bool} (h:JdV ps H v ok):JdV ps (upd H l (.lst ys)) v ok:=by
 refine h.via (fun u n hu=>?_) fun a zs e=>by rw [upd_ne (ne_of e hl (by intro z; cases z))]; exact e
 cases u with
 | ref a =>
  have hu:tyH (H a) = some n:=hu
  show tyH (upd H l (.lst ys) a) = some n
  by_cases z:a = l
  ·subst z
   rw [upd_same]
   rw [hl] at hu
   exact hu
  ·rw [upd_ne z]; exact hu
 | _=>exact hu
noncomputable def spTh:Sp:=fun vs H Q _=>∃ (x y s:Str) (ps:List Plc),vs = [.str x,.str y,.str s] /\ okz (lk (hpP ps)) x /\ okz (lk (hpP ps)) y /\ lk (hpP ps) s = some (Str.ofString "sink") /\ lk (hpP ps) (Str.ofString "A") = none /\ x.length <= 8 /\ y.length <= 8 /\ s.length <= 8 /\
 ∀ l H' xs,Same H H'->H' l = some (.lst xs)->xs.length = 52->(∀ v ∈ xs,JdV ps H' v false)->Q (.ref l) H'
theorem lk_not {qs:List (Str × Str)} {z:Str} (hz:z ∉ qs.map (·.1)):lk qs z = none:=by
 induction qs with
 | nil=>rfl
 | cons q qs ih2 =>
  rw [List.map_cons,List.mem_cons,not_or] at hz
  rw [lk,ih2 hz.2]
  exact if_neg hz.1
theorem lk_mem {ps:List (Str × Str)} (nd:(ps.map (·.1)).Nodup) {z k:Str} (h:(z,k) ∈ ps):lk ps z = some k:=by
 induction ps with
 | nil=>cases h
 | cons p ps ih =>
  rw [List.map_cons,List.nodup_cons] at nd
  rw [lk]
  rcases List.mem_cons.mp h with e | h
  ·have hn:lk ps z = none:=by
    refine lk_not ?_
    rw [<- e] at nd
    exact nd.1
   rw [hn,<- e]
   exact if_pos rfl
  ·rw [ih nd.2 h]
theorem hp_names (ps:List Plc):(hpP ps).map (·.1) = allN ps:=by
 unfold hpP allN
 rw [List.map_map]; rfl
theorem lk_ck {ps:List Plc} (hH:HouseOk ps) {z:Str} (h:z ∈ ckN ps):lk (hpP ps) z = some (Str.ofString "cask"):=by
 obtain ⟨p,hp,e⟩:=List.mem_map.mp h
 obtain ⟨hp1,hp2⟩:=List.mem_filter.mp hp
 refine lk_mem (by rw [hp_names]; exact hH.nd) ?_
 refine List.mem_map.mpr ⟨p,hp1,?_⟩
 rw [e,hp2]; rfl
theorem lk_sk {ps:List Plc} (hH:HouseOk ps) {z:Str} (h:z ∈ skN ps):lk (hpP ps) z = some (Str.ofString "sink"):=by
 obtain ⟨p,hp,e⟩:=List.mem_map.mp h
 obtain ⟨hp1,hp2⟩:=List.mem_filter.mp hp
 have hp2:isC p = false:=by simpa using hp2
 refine lk_mem (by rw [hp_names]; exact hH.nd) ?_
 refine List.mem_map.mpr ⟨p,hp1,?_⟩
 rw [e,hp2]; rfl
theorem sk_sub {ps:List Plc} {z:Str} (h:z ∈ skN ps):z ∈ allN ps:=by
 obtain ⟨p,hp,e⟩:=List.mem_map.mp h
 exact List.mem_map.mpr ⟨p,(List.mem_filter.mp hp).1,e⟩
theorem ok_ck {ps:List Plc} (hH:HouseOk ps) {z:Str} (h:z ∈ ckN ps):okz (lk (hpP ps)) z:=⟨_,lk_ck hH h,by decide +kernel⟩
theorem lk_A {ps:List Plc} (h:∀ z ∈ allN ps,Nm z):lk (hpP ps) (Str.ofString "A") = none:=lk_not (by rw [hp_names]; exact fun z=>(h _ z).2 rfl)
theorem jd_good {ps:List Plc} (hH:HouseOk ps) {H:Hp} {ga q:Addr} {x:Str} (hx:x ∈ ckN ps) (lx:x.length <= 8) (hg:H ga = some (.tup [.str (Str.ofString "bring"),.str (Str.ofString "grape"),.str x,.ref q])) (hq:H q = some (.tup [.int 1,.int 10000])):JdV ps H (.ref ga) true:=by
 refine ⟨true,hf4 (bm:=true) hg (by decide +kernel) (wd_str (by decide +kernel)) (wd_str lx) (ms_two hq (by decide) (by decide) (by decide +kernel)) (by rw [if_pos rfl,show nmV (.str (Str.ofString "grape")) = true from by decide +kernel]; rfl),.inr ⟨rfl,_,p_one hg,sh1 lx,?_⟩⟩
 rw [jU_pl,List.findSome?_cons,jok (ok_ck hH hx)]
 rfl
theorem jd_late {ps:List Plc} (hH:HouseOk ps) {H:Hp} {ga q:Addr} {x y:Str} {n:Int} (hx:x ∈ ckN ps) (hy:y ∈ ckN ps) (ne:y ≠ x) (lx:x.length <= 8) (ly:y.length <= 8) (hn:n = 1000000000000) (hg:H ga = some (.tup [.str (Str.ofString "move"),.str y,.str x,.ref q])) (hq:H q = some (.tup [.int n,.int 1])):JdV ps H (.ref ga) true:=by
 subst hn
 refine ⟨true,hf4 (bm:=true) hg (by decide +kernel) (wd_str ly) (wd_str lx) (ms_two hq (by decide) (by decide) (by decide +kernel)) (by rw [if_neg (by decide +kernel)]; rfl),.inr ⟨rfl,_,p_two hg wk_move,sh2 ly lx,?_⟩⟩
 rw [jU_pl,List.findSome?_cons,jok (ok_ck hH hy),List.findSome?_cons,jok (ok_ck hH hx),List.findSome?_nil]
 show true = (if decide (y = x) = true then some Kd.nc else none).isNone
 rw [decide_eq_false ne]; rfl
theorem jd_year {ps:List Plc} {H:Hp} {a:Addr} (h:H a = some (.tup [.str (Str.ofString "year")])):JdV ps H (.ref a) true:=by
 refine ⟨true,.inr ⟨a,_,rfl,h,.inr (.inr (.inr ⟨Str.ofString "year",[],true,rfl,by decide +kernel,(fun _ z=>nomatch z),(fun _ z=>nomatch z),by decide +kernel⟩))⟩,.inr ⟨rfl,[],⟨a,rfl,.inl ⟨h,rfl⟩⟩,(fun _ z=>nomatch z),rfl⟩⟩
theorem rep_same {α:Type} (x:α):∀ n:Nat,(List.replicate n [x]).flatten = List.replicate n x
 | 0=>rfl
 | n + 1=>by rw [List.replicate_succ,List.flatten_cons,rep_same x n]; rfl
theorem two_of {L:List Str} (h:2 <= L.length) (nd:L.Nodup):∃ x y,L[0]? = some x /\ L[1]? = some y /\ y ≠ x /\ x ∈ L /\ y ∈ L:=by
 match L,h with
 | x :: y :: r,_ =>
  rw [List.nodup_cons] at nd
  exact ⟨x,y,rfl,rfl,fun e=>nd.1 (by rw [e]; exact List.mem_cons_self ..),List.mem_cons_self ..,List.mem_cons_of_mem _ (List.mem_cons_self ..)⟩
theorem str_at {L:List Str} {j:Nat} {x:Str} (h:L[j]? = some x):atI (L.map V.str) (j:Int) = some (.str x):=atI_nat (by rw [List.getElem?_map,h]; rfl)
theorem cut_map (ns:List Int) (lo hi:Option Int):∃ ms:List Int,cutV (ns.map V.int) lo hi = ms.map V.int:=⟨_,by unfold cutV; rw [<- List.map_drop,<- List.map_take]⟩
theorem pick_us {us:List V} (h:us.length = 52) (m:Int):((us.length:Nat):Int) ≠ 0 /\ ∃ v,v ∈ us /\ atI us (m.fmod ((us.length:Nat):Int)) = some v:=by
 have h0:(0:Int) < ((us.length:Nat):Int):=by lia
 have q:=fmod_lt (c:=m) (m:=((us.length:Nat):Int)) h0
 obtain ⟨j,ej⟩:=Int.eq_ofNat_of_zero_le q.1
 have hj:j < us.length:=by lia
 exact ⟨by lia,us[j],List.getElem_mem hj,by rw [ej]; exact atI_nat (List.getElem?_eq_getElem hj)⟩
noncomputable abbrev dN:PyData:=.tuple [.str (Str.ofString "nodeed"),.int (-1)]
noncomputable abbrev dGo:PyData:=.tuple [.str (Str.ofString "goes"),.int (-1)]
noncomputable abbrev dG (x:Str):PyData:=.tuple [.str (Str.ofString "bring"),.str (Str.ofString "grape"),.str x,.tuple [.int 1,.int 10000]]
noncomputable abbrev dY:PyData:=.tuple [.str (Str.ofString "year")]
theorem repN {K:PySem.W.Frag} {H:Hp} {p:Addr} (h:H p = some (.tup NDD)):RepD K H dN (.ref p):=repT (SqT.of h) (repsC (repS (by decide +kernel)) (repsC repI reps0))
theorem repGo {K:PySem.W.Frag} {H:Hp} {p:Addr} (h:H p = some (.tup GOES)):RepD K H dGo (.ref p):=repT (SqT.of h) (repsC (repS (by decide +kernel)) (repsC repI reps0))
theorem repG {K:PySem.W.Frag} {H:Hp} {ga q:Addr} {x:Str} (hx:Lay x) (hg:H ga = some (.tup [.str (Str.ofString "bring"),.str (Str.ofString "grape"),.str x,.ref q])) (hq:H q = some (.tup [.int 1,.int 10000])):RepD K H (dG x) (.ref ga) :=
 repT (SqT.of hg) (repsC (repS (by decide +kernel)) (repsC (repS (by decide +kernel)) (repsC (repS hx) (repsC (repT (SqT.of hq) (repsC repI (repsC repI reps0))) reps0))))
theorem repY {K:PySem.W.Frag} {H:Hp} {p:Addr} (h:H p = some (.tup [.str (Str.ofString "year")])):RepD K H dY (.ref p):=repT (SqT.of h) (repsC (repS (by decide +kernel)) reps0)
noncomputable def Ok30 (d:PyData):Prop:=d.depth <= 30 /\ PyData.eqv d d = true
theorem okG (x:Str):Ok30 (dG x):=⟨by simp [PyData.depth,PyData.depthAll],by simp [PyData.eqv,PyData.eqvAll]⟩
theorem okY:Ok30 dY:=⟨by simp [PyData.depth,PyData.depthAll],by simp [PyData.eqv,PyData.eqvAll]⟩
theorem okL:∀ {l:List PyData},(∀ d ∈ l,Ok30 d)->PyData.depthAll l <= 30 /\ PyData.eqvAll l l = true
 | [],_=>⟨by simp [PyData.depthAll],rfl⟩
 | d :: l,h=>by
  obtain ⟨h1,h2⟩:=okL fun d hd=>h d (List.mem_cons_of_mem _ hd)
  obtain ⟨h3,h4⟩:=h d (List.mem_cons_self ..)
  refine ⟨by simp only [PyData.depthAll]; lia,?_⟩
  rw [PyData.eqvAll,h4,h2]; rfl
theorem okList {l:List PyData} (h:∀ d ∈ l,Ok30 d):(PyData.list l).depth <= 64 /\ PyData.eqv (.list l) (.list l) = true:=by
 obtain ⟨h1,h2⟩:=okL h
 refine ⟨by simp only [PyData.depth]; lia,?_⟩
 rw [PyData.eqv]; exact h2
theorem repsR {K:PySem.W.Frag} {H:Hp} {d:PyData} {v:V} (h:RepD K H d v):∀ n:Nat,RepDs K H (List.replicate n d) (List.replicate n v)
 | 0=>reps0
 | n + 1=>repsC h (repsR h n)
theorem okR' {d:PyData} (h:Ok30 d) (n:Nat):∀ e ∈ List.replicate n d,Ok30 e:=fun e he=>by rw [(List.mem_replicate.mp he).2]; exact h
theorem repsA {K:PySem.W.Frag} {H:Hp}:∀ {ds:List PyData} {vs:List V} {es:List PyData} {us:List V},RepDs K H ds vs->RepDs K H es us->RepDs K H (ds ++ es) (vs ++ us)
 | [],vs,es,us,h,g=>by
  have h:vs = []:=by simpa [RepDs] using h
  subst h; exact g
 | d :: ds,vs,es,us,h,g=>by
  have h:∃ v r,vs = v :: r /\ RepD K H d v /\ RepDs K H ds r:=by simpa [RepDs] using h
  obtain ⟨v,r,rfl,h1,h2⟩:=h
  exact repsC h1 (repsA h2 g)
theorem okA {x:Str} (n:Nat):∀ e ∈ List.replicate n (dG x) ++ [dG x,dY],Ok30 e:=fun e he=>by
 rcases List.mem_append.mp he with he | he
 ·exact okR' (okG x) n e he
 ·rcases List.mem_cons.mp he with rfl | he
  ·exact okG x
  ·rw [List.mem_singleton.mp he]; exact okY
theorem okR {d:PyData} (h:Ok30 d) (n:Nat):∀ e ∈ List.replicate n d,Ok30 e:=fun e he=>by rw [(List.mem_replicate.mp he).2]; exact h
theorem neN:(!PyData.eqv dN dN) = false:=by simp [PyData.eqv,PyData.eqvAll]
theorem neGo:(!PyData.eqv dGo dGo) = false:=by simp [PyData.eqv,PyData.eqvAll]
theorem dpN:dN.depth <= 64:=by simp [PyData.depth,PyData.depthAll]
theorem dpGo:dGo.depth <= 64:=by simp [PyData.depth,PyData.depthAll]
theorem neL {l:List PyData} (h:∀ d ∈ l,Ok30 d):(!PyData.eqv (.list l) (.list l)) = false:=by rw [(okList h).2]; rfl
theorem four {Hx:Hp} {v ga la:V} {l1 l2 l3 l4:Addr} {ps:List Plc} (h1:Hx l1 = some (.lst [v])) (h2:Hx l2 = some (.lst [v,ga])) (h3:Hx l3 = some (.lst [ga,v,ga])) (h4:Hx l4 = some (.lst [la,v])) (jg:JdV ps Hx ga true) (jl:JdV ps Hx la true) (m:Int) :
  ∃ (l:Addr) (ys:List V) (j:Nat),atI [V.ref l1,V.ref l2,V.ref l3,V.ref l4] (m.fmod 4) = some (.ref l) /\ Hx l = some (.lst ys) /\ ys[j]? = some v /\ ∀ (i:Nat) (u:V),i < j->ys[i]? = some u->JdV ps Hx u true:=by
 have q:=fmod_lt (c:=m) (m:=4) (by decide)
 obtain ⟨w,ew⟩:=Int.eq_ofNat_of_zero_le q.1
 have hw:w < 4:=by lia
 rw [ew]
 match w,hw with
 | 0,_=>exact ⟨l1,_,0,atI_nat (j:=0) rfl,h1,rfl,fun i u hi=>by lia⟩
 | 1,_=>exact ⟨l2,_,0,atI_nat (j:=1) rfl,h2,rfl,fun i u hi=>by lia⟩
 | 2,_ =>
  refine ⟨l3,_,1,atI_nat (j:=2) rfl,h3,rfl,fun i u hi e=>?_⟩
  have:i = 0:=by lia
  subst this
  cases e; exact jg
 | 3,_ =>
  refine ⟨l4,_,1,atI_nat (j:=3) rfl,h4,rfl,fun i u hi e=>?_⟩
  have:i = 0:=by lia
  subst this
  cases e; exact jl
end T52
namespace T52
open PySem L2 Tc
section
variable {P:Program} {w:World} {K:PySem.W.Frag} {mg:Str->Option Value} {base:Heap}
noncomputable abbrev s_is_name:Stmt:=top 13
theorem sc_is_name:FnScope ["thing"] ["thing"] (defScope s_is_name):=scF
theorem ok_is_name {ca:Ca} (D:DefAt K mg "is_name" s_is_name) (T:Txt K mg w ca):FnAt P w K mg base CX0 1 "is_name" ["thing"] (spIsName):=by
 refine D.ok sc_is_name (fun vs H Q E h=>?_) (fun _ _ _ _ _ _ us hl=>match us,hl with | [_],_=>rfl) (fun f cdv A outer s H vs Q E hr h=>?_)
 ·obtain ⟨v,n,rfl,hv,k0,k1⟩:=h; rfl
 ·obtain ⟨v,n,rfl,hv,k0,k1⟩:=h
  have nd:=sc_is_name.nd
  refine ⟨_,(pss_cons (ps_if (PW.pt (pw_or (pt_not (pt_val (pe_callB (call_isi' (K:=K) rfl) (by rfl) T.z_isinstance bt_isinstance (pa_cons (pv 0) (pa_cons (pe_bltn (v:=.ty "str") (by rfl) T.z_str bt_str rfl) pa_nil))))) (pw_or (pt_cmpR op_lt (pe_callB (call_len' (K:=K) rfl) (by rfl) T.z_len PySem.boot_len (pa_cons (pv 0) pa_nil)) pe_int (nomark _)) (pw_or1 (pt_cmpR op_gt (pe_callB (call_len' (K:=K) rfl) (by rfl) T.z_len PySem.boot_len (pa_cons (pv 0) pa_nil)) pe_int (nomark _)))))) (pss_one (ps_ret pe_bl)) pss_nil)
   (pss_one (ps_ret (pe_callB (call_all' (K:=K) rfl rfl) (by rfl) T.z_all bt_all (pa_cons (pe_comp ["letter"] [] [] rfl (by rfl) (pi_str (pv 0)) (fun _ _ _ _=>(pg_name (i:=0) (show List.Nodup (["letter"]:List Str) from by decide) rfl (Or.inl rfl))) (fun _ _ _ _=>pif_none) (fun _ _ _ _=>(pe_cmpR op_in_str (pv 0) (pe_gstr (by rfl) T.g_LETTERS) (by rfl)))) pa_nil))))),?_⟩
  refine ⟨_,rfl,_,_,_,_,rfl,tyOf_of hv,kit_tt (tyS_mem hv) (by decide),_,rfl,?_⟩
  by_cases hs:n = "str"
  ·subst hs
   obtain ⟨z,rfl⟩:=str_of hv
   obtain ⟨hz,k1⟩:=k1 z rfl
   have hl:z.length <= sizeLine:=sz (by lia)
   refine iteF ?_
   refine ⟨_,rfl,_,_,rfl,⟨hl,rfl⟩,_,_,rfl,rfl,_,rfl,?_⟩
   refine ite2 (fun h=>?_) (fun h=>?_)
   ·have h:((z.length:Nat):Int) < 1:=of_decide_eq_true h
    have e:nm z = false:=by
     unfold nm
     rw [decide_eq_false (by lia),Bool.false_and]
    have k:=k1 H (Same.refl _)
    rw [e] at k
    exact iteT k
   have h1:¬ ((z.length:Nat):Int) < 1:=fun z=>h (decide_eq_true z)
   refine ⟨_,rfl,_,_,rfl,⟨hl,rfl⟩,_,_,rfl,rfl,_,rfl,?_⟩
   refine ite2 (fun h=>?_) (fun h=>?_)
   ·have h:(8:Int) < ((z.length:Nat):Int):=of_decide_eq_true h
    have e:nm z = false:=by
     unfold nm
     rw [decide_eq_false (by lia),Bool.false_and]
    have k:=k1 H (Same.refl _)
    rw [e] at k
    exact k
   have h8:¬ (8:Int) < ((z.length:Nat):Int):=fun z=>h (decide_eq_true z)
   refine ⟨_,rfl,z,rfl,fun D hD=>?_⟩
   refine block_str (fun i σ' H'=>∃ v:Option V,σ' = [v] /\ Same H H' /\ H' D = some (.lst (((z.cps.toList.take i).map inL).map V.bl))) ⟨none,rfl,Same.upd hD,upd_same⟩ ?_ ?_
   ·rintro i c σ' H' hc ⟨v,rfl,s1,hd⟩
    have hc':z.cps.toList[i]? = some c:=by simpa using hc
    refine ⟨_,rfl,_,_,rfl,rfl,_,hd,?_,_,rfl,s1.updD hD,?_⟩
    ·have hzz:z.cps.toList.length = z.length:=Array.length_toList
     rw [List.length_map,List.length_map,List.length_take]; exact sz (by lia)
    ·rw [upd_same,List.take_add_one,hc',List.map_append,List.map_append]
     rfl
   ·rintro σ' H' ⟨v,rfl,s1,hd⟩
    have e1:z.cps.toList.take z.cps.size = z.cps.toList:=by
     rw [<- Array.length_toList,List.take_length]
    rw [e1] at hd
    refine ⟨D,_,rfl,SqL.of hd,?_⟩
    have e:nm z = (z.cps.toList.map inL).all id:=by
     unfold nm
     rw [decide_eq_true (by lia),Bool.true_and,List.all_map]
     rfl
    have k:=k1 H' s1
    rw [e] at k
    exact k
  ·have e:=sub_str hs
   refine ite2 (fun _=>?_) (fun h=>?_)
   ·exact iteT (k0 hs)
   ·have h:¬ (!(subS n "str")) = true:=h
    rw [e] at h
    exact absurd rfl h
noncomputable abbrev s_kinds_of:Stmt:=top 14
theorem sc_kinds_of:FnScope ["house","kinds","place"] ["house"] (defScope s_kinds_of):=scF
theorem ok_kinds_of {ca:Ca} (D:DefAt K mg "kinds_of" s_kinds_of) (T:Txt K mg w ca):FnAt P w K mg base CX0 1 "kinds_of" ["house"] (spK8 K):=by
 refine D.ok sc_kinds_of (fun vs H Q E h=>?_) (fun _ _ _ _ _ _ us hl=>match us,hl with | [_],_=>rfl) (fun f cdv A outer s H vs Q E hr h=>?_)
 ·obtain ⟨a,xs,ps,rfl,ha,hP,hpl,k⟩:=h; rfl
 ·obtain ⟨a,xs,ps,rfl,ha,hP,hpl,k⟩:=h
  have nd:=sc_kinds_of.nd
  refine ⟨_,(pss_cons (ps_set (i:=1) nd rfl (Or.inl rfl) pe_dnewK)
   (pss_cons (ps_for PassesOwn.never rfl (pi_list' (K:=K) rfl (pv 0)) (pg_name (i:=2) nd rfl (Or.inl rfl)) (pss_one (ps_dput (hu_of hr) (pv 1) (pixT (pv 2) pe_int) (pixT (pv 2) pe_int) rfl)))
   (pss_one (ps_ret (pv 1))))),?_⟩
  intro p hp
  have tp:=Same.upd (o:=.dK []) hp
  refine ⟨_,rfl,a,rfl,⟨_,SqL.of (tp _ _ ha)⟩,?_⟩
  refine for_list (xs:=xs) (fun i σ H1=>∃ (v2:Option V) (kv:List (Key × V)),σ = [some (.ref a),some (.ref p),v2] /\ Same H H1 /\ H1 p = some (.dK kv) /\ kv.length <= i /\ KdV kv (lk (ps.take i))) ⟨none,[],rfl,tp,upd_same,Nat.le_refl _,fun _=>rfl⟩ ?_ ?_ ?_
  ·rintro i σ H1 hi ⟨v2,kv,rfl,s1,_⟩
   exact SqL.of (s1 _ _ ha)
  ·rintro i z σ H1 hz ⟨v2,kv,rfl,s1,hk,hl,hkd⟩
   obtain ⟨q,hq,b,r,rfl,hb⟩:=paired_get hP hz
   have hi:i < ps.length:=(List.getElem?_eq_some_iff.mp hq).1
   have hb:=s1 _ _ hb
   refine ⟨_,rfl,b,_,0,_,rfl,rfl,SqT.of hb,at_0 _ _,_,rfl,_,rfl,b,_,1,_,rfl,rfl,SqT.of hb,at_1 _ _ _,p,_,rfl,DPut.k (k:=.inr q.1) hk (sz (by lia)),?_⟩
   refine ⟨_,_,rfl,s1.updD hp,upd_same,Nat.le_trans (length_putK _ _ _) (by lia),fun w=>?_⟩
   rw [valV_put,List.take_add_one,hq]
   show _ = (lk (ps.take i ++ [q]) w).map V.str
   rw [lk_snoc]
   by_cases e:w = q.1
   ·rw [if_pos (congrArg Sum.inr e),if_pos e]; rfl
   ·rw [if_neg (fun z=>e (Sum.inr.inj z)),if_neg e]
    exact hkd w
  ·rintro σ H1 ⟨v2,kv,rfl,s1,hk,hl,hkd⟩
   rw [hP.length] at hl hkd
   rw [List.take_length] at hkd
   exact ⟨_,rfl,k p kv H1 s1 hp hk hl hkd⟩
noncomputable abbrev s_wanted:Stmt:=top 15
theorem sc_wanted:FnScope ["deed"] ["deed"] (defScope s_wanted):=scF
theorem ok_wanted {ca:Ca} (D:DefAt K mg "wanted" s_wanted) (T:Txt K mg w ca):FnAt P w K mg base CX0 1 "wanted" ["deed"] (spW8):=by
 refine D.ok sc_wanted (fun vs H Q E h=>?_) (fun _ _ _ _ _ _ us hl=>match us,hl with | [_],_=>rfl) (fun f cdv A outer s H vs Q E hr h=>?_)
 ·obtain ⟨v,ps,rfl,⟨a,rfl,ha⟩,k⟩:=h; rfl
 ·obtain ⟨v,ps,rfl,⟨a,rfl,ha⟩,k⟩:=h
  have nd:=sc_wanted.nd
  refine ⟨_,(pss_cons (ps_if (pt_cmpR op_eq (pixT (pv 0) pe_int) pe_str (nomark _)) (pss_one (ps_ret (pe_lst pa_nil))) pss_nil)
   (pss_cons (ps_if (pt_cmpR op_eq (pixT (pv 0) pe_int) pe_str (nomark _)) (pss_one (ps_ret (pe_lst (pa_cons (pe_tup (pa_cons (pixT (pv 0) pe_int) (pa_cons pe_bl pa_nil))) pa_nil)))) pss_nil)
   (pss_one (ps_ret (pe_lst (pa_cons (pe_tup (pa_cons (pixT (pv 0) pe_int) (pa_cons pe_bl pa_nil))) (pa_cons (pe_tup (pa_cons (pixT (pv 0) pe_int) (pa_cons (pe_cmpR op_eq (pixT (pv 0) pe_int) pe_str (nomark _)) pa_nil))) pa_nil))))))),?_⟩
  rcases ha with ⟨ha,rfl⟩ | ⟨n,x,q,ha,rfl⟩ | ⟨w,x,y,r,ha,n1,n2,n3,n4,rfl⟩
  ·refine ⟨_,rfl,a,_,0,_,rfl,rfl,SqT.of ha,rfl,rfl,_,rfl,?_⟩
   refine dec_true rfl ?_
   exact ⟨sz (by simp),fun l hl=>k l [] _ (Same.upd hl) upd_same .nil⟩
  ·refine ⟨_,rfl,a,_,0,_,rfl,rfl,SqT.of ha,rfl,rfl,_,rfl,?_⟩
   refine dec_false (by decide +kernel) ?_
   refine ⟨_,rfl,a,_,0,_,rfl,rfl,SqT.of ha,rfl,rfl,_,rfl,?_⟩
   refine dec_true rfl ?_
   refine ⟨_,rfl,a,_,2,_,rfl,rfl,SqT.of ha,rfl,sz (by simp),fun p hp=>⟨sz (by simp),fun l hl=>?_⟩⟩
   have t2:=Same.upd (o:=.lst [.ref p]) hl
   exact k l [.ref p] _ ((Same.upd hp).trans t2) upd_same (.cons ⟨p,rfl,t2 _ _ upd_same⟩ .nil)
  ·have c1:¬ V.str w = V.str (Str.ofString "year"):=fun e=>n1 (V.str.inj e)
   have c2:¬ V.str w = V.str (Str.ofString "bring"):=fun e=>n2 (V.str.inj e)
   refine ⟨_,rfl,a,_,0,_,rfl,rfl,SqT.of ha,at_0 _ _,rfl,_,rfl,?_⟩
   refine dec_false c1 ?_
   refine ⟨_,rfl,a,_,0,_,rfl,rfl,SqT.of ha,at_0 _ _,rfl,_,rfl,?_⟩
   refine dec_false c2 ?_
   refine ⟨_,rfl,a,_,1,_,rfl,rfl,SqT.of ha,at_1 _ _ _,sz (by simp),fun p1 h1=>?_⟩
   have t1:=Same.upd (o:=.tup [.str x,.bl true]) h1
   refine ⟨_,rfl,a,_,2,_,rfl,rfl,SqT.of (t1 _ _ ha),at_2' _ _ _ _,_,rfl,a,_,0,_,rfl,rfl,SqT.of (t1 _ _ ha),at_0 _ _,rfl,sz (by simp),fun p2 h2=>⟨sz (by simp),fun l hl=>?_⟩⟩
   have ed:decide (V.str w = V.str (Str.ofString "fill")) = decide (w = Str.ofString "fill"):=by
    by_cases e:w = Str.ofString "fill"
    ·rw [e]; rfl
    ·rw [decide_eq_false e,decide_eq_false fun z=>e (V.str.inj z)]
   rw [ed] at hl ⊢
   have t2:=Same.upd (o:=.tup [.str y,.bl (decide (w = Str.ofString "fill"))]) h2
   have t3:=Same.upd (o:=.lst [.ref p1,.ref p2]) hl
   exact k l [.ref p1,.ref p2] _ (t1.trans (t2.trans t3)) upd_same (.cons ⟨p1,rfl,t3 _ _ (t2 _ _ upd_same)⟩ (.cons ⟨p2,rfl,t3 _ _ upd_same⟩ .nil))
noncomputable abbrev s_check_place:Stmt:=top 16
theorem sc_check_place:FnScope ["name","kinds","cask","kind"] ["name","kinds","cask"] (defScope s_check_place):=scF
theorem ok_check_place {ca:Ca} (D:DefAt K mg "check_place" s_check_place) (T:Txt K mg w ca):FnAt P w K mg base (CXD P w) 1 "check_place" ["name","kinds","cask"] (spCp (cl3 ca.NoPlace ca.NoCask ca.NoCask)):=by
 refine D.okD sc_check_place (fun vs H Q E h=>?_) (fun _ _ _ _ _ _ us hl=>match us,hl with | [_,_,_],_=>rfl) (fun f cdv A outer s H vs Q E hr h=>?_)
 ·obtain ⟨z,kk,c,kv,kd,rfl,hk,hkd,hz,k,kE⟩:=h; rfl
 ·obtain ⟨z,kk,c,kv,kd,rfl,hk,hkd,hz,k,kE⟩:=h
  have nd:=sc_check_place.nd
  refine ⟨_,(pss_cons (ps_set (i:=3) nd rfl (Or.inl rfl) (pe_dget1 (hu_of hr) (pv 1) (pv 0) ⟨by rfl,by rfl,by rfl,by rfl⟩))
   (pss_cons (ps_if (pt_cmpR op_isN (pv 3) pe_non (nomark _)) (pss_one (ps_raise raisesD rfl (by rfl) T.c_NoPlace T.e_NoPlace PySem.F.excBase_ValueError (pa_cons (pe_js (.cons pe_str (.cons (pe_fmtS (pv 0)) .nil))) pa_nil))) pss_nil)
   (pss_one (ps_if (PW.pt (pw_and (pt_val (pv 2)) (pw_and1 (pt_cmpR op_eq (pv 3) pe_str (nomark _))))) (pss_one (ps_raise raisesD rfl (by rfl) T.c_NoCask T.e_NoCask PySem.F.excBase_ValueError (pa_cons (pe_js (.cons (pe_fmtS (pv 0)) (.cons pe_str .nil))) pa_nil))) pss_nil)))),?_⟩
  have g:=DGet.k (k:=.inr z) hk
  rw [hkd z] at g
  refine ⟨_,rfl,kk,rfl,.inl ⟨kv,.inl hk⟩,_,rfl,_,g,?_⟩
  cases e:kd z with
  | none =>
   refine ⟨_,rfl,rfl,_,rfl,?_⟩
   refine iteT ?_
   have l1:(Str.ofString "there is no place ").length <= 60:=by decide +kernel
   exact ⟨_,rfl,Nat.le_trans (jl je l1) (by decide),_,rfl,z,rfl,Nat.le_trans hz (by decide),_,rfl,Nat.le_trans (jl (jl je l1) hz) (by decide),Nat.le_trans (jl (jl je l1) hz) (by decide),sz (by simp),kE .np (jP_none e)⟩
  | some kn =>
   refine ⟨_,rfl,rfl,_,rfl,?_⟩
   refine iteF ?_
   refine ⟨_,rfl,_,rfl,?_⟩
   refine ite2 (fun h=>?_) (fun h=>iteF (k ?_))
   ·refine ⟨_,rfl,rfl,_,rfl,?_⟩
    refine ite2 (fun h2=>?_) (fun h2=>k ?_)
    ·have l1:(Str.ofString " is a sink").length <= 60:=by decide +kernel
     refine ⟨_,rfl,z,rfl,Nat.le_trans hz (by decide),_,rfl,Nat.le_trans (jl je hz) (by decide),_,rfl,Nat.le_trans (jl (jl je hz) l1) (by decide),Nat.le_trans (jl (jl je hz) l1) (by decide),sz (by simp),kE .nc ?_⟩
     rw [jP_some e,if_pos ⟨h,V.str.inj (of_decide_eq_true h2)⟩]
    ·rw [jP_some e,if_neg (fun z=>h2 (decide_eq_true (congrArg V.str z.2)))]
   ·rw [jP_some e,if_neg (fun z=>h z.1)]
noncomputable abbrev s_check_plain:Stmt:=top 17
theorem sc_check_plain:FnScope ["deed","kinds","places","name","cask"] ["deed","kinds"] (defScope s_check_plain):=scF
theorem ok_check_plain {ca:Ca} (D:DefAt K mg "check_plain" s_check_plain) (T:Txt K mg w ca) (G_wanted:FnAt P w K mg base CX0 1 "wanted" ["deed"] (spW8)) (G_check_place:FnAt P w K mg base (CXD P w) 1 "check_place" ["name","kinds","cask"] (spCp (cl3 ca.NoPlace ca.NoCask ca.NoCask))):FnAt P w K mg base (CXD P w) 2 "check_plain" ["deed","kinds"] (spCl (cl3 ca.NoPlace ca.NoCask ca.NoCask)):=by
 refine D.okD sc_check_plain (fun vs H Q E h=>?_) (fun _ _ _ _ _ _ us hl=>match us,hl with | [_,_],_=>rfl) (fun f cdv A outer s H vs Q E hr h=>?_)
 ·obtain ⟨v,kk,ps,kv,kd,rfl,hv,hsh,hk,hkd,k,kE⟩:=h; rfl
 ·obtain ⟨v,kk,ps,kv,kd,rfl,hv,hsh,hk,hkd,k,kE⟩:=h
  have nd:=sc_check_plain.nd
  refine ⟨_,(pss_cons (ps_set (i:=2) nd rfl (Or.inl rfl) (pfn G_wanted hr (pa_cons (pv 0) pa_nil)))
   (pss_cons (ps_for PassesOwn.leaving rfl (pi_list' (K:=K) rfl (pv 2)) (pg_tup rfl (pgs_cons (pg_name (i:=3) nd rfl (Or.inl rfl)) (pgs_cons (pg_name (i:=4) nd rfl (Or.inl rfl)) pgs_nil))) (pss_one (ps_expr (pe_fn G_check_place hr (by rfl) passD (pa_cons (pv 3) (pa_cons (pv 1) (pa_cons (pv 4) pa_nil)))))))
   (pss_one (ps_if (PW.pt (pw_and (pt_cmpR op_eq (pe_callB (call_len' (K:=K) rfl) (by rfl) T.z_len PySem.boot_len (pa_cons (pv 2) pa_nil)) pe_int (nomark _)) (pw_and1 (pt_cmpR op_eq (pixT (pixL (pv 2) pe_int) pe_int) (pixT (pixL (pv 2) pe_int) pe_int) (nomark _))))) (pss_one (ps_raise raisesD rfl (by rfl) T.c_NoCask T.e_NoCask PySem.F.excBase_ValueError (pa_cons pe_str pa_nil))) pss_nil)))),?_⟩
  refine ⟨_,rfl,v,ps,rfl,hv,fun l ts H1 s1 hl hP=>?_⟩
  have hk1:=s1 _ _ hk
  refine ⟨_,rfl,l,rfl,⟨_,SqL.of hl⟩,?_⟩
  refine for_list (xs:=ts) (fun i σ H2=>∃ v3 v4:Option V,σ = [some v,some (.ref kk),some (.ref l),v3,v4] /\ H2 = H1 /\ (ps.take i).findSome? (jP kd) = none) ⟨none,none,rfl,rfl,rfl⟩ ?_ ?_ ?_
  ·rintro i σ H2 hi ⟨v3,v4,rfl,rfl,_⟩
   exact SqL.of hl
  ·rintro i x σ H2 hx ⟨v3,v4,rfl,rfl,hf⟩
   obtain ⟨p,hp,hw⟩:=paired_get hP hx
   obtain ⟨b,rfl,hb⟩:=hw
   have et:(ps.take (i + 1)).findSome? (jP kd) = jP kd p:=by
    rw [List.take_add_one,hp,List.findSome?_append,hf]
    show [p].findSome? (jP kd) = _
    simp [List.findSome?]
    cases jP kd p <;> rfl
   refine ⟨b,_,rfl,SqT.of hb,rfl,_,_,rfl,_,_,rfl,rfl,?_⟩
   refine ⟨_,rfl,_,rfl,_,rfl,p.1,kk,p.2,kv,kd,rfl,hk1,hkd,hsh p (List.mem_of_getElem? hp),fun hn=>⟨_,_,rfl,rfl,et.trans hn⟩,fun q hq=>kE q ?_ H2 s1⟩
   have e2:ps.findSome? (jP kd) = some q:=by
    rw [<- List.take_append_drop (i + 1) ps,List.findSome?_append,et,hq]; rfl
   show (match ps.findSome? (jP kd) with | some k=>some k | none=>if twin ps = true then some Kd.nc else none) = some q
   rw [e2]
  ·rintro σ H2 ⟨v3,v4,rfl,rfl,hf⟩
   have el:ps.take ts.length = ps:=by rw [hP.length,List.take_length]
   rw [el] at hf
   have ej:jU kd (fun _=>none) (.pl ps) = if twin ps = true then some Kd.nc else none:=by
    show (match ps.findSome? (jP kd) with | some k=>some k | none=>if twin ps = true then some Kd.nc else none) = _
    rw [hf]
   rw [ej] at k kE
   have tl:=hP.length
   refine ⟨_,rfl,_,_,rfl,.inl ⟨_,SqL.of hl,rfl⟩,rfl,_,rfl,?_⟩
   refine ite2 (fun h=>?_) (fun h=>iteF (k ?_ _ s1))
   ·have h2:ts.length = 2:=by
     have:=V.int.inj (of_decide_eq_true h)
     lia
    match ps,hP,tl with
    | [p,q],.cons ⟨b1,e1,h1⟩ (.cons ⟨b2,e2,h2⟩ .nil),_ =>
     subst e1 e2
     refine ⟨_,rfl,l,_,0,_,rfl,rfl,SqL.of hl,rfl,b1,_,0,_,rfl,rfl,SqT.of h1,rfl,_,rfl,l,_,1,_,rfl,rfl,SqL.of hl,rfl,b2,_,0,_,rfl,rfl,SqT.of h2,rfl,rfl,_,rfl,?_⟩
     refine ite2 (fun h3=>?_) (fun h3=>k ?_ _ s1)
     ·exact ⟨sz (by simp),kE .nc (by rw [if_pos]; exact decide_eq_true (V.str.inj (of_decide_eq_true h3))) _ s1⟩
     ·rw [if_neg]
      exact fun z=>h3 (decide_eq_true (congrArg V.str (of_decide_eq_true z)))
    | [],_,z=>rw [h2] at z; cases z
    | [_],_,z=>rw [h2] at z; cases z
    | _ :: _ :: _ :: _,_,z=>rw [h2] at z; simp at z
   ·rw [twin_ne (fun z=>h (decide_eq_true (congrArg V.int (by rw [tl,z]; rfl))))]
    rfl
noncomputable abbrev s_is_whole:Stmt:=top 19
theorem sc_is_whole:FnScope ["thing"] ["thing"] (defScope s_is_whole):=scF
theorem ok_is_whole {ca:Ca} (D:DefAt K mg "is_whole" s_is_whole) (T:Txt K mg w ca):FnAt P w K mg base CX0 1 "is_whole" ["thing"] (spWhole):=by
 refine D.ok sc_is_whole (fun vs H Q E h=>?_) (fun _ _ _ _ _ _ us hl=>match us,hl with | [_],_=>rfl) (fun f cdv A outer s H vs Q E hr h=>?_)
 ·obtain ⟨v,n,rfl,hv,k⟩:=h; rfl
 ·obtain ⟨v,n,rfl,hv,k⟩:=h
  have nd:=sc_is_whole.nd
  refine ⟨_,(pss_one (ps_ret (pe_and (pe_callB (call_isi' (K:=K) rfl) (by rfl) T.z_isinstance bt_isinstance (pa_cons (pv 0) (pa_cons (pe_bltn (v:=.ty "int") (by rfl) T.z_int bt_int rfl) pa_nil))) (pe_one (pe_not (pe_callB (call_isi' (K:=K) rfl) (by rfl) T.z_isinstance bt_isinstance (pa_cons (pv 0) (pa_cons (pe_bltn (v:=.ty "bool") (by rfl) T.z_bool bt_bool rfl) pa_nil)))))))),?_⟩
  refine ⟨_,rfl,_,_,_,_,rfl,tyOf_of hv,kit_tt (tyS_mem hv) (by decide),_,rfl,?_⟩
  refine ite2 (fun h1=>?_) (fun h1=>?_)
  ·refine ⟨_,rfl,_,_,_,_,rfl,tyOf_of hv,kit_tt (tyS_mem hv) (by decide),_,rfl,?_⟩
   rw [sub_int] at h1
   rw [sub_bool]
   have e:(!(n == "bool")) = (n == "int"):=by
    rcases Bool.or_eq_true_iff.mp h1 with z | z
    ·have z:=beq_iff_eq.mp z; subst z; decide
    ·have z:=beq_iff_eq.mp z; subst z; decide
   rw [e]; exact k
  ·rw [sub_int] at h1
   have e:(n == "int") = false:=by
    cases q:(n == "int") with
    | false=>rfl
    | true=>rw [q] at h1; exact absurd rfl h1
   rw [e] at k; exact k
noncomputable abbrev s_common_divisor:Stmt:=top 21
theorem sc_common_divisor:FnScope ["top","bottom","rest"] ["top","bottom"] (defScope s_common_divisor):=scF
theorem ok_common_divisor {ca:Ca} (D:DefAt K mg "common_divisor" s_common_divisor) (T:Txt K mg w ca):FnAt P w K mg base CX0 1 "common_divisor" ["top","bottom"] (spCd):=by
 refine D.ok sc_common_divisor (fun vs H Q E h=>?_) (fun _ _ _ _ _ _ us hl=>match us,hl with | [_,_],_=>rfl) (fun f cdv A outer s H vs Q E hr h=>?_)
 ·obtain ⟨t,b,rfl,hb,k⟩:=h; rfl
 ·obtain ⟨t,b,rfl,hb,k⟩:=h
  have nd:=sc_common_divisor.nd
  refine ⟨_,(pss_cons (ps_while PassesOwn.never (pt_cmpR op_ne (pv 1) pe_int (nomark _)) (pss_cons (ps_set (i:=2) nd rfl (Or.inl rfl) (pe_op op_modN (pv 0) (pv 1)))
   (pss_cons (ps_set (i:=0) nd rfl (Or.inl rfl) (pv 1))
   (pss_one (ps_set (i:=1) nd rfl (Or.inl rfl) (pv 2))))))
   (pss_one (ps_ret (pv 0)))),?_⟩
  refine while_by (fun σ H1=>∃ (x y:Int) (v:Option V),σ = [some (.int x),some (.int y),v] /\ H1 = H /\ Dv t b x y)
   (fun σ _=>match σ with | [_,some (.int y),_]=>y.natAbs | _=>0) ⟨t,b,none,rfl,rfl,Dv.start hb⟩ ?_ ?_
  ·rintro σ H1 ⟨x,y,v,rfl,rfl,d⟩
   refine ⟨_,rfl,rfl,_,rfl,?_⟩
   refine ite2 (fun h1=>?_) (fun h1=>?_)
   ·have hy:y ≠ 0:=by
     intro e; subst e; simp at h1
    refine ⟨_,rfl,_,rfl,_,_,rfl,rfl,hy,?_⟩
    refine ⟨_,rfl,_,rfl,?_⟩
    exact ⟨⟨_,_,_,rfl,rfl,d.turn hy⟩,Dv.less hy⟩
   ·have hy:y = 0:=by
     by_cases e:y = 0
     ·exact e
     ·exact absurd (by simp [e]) h1
    refine ⟨_,rfl,?_⟩
    rw [d.done hy hb]; exact k
  ·intro σ H1 Q1 Q2 hq h1
   obtain ⟨v,e,h2,c,e2,h3⟩:=h1
   exact ⟨v,e,h2,c,e2,hq _ _ h3⟩
noncomputable abbrev s_is_fraction:Stmt:=top 20
theorem sc_is_fraction:FnScope ["thing","top","bottom"] ["thing"] (defScope s_is_fraction):=scF
theorem ok_is_fraction {ca:Ca} (D:DefAt K mg "is_fraction" s_is_fraction) (T:Txt K mg w ca) (G_is_whole:FnAt P w K mg base CX0 1 "is_whole" ["thing"] (spWhole)) (G_common_divisor:FnAt P w K mg base CX0 1 "common_divisor" ["top","bottom"] (spCd)):FnAt P w K mg base CX0 2 "is_fraction" ["thing"] (spFrA K):=by
 refine D.ok sc_is_fraction (fun vs H Q E h=>?_) (fun _ _ _ _ _ _ us hl=>match us,hl with | [_],_=>rfl) (fun f cdv A outer s H vs Q E hr h=>?_)
 ·obtain ⟨v,b,rfl,hv,k⟩:=h; rfl
 ·obtain ⟨v,b,rfl,hv,k⟩:=h
  have nd:=sc_is_fraction.nd
  refine ⟨_,(pss_cons (ps_if (PW.pt (pw_or (pt_not (pt_val (pe_callB (call_isi' (K:=K) rfl) (by rfl) T.z_isinstance bt_isinstance (pa_cons (pv 0) (pa_cons (pe_bltn (v:=.ty "tuple") (by rfl) T.z_tuple bt_tuple rfl) pa_nil))))) (pw_or1 (pt_cmpR op_ne (pe_callB (call_len' (K:=K) rfl) (by rfl) T.z_len PySem.boot_len (pa_cons (pv 0) pa_nil)) pe_int (nomark _))))) (pss_one (ps_ret pe_bl)) pss_nil)
   (pss_cons (ps_set (i:=1) nd rfl (Or.inl rfl) (pixT (pv 0) pe_int))
   (pss_cons (ps_set (i:=2) nd rfl (Or.inl rfl) (pixT (pv 0) pe_int))
   (pss_cons (ps_if (PW.pt (pw_or (pt_not (pt_val (pfn G_is_whole hr (pa_cons (pv 1) pa_nil)))) (pw_or (pt_not (pt_val (pfn G_is_whole hr (pa_cons (pv 2) pa_nil)))) (pw_or1 (pt_cmpR op_lt (pv 2) pe_int (nomark _)))))) (pss_one (ps_ret pe_bl)) pss_nil)
   (pss_one (ps_ret (pe_cmpR op_eq (pfn G_common_divisor hr (pa_cons (pv 1) (pa_cons (pv 2) pa_nil))) pe_int (nomark _)))))))),?_⟩
  rcases hv with ⟨n,hv,hn,rfl⟩ | ⟨a,x,y,rfl,ha,rfl⟩ | ⟨a,p,y,rfl,ha,rfl⟩
  ·refine ⟨_,rfl,_,_,_,_,rfl,tyOf_of hv,kit_tt (tyS_mem hv) (by decide),_,rfl,?_⟩
   rw [sub_tup hn]
   exact iteT k
  ·have hv:tyS H (.ref a) = some "tuple":=ty_of ha rfl
   refine ⟨_,rfl,_,_,_,_,rfl,tyOf_of hv,kit_tt (by decide) (by decide),_,rfl,?_⟩
   refine iteF ?_
   refine ⟨_,rfl,_,_,rfl,.inr ⟨_,SqT.of ha,rfl⟩,rfl,_,rfl,?_⟩
   refine iteF ?_
   refine ⟨_,rfl,a,_,0,_,rfl,rfl,SqT.of ha,rfl,?_⟩
   refine ⟨_,rfl,a,_,1,_,rfl,rfl,SqT.of ha,rfl,?_⟩
   refine ⟨_,rfl,.int x,"int",rfl,rfl,_,rfl,?_⟩
   refine iteF ?_
   refine ⟨_,rfl,.int y,"int",rfl,rfl,_,rfl,?_⟩
   refine iteF ?_
   refine ⟨_,rfl,_,_,rfl,rfl,_,rfl,?_⟩
   refine ite2 (fun h=>?_) (fun h=>?_)
   ·have h:y < 1:=of_decide_eq_true h
    rw [decide_eq_false (show ¬ 1 <= y by lia),Bool.false_and] at k
    exact k
   ·have h:¬ y < 1:=fun z=>h (decide_eq_true z)
    refine ⟨_,rfl,_,rfl,x,y,rfl,by lia,?_⟩
    refine ⟨rfl,?_⟩
    rw [decide_eq_true (show 1 <= y by lia),Bool.true_and] at k
    have e:decide (V.int (dv x y) = V.int 1) = decide (dv x y = 1):=by
     by_cases z:dv x y = 1
     ·rw [z]; rfl
     ·rw [decide_eq_false z,decide_eq_false fun q=>z (V.int.inj q)]
    rw [<- e] at k
    exact k
  ·have hv:tyS H (.ref a) = some "tuple":=ty_of ha rfl
   refine ⟨_,rfl,_,_,_,_,rfl,tyOf_of hv,kit_tt (by decide) (by decide),_,rfl,?_⟩
   refine iteF ?_
   refine ⟨_,rfl,_,_,rfl,.inr ⟨_,SqT.of ha,rfl⟩,rfl,_,rfl,?_⟩
   refine iteF ?_
   refine ⟨_,rfl,a,_,0,_,rfl,rfl,SqT.of ha,rfl,?_⟩
   refine ⟨_,rfl,a,_,1,_,rfl,rfl,SqT.of ha,rfl,?_⟩
   refine ⟨_,rfl,.bl p,"bool",rfl,rfl,_,rfl,?_⟩
   exact iteT k
noncomputable abbrev s_plus:Stmt:=top 22
theorem sc_plus:FnScope ["one","other","shared","rest","top","divisor"] ["one","other"] (defScope s_plus):=scF
theorem ok_plus {ca:Ca} (D:DefAt K mg "plus" s_plus) (T:Txt K mg w ca) (G_common_divisor:FnAt P w K mg base CX0 1 "common_divisor" ["top","bottom"] (spCd)):FnAt P w K mg base CX0 2 "plus" ["one","other"] (spPlus):=by
 refine D.ok sc_plus (fun vs H Q E h=>?_) (fun _ _ _ _ _ _ us hl=>match us,hl with | [_,_],_=>rfl) (fun f cdv A outer s H vs Q E hr h=>?_)
 ·obtain ⟨_,_,r,q,rfl,⟨a,rfl,ha⟩,⟨b,rfl,hb⟩,br,bq,k⟩:=h; rfl
 ·obtain ⟨_,_,r,q,rfl,⟨a,rfl,ha⟩,⟨b,rfl,hb⟩,br,bq,k⟩:=h
  have nd:=sc_plus.nd
  refine ⟨_,(pss_cons (ps_set (i:=2) nd rfl (Or.inl rfl) (pfn G_common_divisor hr (pa_cons (pixT (pv 0) pe_int) (pa_cons (pixT (pv 1) pe_int) pa_nil))))
   (pss_cons (ps_set (i:=3) nd rfl (Or.inl rfl) (pe_op op_fdivB (pixT (pv 0) pe_int) (pv 2)))
   (pss_cons (ps_set (i:=4) nd rfl (Or.inl rfl) (pe_op op_add (pe_op op_mulB (pixT (pv 0) pe_int) (pe_op op_fdivB (pixT (pv 1) pe_int) (pv 2))) (pe_op op_mulB (pixT (pv 1) pe_int) (pv 3))))
   (pss_cons (ps_set (i:=5) nd rfl (Or.inl rfl) (pfn G_common_divisor hr (pa_cons (pv 4) (pa_cons (pv 2) pa_nil))))
   (pss_one (ps_ret (pe_tup (pa_cons (pe_op op_fdivB (pv 4) (pv 5)) (pa_cons (pe_op op_mulB (pv 3) (pe_op op_fdivB (pixT (pv 1) pe_int) (pv 5))) pa_nil))))))))),?_⟩
  have d1:=rat_den_pos r
  have d2:=rat_den_pos q
  have i0:∀ (i:Nat),i <= 8000->(2:Nat) ^ i <= 2 ^ 9000:=fun i hi=>pow_le (by lia)
  refine ⟨_,rfl,a,_,_,_,rfl,rfl,SqT.of ha,rfl,_,rfl,b,_,_,_,rfl,rfl,SqT.of hb,rfl,_,_,rfl,(by lia),?_⟩
  have s0:dv r.den q.den ≠ 0:=dv_ne (by lia)
  have sle:(dv (r.den:Int) q.den).natAbs <= ((q.den:Int)).natAbs:=dv_le (by lia)
  have sdiv:∀ i,CDivB i (dv (r.den:Int) q.den):=fun i=>bq.divR (by decide) s0 sle
  generalize hs:dv (r.den:Int) q.den = s1 at *
  refine ⟨_,rfl,a,_,_,_,rfl,rfl,SqT.of ha,rfl,_,rfl,_,_,rfl,rfl,sdiv _,?_⟩
  have le1:∀ {x:Int} {m:Nat},x.natAbs < 2 ^ m->(x.fdiv s1).natAbs < 2 ^ (m + 1):=fun {x m} hx=>by
   have:=natAbs_fdiv_le x s1
   rw [Nat.pow_succ]; lia
  have hrest:((r.den:Int).fdiv s1).natAbs < 2 ^ 8001:=le1 br.den
  have hq1:((q.den:Int).fdiv s1).natAbs < 2 ^ 8001:=le1 bq.den
  refine ⟨_,rfl,a,_,_,_,rfl,rfl,SqT.of ha,rfl,_,rfl,b,_,_,_,rfl,rfl,SqT.of hb,rfl,_,rfl,_,_,rfl,rfl,sdiv _,_,_,rfl,rfl,mulOk_of 8001 (Nat.lt_of_lt_of_le br.num (pow_le (by decide))) hq1 (by decide),_,rfl,b,_,_,_,rfl,rfl,SqT.of hb,rfl,_,rfl,_,_,rfl,rfl,mulOk_of 8001 (Nat.lt_of_lt_of_le bq.num (pow_le (by decide))) hrest (by decide),_,_,rfl,rfl,?_⟩
  refine ⟨_,rfl,_,rfl,_,_,rfl,s0,?_⟩
  have d0:dv (r.num * (q.den:Int).fdiv s1 + q.num * (r.den:Int).fdiv s1) s1 ≠ 0:=dv_ne s0
  have dle:(dv (r.num * (q.den:Int).fdiv s1 + q.num * (r.den:Int).fdiv s1) s1).natAbs <= ((q.den:Int)).natAbs:=Nat.le_trans (dv_le s0) sle
  have ddiv:∀ i,CDivB i (dv (r.num * (q.den:Int).fdiv s1 + q.num * (r.den:Int).fdiv s1) s1):=fun i=>bq.divR (by decide) d0 dle
  obtain ⟨e1,e2⟩:=plus_ok r q hs.symm rfl rfl rfl
  have hq2:((q.den:Int).fdiv (dv (r.num * (q.den:Int).fdiv s1 + q.num * (r.den:Int).fdiv s1) s1)).natAbs < 2 ^ 8001:=by
   have:=natAbs_fdiv_le (q.den:Int) (dv (r.num * (q.den:Int).fdiv s1 + q.num * (r.den:Int).fdiv s1) s1)
   have z:((q.den:Int)).natAbs < 2 ^ 8000:=bq.den
   rw [Nat.pow_succ]; lia
  refine ⟨_,rfl,_,rfl,_,_,rfl,rfl,ddiv _,_,rfl,_,rfl,b,_,_,_,rfl,rfl,SqT.of hb,rfl,_,rfl,_,_,rfl,rfl,ddiv _,_,_,rfl,rfl,mulOk_of 8001 hrest hq2 (by decide),sz (by simp),fun p hp=>?_⟩
  exact k _ _ (Same.upd hp) (FrV.newOf e1 e2)
noncomputable abbrev s_minus:Stmt:=top 23
theorem sc_minus:FnScope ["one","other"] ["one","other"] (defScope s_minus):=scF
theorem ok_minus {ca:Ca} (D:DefAt K mg "minus" s_minus) (T:Txt K mg w ca) (G_plus:FnAt P w K mg base CX0 2 "plus" ["one","other"] (spPlus)):FnAt P w K mg base CX0 3 "minus" ["one","other"] (spMinus):=by
 refine D.ok sc_minus (fun vs H Q E h=>?_) (fun _ _ _ _ _ _ us hl=>match us,hl with | [_,_],_=>rfl) (fun f cdv A outer s H vs Q E hr h=>?_)
 ·obtain ⟨_,_,r,q,rfl,hx,⟨b,rfl,hb⟩,br,bq,k⟩:=h; rfl
 ·obtain ⟨_,_,r,q,rfl,hx,⟨b,rfl,hb⟩,br,bq,k⟩:=h
  have nd:=sc_minus.nd
  refine ⟨_,(pss_one (ps_ret (pfn G_plus hr (pa_cons (pv 0) (pa_cons (pe_tup (pa_cons (pe_op op_sub pe_int (pixT (pv 1) pe_int)) (pa_cons (pixT (pv 1) pe_int) pa_nil))) pa_nil))))),?_⟩
  refine ⟨_,rfl,_,rfl,b,_,_,_,rfl,rfl,SqT.of hb,rfl,_,_,rfl,rfl,_,rfl,b,_,_,_,rfl,rfl,SqT.of hb,rfl,sz (by simp),fun p hp=>?_⟩
  refine ⟨_,_,r,-q,rfl,hx.upd hp,FrV.newOf (neg_ok q).1 (neg_ok q).2,br,bq.neg,fun v H' s' h=>?_⟩
  have h:FrV H' v (r + -q):=h
  rw [sub_eq] at h
  exact k v H' ((Same.upd hp).trans s') h
noncomputable abbrev s_times:Stmt:=top 24
theorem sc_times:FnScope ["one","other","left","right"] ["one","other"] (defScope s_times):=scF
theorem ok_times {ca:Ca} (D:DefAt K mg "times" s_times) (T:Txt K mg w ca) (G_common_divisor:FnAt P w K mg base CX0 1 "common_divisor" ["top","bottom"] (spCd)):FnAt P w K mg base CX0 2 "times" ["one","other"] (spTimes):=by
 refine D.ok sc_times (fun vs H Q E h=>?_) (fun _ _ _ _ _ _ us hl=>match us,hl with | [_,_],_=>rfl) (fun f cdv A outer s H vs Q E hr h=>?_)
 ·obtain ⟨_,_,a,b,t1,b1,t2,b2,rfl,rfl,ha,rfl,hb,p1,n2,c1,c2,⟨z1,z2,z3,z4⟩,k⟩:=h; rfl
 ·obtain ⟨_,_,a,b,t1,b1,t2,b2,rfl,rfl,ha,rfl,hb,p1,n2,c1,c2,⟨z1,z2,z3,z4⟩,k⟩:=h
  have nd:=sc_times.nd
  refine ⟨_,(pss_cons (ps_set (i:=2) nd rfl (Or.inl rfl) (pfn G_common_divisor hr (pa_cons (pixT (pv 0) pe_int) (pa_cons (pixT (pv 1) pe_int) pa_nil))))
   (pss_cons (ps_set (i:=3) nd rfl (Or.inl rfl) (pfn G_common_divisor hr (pa_cons (pixT (pv 1) pe_int) (pa_cons (pixT (pv 0) pe_int) pa_nil))))
   (pss_one (ps_ret (pe_tup (pa_cons (pe_op op_mulB (pe_op op_fdivB (pixT (pv 0) pe_int) (pv 2)) (pe_op op_fdivB (pixT (pv 1) pe_int) (pv 3))) (pa_cons (pe_op op_mulB (pe_op op_fdivB (pixT (pv 0) pe_int) (pv 3)) (pe_op op_fdivB (pixT (pv 1) pe_int) (pv 2))) pa_nil))))))),?_⟩
  refine ⟨_,rfl,a,_,_,_,rfl,rfl,SqT.of ha,rfl,_,rfl,b,_,_,_,rfl,rfl,SqT.of hb,rfl,_,_,rfl,n2,?_⟩
  have l0:dv t1 b2 ≠ 0:=dv_ne n2
  have lle:(dv t1 b2).natAbs <= b2.natAbs:=dv_le n2
  have r0:dv t2 b1 ≠ 0:=dv_ne (by lia)
  have rle:(dv t2 b1).natAbs <= b1.natAbs:=dv_le (by lia)
  have ldiv:∀ i,CDivB i (dv t1 b2):=fun i=>divB_of l0 (Nat.lt_of_le_of_lt lle (Nat.lt_of_lt_of_le z4 (pow_le (by decide))))
  have rdiv:∀ i,CDivB i (dv t2 b1):=fun i=>divB_of r0 (Nat.lt_of_le_of_lt rle (Nat.lt_of_lt_of_le z2 (pow_le (by decide))))
  refine ⟨_,rfl,b,_,_,_,rfl,rfl,SqT.of hb,rfl,_,rfl,a,_,_,_,rfl,rfl,SqT.of ha,rfl,_,_,rfl,(by lia),?_⟩
  generalize hl:dv t1 b2 = l at *
  generalize hr:dv t2 b1 = r at *
  obtain ⟨e1,e2⟩:=times_ok p1 n2 c1 c2 hl.symm hr.symm
  have le1:∀ {x d:Int},x.natAbs < 2 ^ 8000->(x.fdiv d).natAbs < 2 ^ 8001:=fun {x d} hx=>by
   have:=natAbs_fdiv_le x d
   rw [Nat.pow_succ]; lia
  refine ⟨_,rfl,a,_,_,_,rfl,rfl,SqT.of ha,rfl,_,rfl,_,_,rfl,rfl,ldiv _,_,rfl,b,_,_,_,rfl,rfl,SqT.of hb,rfl,_,rfl,_,_,rfl,rfl,rdiv _,_,_,rfl,rfl,mulOk_of 8001 (le1 z1) (le1 z3) (by decide),_,rfl,a,_,_,_,rfl,rfl,SqT.of ha,rfl,_,rfl,_,_,rfl,rfl,rdiv _,_,rfl,b,_,_,_,rfl,rfl,SqT.of hb,rfl,_,rfl,_,_,rfl,rfl,ldiv _,_,_,rfl,rfl,mulOk_of 8001 (le1 z2) (le1 z4) (by decide),sz (by simp),fun p hp=>?_⟩
  exact k _ _ (Same.upd hp) (FrV.newOf e1 e2)
noncomputable abbrev s_over:Stmt:=top 25
theorem sc_over:FnScope ["one","other"] ["one","other"] (defScope s_over):=scF
theorem ok_over {ca:Ca} (D:DefAt K mg "over" s_over) (T:Txt K mg w ca) (G_times:FnAt P w K mg base CX0 2 "times" ["one","other"] (spTimes)):FnAt P w K mg base (CXE P w) 3 "over" ["one","other"] (spOver ca.NoNumber):=by
 refine D.okE sc_over (fun vs H Q E h=>?_) (fun _ _ _ _ _ _ us hl=>match us,hl with | [_,_],_=>rfl) (fun f cdv A outer s H vs Q E hr h=>?_)
 ·obtain ⟨_,_,r,q,rfl,⟨a,rfl,ha⟩,⟨b,rfl,hb⟩,br,bq,k,kE⟩:=h; rfl
 ·obtain ⟨_,_,r,q,rfl,⟨a,rfl,ha⟩,⟨b,rfl,hb⟩,br,bq,k,kE⟩:=h
  have nd:=sc_over.nd
  refine ⟨_,(pss_cons (ps_if (pt_cmpR op_eq (pixT (pv 1) pe_int) pe_int (nomark _)) (pss_one (ps_raise raises_cx rfl (by rfl) T.c_NoNumber T.e_NoNumber PySem.F.excBase_ValueError (pa_cons pe_str pa_nil))) pss_nil)
   (pss_one (ps_ret (pfn G_times hr (pa_cons (pv 0) (pa_cons (pe_tup (pa_cons (pixT (pv 1) pe_int) (pa_cons (pixT (pv 1) pe_int) pa_nil))) pa_nil)))))),?_⟩
  refine ⟨_,rfl,b,_,_,_,rfl,rfl,SqT.of hb,rfl,rfl,_,rfl,?_⟩
  refine ite2 (fun h1=>?_) (fun h1=>?_)
  ·have e:V.int q.num = .int 0:=of_decide_eq_true h1
   have e:q = 0:=Rat.num_eq_zero.mp (V.int.inj e)
   exact ⟨sz (by simp),kE e⟩
  have hn:q.num ≠ 0:=fun z=>h1 (decide_eq_true (by rw [z]))
  have hq:q ≠ 0:=fun z=>hn (Rat.num_eq_zero.mpr z)
  refine ⟨_,rfl,_,rfl,b,_,_,_,rfl,rfl,SqT.of hb,rfl,_,rfl,b,_,_,_,rfl,rfl,SqT.of hb,rfl,sz (by simp),fun p hp=>?_⟩
  have ne:a ≠ p:=ne_of_none ha hp
  refine ⟨_,_,a,p,r.num,r.den,q.den,q.num,rfl,rfl,(by rw [upd_ne ne]; exact ha),rfl,upd_same,rat_den_pos r,hn,rat_gcd r,gcd_swap q,⟨br.num,br.den,bq.den,bq.num⟩,fun v H' s' h=>?_⟩
  rw [div_eq r q hn] at h
  exact k hq v H' ((Same.upd hp).trans s') h
noncomputable abbrev s_under:Stmt:=top 26
theorem sc_under:FnScope ["one","other"] ["one","other"] (defScope s_under):=scF
theorem ok_under {ca:Ca} (D:DefAt K mg "under" s_under) (T:Txt K mg w ca):FnAt P w K mg base CX0 1 "under" ["one","other"] (spUnder):=by
 refine D.ok sc_under (fun vs H Q E h=>?_) (fun _ _ _ _ _ _ us hl=>match us,hl with | [_,_],_=>rfl) (fun f cdv A outer s H vs Q E hr h=>?_)
 ·obtain ⟨_,_,r,q,rfl,⟨a,rfl,ha⟩,⟨b,rfl,hb⟩,br,bq,k⟩:=h; rfl
 ·obtain ⟨_,_,r,q,rfl,⟨a,rfl,ha⟩,⟨b,rfl,hb⟩,br,bq,k⟩:=h
  have nd:=sc_under.nd
  refine ⟨_,(pss_one (ps_ret (pe_cmpR op_lt (pe_op op_mulB (pixT (pv 0) pe_int) (pixT (pv 1) pe_int)) (pe_op op_mulB (pixT (pv 1) pe_int) (pixT (pv 0) pe_int)) (nomark _)))),?_⟩
  refine ⟨_,rfl,a,_,_,_,rfl,rfl,SqT.of ha,rfl,_,rfl,b,_,_,_,rfl,rfl,SqT.of hb,rfl,_,_,rfl,rfl,mulOk_of 8000 br.num bq.den (by decide),_,rfl,b,_,_,_,rfl,rfl,SqT.of hb,rfl,_,rfl,a,_,_,_,rfl,rfl,SqT.of ha,rfl,_,_,rfl,rfl,mulOk_of 8000 bq.num br.den (by decide),_,_,rfl,rfl,?_⟩
  rw [<- _root_.Tc.lt_ok] at k
  exact k
noncomputable abbrev s_sum_of:Stmt:=top 27
theorem sc_sum_of:FnScope ["some","whole","share"] ["some"] (defScope s_sum_of):=scF
theorem ok_sum_of {ca:Ca} (D:DefAt K mg "sum_of" s_sum_of) (T:Txt K mg w ca) (G_plus:FnAt P w K mg base CX0 2 "plus" ["one","other"] (spPlus)):FnAt P w K mg base CX0 3 "sum_of" ["some"] (spSumOf K):=by
 refine D.ok sc_sum_of (fun vs H Q E h=>?_) (fun _ _ _ _ _ _ us hl=>match us,hl with | [_],_=>rfl) (fun f cdv A outer s H vs Q E hr h=>?_)
 ·obtain ⟨a,xs,rs,rfl,hS,hP,hB,hT,k⟩:=h; rfl
 ·obtain ⟨a,xs,rs,rfl,hS,hP,hB,hT,k⟩:=h
  have nd:=sc_sum_of.nd
  refine ⟨_,(pss_cons (ps_set (i:=1) nd rfl (Or.inl rfl) (pe_tup (pa_cons pe_int (pa_cons pe_int pa_nil))))
   (pss_cons (ps_for PassesOwn.never rfl (pi_list' (K:=K) rfl (pv 0)) (pg_name (i:=2) nd rfl (Or.inl rfl)) (pss_one (ps_set (i:=1) nd rfl (Or.inl rfl) (pfn G_plus hr (pa_cons (pv 1) (pa_cons (pv 2) pa_nil))))))
   (pss_one (ps_ret (pv 1))))),?_⟩
  refine ⟨sz (by simp),fun p0 hp0=>?_⟩
  have hl:xs.length = rs.length:=hP.length
  refine ⟨_,rfl,a,rfl,⟨_,(Same.upd hp0).seq hS⟩,?_⟩
  refine for_list (xs:=xs) (fun i σ H1=>∃ v2:Option V,∃ w1:V,σ = [some (.ref a),some w1,v2] /\ Same H H1 /\ FrV H1 w1 (sumQ (rs.take i))) ⟨none,.ref p0,rfl,Same.upd hp0,FrV.newOf rfl rfl⟩ ?_ ?_ ?_
  ·rintro i σ H1 hi ⟨v2,w1,rfl,s1,h1⟩
   exact s1.seq hS
  ·rintro i x σ H1 hx ⟨v2,w1,rfl,s1,h1⟩
   obtain ⟨r,hr,fr⟩:=paired_get hP hx
   have hi:i < rs.length:=(List.getElem?_eq_some_iff.mp hr).1
   refine ⟨_,rfl,_,rfl,_,_,_,_,rfl,h1,fr.same s1,hT i (by lia),hB r (List.mem_of_getElem? hr),fun v H2 s2 h2=>?_⟩
   refine ⟨_,_,rfl,s1.trans s2,?_⟩
   rw [sumQ_take hr]; exact h2
  ·rintro σ H1 ⟨v2,w1,rfl,s1,h1⟩
   rw [hl,List.take_length] at h1
   exact ⟨_,rfl,k _ _ s1 h1⟩
noncomputable abbrev s_poured:Stmt:=top 29
theorem sc_poured:FnScope ["one","other","mixed","lot","amount"] ["one","other"] (defScope s_poured):=scF
theorem ok_poured {ca:Ca} (D:DefAt K mg "poured" s_poured) (T:Txt K mg w ca) (G_plus:FnAt P w K mg base CX0 2 "plus" ["one","other"] (spPlus)):FnAt P w K mg base CX0 3 "poured" ["one","other"] (spPoured):=by
 refine D.ok sc_poured (fun vs H Q E h=>?_) (fun _ _ _ _ _ _ us hl=>match us,hl with | [_,_],_=>rfl) (fun f cdv A outer s H vs Q E hr h=>?_)
 ·obtain ⟨d,e,kk,f,rfl,hw,hk,he,hf,k⟩:=h; rfl
 ·obtain ⟨d,e,kk,f,rfl,hw,hk,he,hf,k⟩:=h
  have nd:=sc_poured.nd
  refine ⟨_,(pss_cons (ps_set (i:=2) nd rfl (Or.inl rfl) (pe_callTy call_dictT (by rfl) T.z_dict bt_dict (pa_cons (pv 0) pa_nil)))
   (pss_cons (ps_thaw (ps_for PassesOwn.never rfl (pi_items (pe_bm0' (K:=K) rfl PySem.F.plainAttrs_dict PySem.F.slot_dict_items PySem.F.type_dict_items mt_items (pv 1))) (pg_tup rfl (pgs_cons (pg_name (i:=3) nd rfl (Or.inl rfl)) (pgs_cons (pg_name (i:=4) nd rfl (Or.inl rfl)) pgs_nil))) (pss_one (ps_dput (hu_of hr) (pv 2) (pv 3) (pfn G_plus hr (pa_cons (pe_dget2 (hu_of hr) (pv 2) (pv 3) (pe_tup (pa_cons pe_int (pa_cons pe_int pa_nil))) ⟨by rfl,by rfl,by rfl,by rfl⟩) (pa_cons (pv 4) pa_nil))) rfl))))
   (pss_one (ps_ret (pv 2))))),?_⟩
  obtain ⟨kvs,hd,hl1,mk⟩:=hw.ex
  refine ⟨_,rfl,d,kvs,rfl,hd,hl1,fun q hq=>?_⟩
  have t0:=Same.upd (o:=.dT kvs) hq
  have he1:=t0 _ _ he
  have w0:=mk q _ t0.kpd upd_same
  have hf0:=hf.same t0
  have hq0:upd H q (.dT kvs) q = some (.dT kvs):=upd_same
  have neq:q ≠ e:=(ne_of_none he hq).symm
  generalize upd H q (.dT kvs) = H0 at *
  refine ⟨e,_,he1,rfl,?_⟩
  refine ⟨_,rfl,.inr (.inr (.inl ⟨rfl,.inr ⟨_,he1⟩⟩)),e,_,rfl,rfl,he1,rfl,fun pv hpv=>?_⟩
  have t1:=Same.upd (o:=viewO pv e) hpv
  refine ⟨pv,e,_,rfl,upd_same,t1 _ _ he1,rfl,fun o ps hps=>?_⟩
  have hps:Paired (fun kv p=>∃ b,p = (V.ref b,kv.2) /\ upd H0 pv (viewO pv e) b = some (.tup (kv.1.map kV))) [(LOT,f)] ps:=hps
  obtain ⟨b,rfl,hb⟩:∃ b,ps = [(V.ref b,f)] /\ upd H0 pv (viewO pv e) b = some (.tup (LOT.map kV)):=by
   cases hps with
   | cons h t =>
    cases t
    obtain ⟨b,e1,e2⟩:=h
    exact ⟨b,by rw [e1],e2⟩
  have hq1:=t1 _ _ hq0
  have he2:=t1 _ _ he1
  have w1:=w0.kp t1.kpd
  have hf1:=hf0.same t1
  have s1:=t0.trans t1
  generalize upd H0 pv (viewO pv e) = H1 at *
  have hget:(kvs = [] /\ kk = 0) \/ ∃ f',kvs = [(LOT,f')] /\ FrV H1 f' ((kk:Rat) / 10000):=by
   rcases w1 with ⟨h1,h2⟩ | ⟨h1,f',h2,h3⟩
   ·rw [hq1] at h2; cases h2; exact .inl ⟨rfl,h1⟩
   ·rw [hq1] at h2; cases h2; exact .inr ⟨f',rfl,h3⟩
  have nbe:b ≠ e:=ne_of hb he2 (by intro z; cases z)
  have nbq:b ≠ q:=ne_of hb hq1 (by intro z; cases z)
  have ktu:∀ {H2:Hp},(∀ c ob,H1 c = some ob->c ≠ e->c ≠ q->H2 c = some ob)->∀ c zs,H1 c = some (.tup zs)->H2 c = some (.tup zs):=fun kp c zs ec=>kp c _ ec (ne_of ec he2 (by intro z; cases z)) (ne_of ec hq1 (by intro z; cases z))
  refine for_items (fun i σ H2=>∃ (v3 v4:Option V),σ = [some (.ref d),some (.ref e),some (.ref q),v3,v4] /\ H2 e = some (.frz o (.dT [(LOT,f)])) /\ (∀ c ob,H1 c = some ob->c ≠ e->c ≠ q->H2 c = some ob) /\ (i = 0->H2 q = some (.dT kvs)) /\ (i = 1->∃ u,H2 q = some (.dT [(LOT,u)]) /\ FrV H2 u ((kk:Rat) / 10000 + 1 / 10000))) ?_ ?_ ?_ ?_
  ·refine ⟨none,none,rfl,upd_same,fun c ob ec n1 n2=>by rw [upd_ne n1]; exact ec,fun _=>by rw [upd_ne neq]; exact hq1,fun z=>nomatch z⟩
  ·rintro i σ H2 ⟨_,_,_,h,_⟩
   exact h
  ·rintro i k' v T σ H2 hk ⟨v3,v4,rfl,hfe,kp,hi0,_⟩ hT
   have hi:i = 0:=by
    have:=(List.getElem?_eq_some_iff.mp hk).1
    simp at this
    exact this
   subst hi
   have hk:(V.ref b,f) = (k',v):=Option.some.inj hk
   obtain ⟨rfl,rfl⟩:=Prod.mk.inj hk
   have hq2:=hi0 rfl
   have ti:=Same.upd (o:=.tup [V.ref b,f]) hT
   have kt:=ktu kp
   refine ⟨T,_,rfl,SqT.of upd_same,rfl,_,_,rfl,_,_,rfl,rfl,?_⟩
   have hq3:=ti _ _ hq2
   refine ⟨_,rfl,q,rfl,.inr ⟨kvs,.inl hq3⟩,_,rfl,sz (by simp),fun z hz=>?_⟩
   have tz:=Same.upd (o:=.tup [.int 0,.int 1]) hz
   have s3:=ti.trans tz
   have hb4:=s3 _ _ (kt _ _ hb)
   have hq4:=s3 _ _ hq2
   have hf4:FrV (upd (upd H2 T (.tup [V.ref b,f])) z (.tup [.int 0,.int 1])) f (1 / 10000):=(hf1.tup kt).same s3
   have hx4:FrV (upd (upd H2 T (.tup [V.ref b,f])) z (.tup [.int 0,.int 1])) ((valV kvs LOT).getD (.ref z)) ((kk:Rat) / 10000):=by
    rcases hget with ⟨e1,e2⟩ | ⟨f',e1,e2⟩
    ·rw [e1,e2]
     exact FrV.newOf (by decide +kernel) (by decide +kernel)
    ·rw [e1]
     have ev:(valV [(LOT,f')] LOT).getD (.ref z) = f':=by simp [valV]
     rw [ev]
     exact (e2.tup kt).same s3
   refine ⟨_,DGet.t hq4 hb4,_,rfl,_,_,(kk:Rat) / 10000,1 / 10000,rfl,hx4,hf4,(bd10k kk (by lia)).mono (by decide),⟨by decide +kernel,by decide +kernel⟩,fun u H5 s5 f5=>?_⟩
   have hb5:=s5 _ _ hb4
   have hq5:=s5 _ _ hq4
   refine ⟨_,rfl,_,rfl,q,_,rfl,DPut.t hq5 hb5 (sz (by lia)),?_⟩
   have ep:putK kvs LOT u = [(LOT,u)]:=by
    rcases hget with ⟨e1,_⟩ | ⟨f',e1,_⟩
    ·rw [e1]; rfl
    ·rw [e1]; simp [putK]
   rw [ep]
   have s35:=s3.trans s5
   refine ⟨_,_,rfl,by rw [upd_ne (Ne.symm neq)]; exact s35 _ _ hfe,fun c ob ec n1 n2=>by rw [upd_ne n2]; exact s35 _ _ (kp c ob ec n1 n2),(fun z=>nomatch z),fun _=>⟨u,upd_same,?_⟩⟩
   exact f5.tup fun c zs ec=>by rw [upd_ne (ne_of ec hq5 (by intro z; cases z))]; exact ec
  ·rintro σ H2 ⟨v3,v4,rfl,hfe,kp,_,h1⟩
   obtain ⟨u,hu,fu⟩:=h1 rfl
   refine ⟨o,_,hfe,_,rfl,k q _ hq ?_ (.inr ⟨by lia,u,by rw [upd_ne neq]; exact hu,?_⟩)⟩
   ·intro x ob ex
    by_cases z:x = e
    ·subst z; rw [upd_same]; rw [he] at ex; exact ex
    ·rw [upd_ne z]; exact kp _ _ (s1 _ _ ex) z (fun z=>by subst z; rw [hq] at ex; cases ex)
   ·rw [<- frac1]
    exact fu.tup fun c zs ec=>by rw [upd_ne (ne_of ec hfe (by intro z; cases z))]; exact ec
noncomputable abbrev s_total:Stmt:=top 31
theorem sc_total:FnScope ["wine"] ["wine"] (defScope s_total):=scF
theorem ok_total {ca:Ca} (D:DefAt K mg "total" s_total) (T:Txt K mg w ca) (G_sum_of:FnAt P w K mg base CX0 3 "sum_of" ["some"] (spSumOf K)):FnAt P w K mg base CX0 4 "total" ["wine"] (spTot52):=by
 refine D.ok sc_total (fun vs H Q E h=>?_) (fun _ _ _ _ _ _ us hl=>match us,hl with | [_],_=>rfl) (fun f cdv A outer s H vs Q E hr h=>?_)
 ·obtain ⟨d,kk,rfl,hw,hk,k⟩:=h; rfl
 ·obtain ⟨d,kk,rfl,hw,hk,k⟩:=h
  have nd:=sc_total.nd
  refine ⟨_,(pss_one (ps_ret (pfn G_sum_of hr (pa_cons (pe_callTy (call_list_vals rfl) (by rfl) T.z_list bt_list (pa_cons (pe_bm0' (K:=K) rfl PySem.F.plainAttrs_dict PySem.F.slot_dict_values PySem.F.type_dict_values mt_vals (pv 0)) pa_nil)) pa_nil)))),?_⟩
  obtain ⟨kvs,hd,rs,hP,hr,es⟩:∃ kvs,H d = some (.dT kvs) /\ ∃ rs:List Rat,Paired (fun (e:List Key × V) r=>FrV H e.2 r) kvs rs /\ (rs = [] \/ rs = [(kk:Rat) / 10000]) /\ sumQ rs = (kk:Rat) / 10000:=by
   rcases hw with ⟨h1,h2⟩ | ⟨h1,f,h2,h3⟩
   ·refine ⟨_,h2,[],.nil,.inl rfl,?_⟩
    subst h1
    decide +kernel
   ·refine ⟨_,h2,[_],.cons h3 .nil,.inr rfl,?_⟩
    show (0:Rat) + _ = _
    exact Rat.zero_add _
  refine ⟨_,rfl,.inr (.inr (.inl ⟨rfl,.inr ⟨_,hd⟩⟩)),d,_,rfl,rfl,hd,rfl,fun pv hpv=>?_⟩
  have t1:=Same.upd (o:=valsO pv d) hpv
  refine ⟨pv,d,_,rfl,upd_same,t1 _ _ hd,rfl,fun ps hps l hl=>?_⟩
  have hps:Paired (fun kv p=>∃ b,p = (V.ref b,kv.2) /\ upd H pv (valsO pv d) b = some (.tup (kv.1.map kV))) kvs ps:=hps
  have t2:=t1.trans (Same.upd (o:=.lst (ps.map (·.2))) hl)
  have hP2:Paired (FrV (upd (upd H pv (valsO pv d)) l (.lst (ps.map (·.2))))) (ps.map (·.2)) rs:=by
   refine paired_same t2 ?_
   have key:∀ {kvs:List (List Key × V)} {ps:List (V × V)} {rs:List Rat},Paired (fun kv p=>∃ b,p = (V.ref b,kv.2) /\ upd H pv (valsO pv d) b = some (.tup (kv.1.map kV))) kvs ps->Paired (fun (e:List Key × V) r=>FrV H e.2 r) kvs rs->Paired (FrV H) (ps.map (·.2)) rs:=by
    intro kvs ps rs h1
    induction h1 generalizing rs with
    | nil=>intro h2; cases h2; exact .nil
    | cons h t ih =>
     intro h2
     cases h2 with
     | cons g u =>
      obtain ⟨b,e,_⟩:=h
      refine .cons ?_ (ih u)
      rw [e]; exact g
   exact key hps hP
  refine ⟨l,ps.map (·.2),rs,rfl,SqL.of upd_same,hP2,fun r hr'=>?_,fun j hj=>?_,fun u H' s' f'=>k u H' (t2.trans s') (es ▸ f')⟩
  ·rcases hr with rfl | rfl
   ·cases hr'
   ·rw [List.mem_singleton.mp hr']
    exact (bd10k kk (by lia)).mono (by decide)
  ·have z0:Bd 8000 (0:Rat):=⟨by decide,by decide⟩
   rcases hr with rfl | rfl
   ·rw [List.take_nil]; exact z0
   ·cases j with
    | zero=>exact z0
    | succ j =>
     have e:([(kk:Rat) / 10000].take (j + 1)) = [(kk:Rat) / 10000]:=by simp
     rw [e,es]
     exact (bd10k kk (by lia)).mono (by decide)
noncomputable abbrev s_copied:Stmt:=top 33
theorem sc_copied:FnScope ["standing","copies","name","wine"] ["standing"] (defScope s_copied):=scF
theorem ok_copied {ca:Ca} (D:DefAt K mg "copied" s_copied) (T:Txt K mg w ca):FnAt P w K mg base CX0 1 "copied" ["standing"] (spCopied):=by
 refine D.ok sc_copied (fun vs H Q E h=>?_) (fun _ _ _ _ _ _ us hl=>match us,hl with | [_],_=>rfl) (fun f cdv A outer s H vs Q E hr h=>?_)
 ·obtain ⟨a,kv,L,g,rfl,ha,hW,nL,l8,k⟩:=h; rfl
 ·obtain ⟨a,kv,L,g,rfl,ha,hW,nL,l8,k⟩:=h
  have nd:=sc_copied.nd
  refine ⟨_,(pss_cons (ps_set (i:=1) nd rfl (Or.inl rfl) pe_dnewK)
   (pss_cons (ps_thaw (ps_for PassesOwn.never rfl (pi_items (pe_bm0' (K:=K) rfl PySem.F.plainAttrs_dict PySem.F.slot_dict_items PySem.F.type_dict_items mt_items (pv 0))) (pg_tup rfl (pgs_cons (pg_name (i:=2) nd rfl (Or.inl rfl)) (pgs_cons (pg_name (i:=3) nd rfl (Or.inl rfl)) pgs_nil))) (pss_one (ps_dput (hu_of hr) (pv 1) (pv 2) (pe_callTy call_dictT (by rfl) T.z_dict bt_dict (pa_cons (pv 3) pa_nil)) rfl))))
   (pss_one (ps_ret (pv 1))))),?_⟩
  intro p hp
  have tp:=Same.upd (o:=.dK []) hp
  have ha1:=tp _ _ ha
  refine ⟨a,_,ha1,rfl,?_⟩
  refine ⟨_,rfl,.inr (.inr (.inl ⟨rfl,.inl ⟨_,ha1⟩⟩)),a,_,rfl,rfl,ha1,rfl,fun pv hpv=>?_⟩
  have t1:=tp.trans (Same.upd (o:=viewO pv a) hpv)
  refine ⟨pv,a,_,rfl,upd_same,t1 _ _ ha,rfl,fun o ps hps=>?_⟩
  have hps:ps = kv.map fun e=>(kV e.1,e.2):=hps
  subst hps
  have npa:p ≠ a:=(ne_of_none ha hp).symm
  have lkv:kv.length = L.length:=hW.length
  refine for_items (fun i σ H2=>∃ (v2 v3:Option V) (kvt:List (Key × V)),σ = [some (.ref a),some (.ref p),v2,v3] /\ H2 a = some (.frz o (.dK kv)) /\ (∀ c ob,H c = some ob->c ≠ a->H2 c = some ob) /\ H2 p = some (.dK kvt) /\ WS H2 kvt (L.take i) g) ?_ ?_ ?_ ?_
  ·refine ⟨none,none,[],rfl,upd_same,fun c ob q n=>by rw [upd_ne n]; exact t1 _ _ q,?_,?_⟩
   ·rw [upd_ne npa]; exact (Same.upd (o:=viewO pv a) hpv) _ _ upd_same
   ·rw [List.take_zero]; exact .nil
  ·rintro i σ H2 ⟨_,_,_,_,h,_⟩
   exact h
  ·rintro i k' v T σ H2 hk ⟨v2,v3,kvt,rfl,hfa,hkeep,hp2,ws⟩ hT
   obtain ⟨e,hki,rfl⟩:=items_at hk
   obtain ⟨z,hz,d,ee,w⟩:=paired_get hW hki
   obtain ⟨rfl,rfl⟩:=Prod.mk.inj ee
   have kp2:=KpD.but ha hkeep
   have t3:=Same.upd (o:=.tup [kV (.inr z),V.ref d]) hT
   have lw:kvt.length = (L.take i).length:=ws.length
   obtain ⟨kvs,hd,hl1,mk⟩:=(w.kp (kp2.trans t3.kpd)).ex
   refine ⟨T,_,rfl,SqT.of upd_same,rfl,_,_,rfl,_,_,rfl,rfl,?_⟩
   refine ⟨_,rfl,d,kvs,rfl,hd,hl1,fun q hq=>?_⟩
   have t4:=Same.upd (o:=.dT kvs) hq
   have s34:=t3.trans t4
   have hp4:=s34 _ _ hp2
   refine ⟨_,rfl,_,rfl,p,_,rfl,DPut.k (k:=.inr z) hp4 (sz (by rw [lw,List.length_take]; lia)),?_⟩
   have nfa:upd (upd (upd H2 T (.tup [kV (.inr z),V.ref d])) q (.dT kvs)) p (.dK (putK kvt (.inr z) (.ref q))) a = some (.frz o (.dK kv)):=by rw [upd_ne (Ne.symm npa)]; exact s34 _ _ hfa
   refine ⟨_,_,_,rfl,nfa,fun c ob q n=>?_,upd_same,?_⟩
   ·rw [upd_ne (fun z=>by subst z; rw [hp] at q; cases q)]
    exact s34 _ _ (hkeep c ob q n)
   ·rw [take_one hz]
    have wq:=(mk q _ t4.kpd upd_same).kp (KpD.upd (o:=.dK (putK kvt (.inr z) (.ref q))) hp4 rfl)
    refine WS.snoc (ws.kp (s34.kpd.trans (KpD.upd hp4 rfl))) ?_ wq
    intro hm
    obtain ⟨j,hj,ej⟩:=List.getElem_of_mem hm
    rw [List.length_take] at hj
    rw [List.getElem_take] at ej
    have hi:i < L.length:=(List.getElem?_eq_some_iff.mp hz).1
    exact List.pairwise_iff_getElem.mp nL j i (by lia) hi (by lia) (ej.trans (List.getElem?_eq_some_iff.mp hz).2.symm)
  ·rintro σ H2 ⟨v2,v3,kvt,rfl,hfa,hkeep,hp2,ws⟩
   have el:L.take (kv.map fun e=>(kV e.1,e.2)).length = L:=by rw [List.length_map,lkv,List.take_length]
   rw [el] at ws
   refine ⟨o,_,hfa,_,rfl,k p _ kvt hp (same_thaw ha hkeep) (by rw [upd_ne npa]; exact hp2) ?_⟩
   exact ws.kp (KpD.upd hfa rfl)
noncomputable abbrev s_totals_of:Stmt:=top 34
theorem sc_totals_of:FnScope ["standing","totals","name","wine"] ["standing"] (defScope s_totals_of):=scF
theorem ok_totals_of {ca:Ca} (D:DefAt K mg "totals_of" s_totals_of) (T:Txt K mg w ca) (G_total:FnAt P w K mg base CX0 4 "total" ["wine"] (spTot52)):FnAt P w K mg base CX0 5 "totals_of" ["standing"] (spTots):=by
 refine D.ok sc_totals_of (fun vs H Q E h=>?_) (fun _ _ _ _ _ _ us hl=>match us,hl with | [_],_=>rfl) (fun f cdv A outer s H vs Q E hr h=>?_)
 ·obtain ⟨a,kv,L,g,rfl,ha,hW,nL,l8,hg,k⟩:=h; rfl
 ·obtain ⟨a,kv,L,g,rfl,ha,hW,nL,l8,hg,k⟩:=h
  have nd:=sc_totals_of.nd
  refine ⟨_,(pss_cons (ps_set (i:=1) nd rfl (Or.inl rfl) pe_dnewK)
   (pss_cons (ps_thaw (ps_for PassesOwn.never rfl (pi_items (pe_bm0' (K:=K) rfl PySem.F.plainAttrs_dict PySem.F.slot_dict_items PySem.F.type_dict_items mt_items (pv 0))) (pg_tup rfl (pgs_cons (pg_name (i:=2) nd rfl (Or.inl rfl)) (pgs_cons (pg_name (i:=3) nd rfl (Or.inl rfl)) pgs_nil))) (pss_one (ps_dput (hu_of hr) (pv 1) (pv 2) (pfn G_total hr (pa_cons (pv 3) pa_nil)) rfl))))
   (pss_one (ps_ret (pv 1))))),?_⟩
  intro p hp
  have tp:=Same.upd (o:=.dK []) hp
  have ha1:=tp _ _ ha
  refine ⟨a,_,ha1,rfl,?_⟩
  refine ⟨_,rfl,.inr (.inr (.inl ⟨rfl,.inl ⟨_,ha1⟩⟩)),a,_,rfl,rfl,ha1,rfl,fun pv hpv=>?_⟩
  have t1:=tp.trans (Same.upd (o:=viewO pv a) hpv)
  refine ⟨pv,a,_,rfl,upd_same,t1 _ _ ha,rfl,fun o ps hps=>?_⟩
  have hps:ps = kv.map fun e=>(kV e.1,e.2):=hps
  subst hps
  have npa:p ≠ a:=(ne_of_none ha hp).symm
  have lkv:kv.length = L.length:=hW.length
  refine for_items (fun i σ H2=>∃ (v2 v3:Option V) (kvt:List (Key × V)),σ = [some (.ref a),some (.ref p),v2,v3] /\ H2 a = some (.frz o (.dK kv)) /\ (∀ c ob,H c = some ob->c ≠ a->H2 c = some ob) /\ H2 p = some (.dK kvt) /\ RowAt H2 kvt (all (L.take i) (tenK g))) ?_ ?_ ?_ ?_
  ·refine ⟨none,none,[],rfl,upd_same,fun c ob q n=>by rw [upd_ne n]; exact t1 _ _ q,?_,?_⟩
   ·rw [upd_ne npa]; exact (Same.upd (o:=viewO pv a) hpv) _ _ upd_same
   ·rw [List.take_zero]; exact (all_nil _) ▸ RowAt.nil _
  ·rintro i σ H2 ⟨_,_,_,_,h,_⟩
   exact h
  ·rintro i k' v T σ H2 hk ⟨v2,v3,kvt,rfl,hfa,hkeep,hp2,row⟩ hT
   obtain ⟨e,hki,rfl⟩:=items_at hk
   obtain ⟨z,hz,d,ee,w⟩:=paired_get hW hki
   obtain ⟨rfl,rfl⟩:=Prod.mk.inj ee
   have kp2:=KpD.but ha hkeep
   have t3:=Same.upd (o:=.tup [kV (.inr z),V.ref d]) hT
   have len:kvt.length <= (L.take i).length:=row.lenO fun z hz=>all_sub hz
   have len':kvt.length <= 8:=by rw [List.length_take] at len; lia
   refine ⟨T,_,rfl,SqT.of upd_same,rfl,_,_,rfl,_,_,rfl,rfl,?_⟩
   refine ⟨_,rfl,d,g z,rfl,w.kp (kp2.trans t3.kpd),hg z,fun u H4 s4 f4=>?_⟩
   have s34:=t3.trans s4
   have hp4:=s34 _ _ hp2
   refine ⟨_,rfl,_,rfl,p,_,rfl,DPut.k (k:=.inr z) hp4 (sz (by lia)),?_⟩
   have nfa:upd H4 p (.dK (putK kvt (.inr z) u)) a = some (.frz o (.dK kv)):=by rw [upd_ne (Ne.symm npa)]; exact s34 _ _ hfa
   refine ⟨_,_,_,rfl,nfa,fun c ob q n=>?_,upd_same,?_⟩
   ·rw [upd_ne (fun z=>by subst z; rw [hp] at q; cases q)]
    exact s34 _ _ (hkeep c ob q n)
   ·rw [take_one hz,all_snoc]
    exact ((row.same fun _ _ g=>g.same s34).put (z:=z) f4).same fun v r g=>(KpD.upd hp4 rfl).fr g
  ·rintro σ H2 ⟨v2,v3,kvt,rfl,hfa,hkeep,hp2,row⟩
   have el:L.take (kv.map fun e=>(kV e.1,e.2)).length = L:=by rw [List.length_map,lkv,List.take_length]
   rw [el] at row
   refine ⟨o,_,hfa,_,rfl,k p _ kvt hp (same_thaw ha hkeep) (by rw [upd_ne npa]; exact hp2) ?_⟩
   exact row.same fun v r g=>g.tup fun b zs e=>by rw [upd_ne (ne_of e hfa (by intro z; cases z))]; exact e
noncomputable abbrev s_rooms_of:Stmt:=top 35
theorem sc_rooms_of:FnScope ["house","rooms","place"] ["house"] (defScope s_rooms_of):=scF
theorem ok_rooms_of {ca:Ca} (D:DefAt K mg "rooms_of" s_rooms_of) (T:Txt K mg w ca):FnAt P w K mg base CX0 1 "rooms_of" ["house"] (spRooms K):=by
 refine D.ok sc_rooms_of (fun vs H Q E h=>?_) (fun _ _ _ _ _ _ us hl=>match us,hl with | [_],_=>rfl) (fun f cdv A outer s H vs Q E hr h=>?_)
 ·obtain ⟨a,xs,ps,rfl,hS,hP,hH,k⟩:=h; rfl
 ·obtain ⟨a,xs,ps,rfl,hS,hP,hH,k⟩:=h
  have nd:=sc_rooms_of.nd
  refine ⟨_,(pss_cons (ps_set (i:=1) nd rfl (Or.inl rfl) pe_dnewK)
   (pss_cons (ps_for PassesOwn.never rfl (pi_list' (K:=K) rfl (pv 0)) (pg_name (i:=2) nd rfl (Or.inl rfl)) (pss_one (ps_if (pt_cmpR op_eq (pixT (pv 2) pe_int) pe_str (nomark _)) (pss_one (ps_dput (hu_of hr) (pv 1) (pixT (pv 2) pe_int) (pixT (pv 2) pe_int) rfl)) pss_nil)))
   (pss_one (ps_ret (pv 1))))),?_⟩
  have hlen:xs.length = ps.length:=hP.length
  intro p hp
  have tp:=Same.upd (o:=.dK []) hp
  refine ⟨_,rfl,a,rfl,⟨_,tp.seq hS⟩,?_⟩
  refine for_list (xs:=xs) (fun i σ H1=>∃ (v2:Option V) (kv:List (Key × V)),σ = [some (.ref a),some (.ref p),v2] /\ Same H H1 /\ H1 p = some (.dK kv) /\ RowAt H1 kv (rmF (ps.take i))) ⟨none,[],rfl,tp,upd_same,RowAt.nil _⟩ ?_ ?_ ?_
  ·rintro i σ H1 hi ⟨v2,kv,rfl,s1,h1,row⟩
   exact s1.seq hS
  ·rintro i x σ H1 hx ⟨v2,kv,rfl,s1,h1,row⟩
   obtain ⟨pl,hpl,pv⟩:=paired_get hP hx
   have pv:=pv.same s1
   have en:=take_one hpl
   have nin:=allN_take hH hpl
   have len:kv.length <= (allN (ps.take i)).length:=row.lenO fun z hz=>rm_sub hz
   have l8:kv.length <= 8:=by
    unfold allN at len
    rw [List.length_map,List.length_take] at len
    have:=hH.len
    lia
   cases pl with
   | ck z r =>
    obtain ⟨b,f,rfl,hb,hf⟩:=pv
    refine ⟨_,rfl,b,_,_,_,rfl,rfl,SqT.of hb,rfl,rfl,_,rfl,?_⟩
    refine dec_true rfl ?_
    refine ⟨_,rfl,b,_,_,_,rfl,rfl,SqT.of hb,rfl,_,rfl,_,rfl,b,_,_,_,rfl,rfl,SqT.of hb,rfl,p,upd H1 p (.dK (putK kv (.inr z) f)),rfl,DPut.k (k:=.inr z) h1 (sz (by lia)),?_⟩
    refine ⟨_,putK kv (.inr z) f,rfl,s1.updD hp,upd_same,?_⟩
    have nin:z ∉ allN (ps.take i):=nin
    rw [en,rmF_ck nin]
    exact (row.put (z:=z) hf).same fun v r g=>g.tup (tup_of h1 (fun _ z=>nomatch z))
   | sk z =>
    obtain ⟨b,rfl,hb⟩:=pv
    refine ⟨_,rfl,b,_,_,_,rfl,rfl,SqT.of hb,rfl,rfl,_,rfl,?_⟩
    refine dec_false (by decide +kernel) ?_
    refine ⟨_,kv,rfl,s1,h1,?_⟩
    rw [en,rmF_sk]; exact row
  ·rintro σ H1 ⟨v2,kv,rfl,s1,h1,row⟩
   rw [hlen,List.take_length] at row
   exact ⟨_,rfl,k p H1 kv hp s1 h1 row⟩
noncomputable abbrev s_check_room:Stmt:=top 36
theorem sc_check_room:FnScope ["name","amount","at","totals","rooms"] ["name","amount","at","totals","rooms"] (defScope s_check_room):=scF
theorem ok_check_room {ca:Ca} (D:DefAt K mg "check_room" s_check_room) (T:Txt K mg w ca) (G_under:FnAt P w K mg base CX0 1 "under" ["one","other"] (spUnder)) (G_plus:FnAt P w K mg base CX0 2 "plus" ["one","other"] (spPlus)):FnAt P w K mg base CX0 3 "check_room" ["name","amount","at","totals","rooms"] (spCheck):=by
 refine D.ok sc_check_room (fun vs H Q E h=>?_) (fun _ _ _ _ _ _ us hl=>match us,hl with | [_,_,_,_,_],_=>rfl) (fun f cdv A outer s H vs Q E hr h=>?_)
 ·obtain ⟨z,v,n,ps,t,pt,pr,kvt,kvr,g,rfl,hs,hz,hv,bg,bt,hm,k⟩:=h; rfl
 ·obtain ⟨z,v,n,ps,t,pt,pr,kvt,kvr,g,rfl,hs,hz,hv,bg,bt,hm,k⟩:=h
  have nd:=sc_check_room.nd
  refine ⟨_,(pss_one (ps_if (PW.pt (pw_and (pt_cmp (pc_din (hu_of hr) (pv 0) (pv 4))) (pw_and1 (pt_val (pfn G_under hr (pa_cons (pe_dget (hu_of hr) (pv 4) (pv 0) (fun _ _=>rfl)) (pa_cons (pfn G_plus hr (pa_cons (pe_dget (hu_of hr) (pv 3) (pv 0) (fun _ _=>rfl)) (pa_cons (pv 1) pa_nil))) pa_nil))))))) (pss_one ps_never) pss_nil)),?_⟩
  cases e:rmF ps z with
  | none =>
   have dg:=DGet.k (k:=.inr z) hs.dr
   rw [hs.rr.not z e] at dg
   refine ⟨_,rfl,_,rfl,pr,_,rfl,dg,_,rfl,?_⟩
   refine iteF ?_
   exact k H (Same.refl _)
  | some m =>
   obtain ⟨bm,le⟩:=hm m e
   obtain ⟨w,dg,fm⟩:=hs.room e
   obtain ⟨u,dt,fu⟩:=hs.tot hz
   refine ⟨_,rfl,_,rfl,pr,_,rfl,dg,_,rfl,?_⟩
   refine iteT ?_
   refine ⟨_,rfl,_,rfl,pr,w,rfl,dg,_,rfl,_,rfl,pt,u,rfl,dt,_,rfl,_,_,t z,g,rfl,fu,hv,bt.mono (by decide),bg.mono (by decide),fun v1 H1 s1 f1=>?_⟩
   refine ⟨_,_,m,t z + g,rfl,fm.same s1,f1,bm.mono (by decide),(bt.add bg).mono (by decide),_,rfl,?_⟩
   have nl:¬ m < t z + g:=by grind
   rw [decide_eq_false nl]
   refine iteF ?_
   exact k H1 s1
noncomputable abbrev s_share_of:Stmt:=top 37
theorem sc_share_of:FnScope ["deed","at","totals","rooms","amount"] ["deed","at","totals","rooms"] (defScope s_share_of):=scF
theorem ok_share_of {ca:Ca} (D:DefAt K mg "share_of" s_share_of) (T:Txt K mg w ca) (G_minus:FnAt P w K mg base CX0 3 "minus" ["one","other"] (spMinus)) (G_under:FnAt P w K mg base CX0 1 "under" ["one","other"] (spUnder)) (G_over:FnAt P w K mg base (CXE P w) 3 "over" ["one","other"] (spOver ca.NoNumber)):FnAt P w K mg base CX0 4 "share_of" ["deed","at","totals","rooms"] (spShareOf):=by
 refine D.ok sc_share_of (fun vs H Q E h=>?_) (fun _ _ _ _ _ _ us hl=>match us,hl with | [_,_,_,_],_=>rfl) (fun f cdv A outer s H vs Q E hr h=>?_)
 ·obtain ⟨v,d,n,ps,t,pt,pr,kvt,kvr,i,rfl,hs,dv0,hp,ok,go,hI,hi,hro,k⟩:=h; rfl
 ·obtain ⟨v,d,n,ps,t,pt,pr,kvt,kvr,i,rfl,hs,dv0,hp,ok,go,hI,hi,hro,k⟩:=h
  have nd:=sc_share_of.nd
  refine ⟨_,(pss_cons (ps_if (pt_cmpR op_eq (pixT (pv 0) pe_int) pe_str (nomark _)) (pss_one (ps_ret (pixT (pv 0) pe_int))) pss_nil)
   (pss_cons (ps_if (pt_cmpR op_eq (pixT (pv 0) pe_int) pe_str (nomark _)) (pss_one (ps_ret (pe_tup (pa_cons pe_int (pa_cons pe_int pa_nil))))) pss_nil)
   (pss_cons (ps_set (i:=4) nd rfl (Or.inl rfl) (pe_ifExp (pt_cmpR op_eq (pixT (pv 0) pe_int) pe_str (nomark _)) (pixT (pv 0) pe_int) (pfn G_minus hr (pa_cons (pe_dget (hu_of hr) (pv 3) (pixT (pv 0) pe_int) (fun _ _=>rfl)) (pa_cons (pe_dget (hu_of hr) (pv 2) (pixT (pv 0) pe_int) (fun _ _=>rfl)) pa_nil)))))
   (pss_cons (ps_if (pt_val (pfn G_under hr (pa_cons (pe_dget (hu_of hr) (pv 2) (pixT (pv 0) pe_int) (fun _ _=>rfl)) (pa_cons (pv 4) pa_nil)))) (pss_one ps_never) pss_nil)
   (pss_cons (ps_if (pt_cmpR (op_eqD' (K:=K) rfl hr) (pv 4) (pe_tup (pa_cons pe_int (pa_cons pe_int pa_nil))) (nomark _)) (pss_one (ps_ret (pe_tup (pa_cons pe_int (pa_cons pe_int pa_nil))))) pss_nil)
   (pss_one (ps_ret (pe_fn G_over hr (by rfl) pass00 (pa_cons (pv 4) (pa_cons (pe_dget (hu_of hr) (pv 2) (pixT (pv 0) pe_int) (fun _ _=>rfl)) pa_nil)))))))))),?_⟩
  have P:=PsD.of hI hro hi hp ok go
  have fx:=hs.tot (ck_sub P.x)
  have bx:=(hI.sz _ (ck_sub P.x)).bd (by lia)
  have bg:=P.g.bd (by lia)
  have g0:=P.g.nn
  have gle:=P.le
  cases d with
  | br _ _ _=>cases hp
  | yr=>cases hp
  | pt x y q =>
   obtain ⟨a,f,rfl,ha,hf⟩:=dv0
   refine ⟨_,rfl,a,_,_,_,rfl,rfl,SqT.of ha,rfl,rfl,_,rfl,?_⟩
   refine dec_true rfl ?_
   exact ⟨_,rfl,a,_,_,_,rfl,rfl,SqT.of ha,rfl,k _ _ (Same.refl _) hf⟩
  | al x y =>
   obtain ⟨a,rfl,ha⟩:=dv0
   refine ⟨_,rfl,a,_,_,_,rfl,rfl,SqT.of ha,rfl,rfl,_,rfl,?_⟩
   refine dec_false (by decide +kernel) ?_
   refine ⟨_,rfl,a,_,_,_,rfl,rfl,SqT.of ha,rfl,rfl,_,rfl,?_⟩
   refine dec_true rfl ?_
   exact ⟨sz (by simp),fun p hp=>k _ _ (Same.upd hp) (FrV.newOf rfl rfl)⟩
  | fl x y =>
   obtain ⟨a,rfl,ha⟩:=dv0
   refine ⟨_,rfl,a,_,_,_,rfl,rfl,SqT.of ha,rfl,rfl,_,rfl,?_⟩
   refine dec_false (by decide +kernel) ?_
   refine ⟨_,rfl,a,_,_,_,rfl,rfl,SqT.of ha,rfl,rfl,_,rfl,?_⟩
   refine dec_false (by decide +kernel) ?_
   refine ⟨_,rfl,a,_,_,_,rfl,rfl,SqT.of ha,rfl,rfl,_,rfl,?_⟩
   refine dec_false (by decide +kernel) ?_
   obtain ⟨_,m,hm,hsz,_⟩:=hI.rmS hro ok.2.1
   obtain ⟨w,dg,fm⟩:=hs.room hm
   obtain ⟨u,dt,fu⟩:=hs.tot (ck_sub ok.2.1)
   refine ⟨_,rfl,_,rfl,a,_,_,_,rfl,rfl,SqT.of ha,rfl,pr,w,rfl,dg,_,rfl,_,rfl,a,_,_,_,rfl,rfl,SqT.of ha,rfl,pt,u,rfl,dt,_,_,m,t y,rfl,fm,fu,(hsz.bd (by lia)).mono (by decide),((hI.sz y (ck_sub ok.2.1)).bd (by lia)).mono (by decide),fun v1 H1 s1 f1=>?_⟩
   have f1:FrV H1 v1 ((rmF ps y).getD 0 - t y):=by rw [hm]; exact f1
   have hs1:=hs.same s1
   have ha1:=s1 _ _ ha
   obtain ⟨ux,dx,fux⟩:=hs1.tot (ck_sub P.x)
   refine ⟨_,rfl,_,rfl,a,_,_,_,rfl,rfl,SqT.of ha1,rfl,pt,ux,rfl,dx,_,rfl,_,_,t x,(rmF ps y).getD 0 - t y,rfl,fux,f1,bx.mono (by decide),bg.mono (by decide),_,rfl,?_⟩
   have nl:¬ t x < (rmF ps y).getD 0 - t y:=by
    have:(rmF ps y).getD 0 - t y <= t x:=gle
    grind
   rw [decide_eq_false nl]
   refine iteF ?_
   refine ⟨_,rfl,sz (by simp),fun p0 hp0=>?_⟩
   have t0:=Same.upd (o:=.tup [.int 0,.int 1]) hp0
   refine ⟨_,_,(f1.same t0).rep,rep_pq (SqT.of upd_same),pq_depth _ _,_,rfl,?_⟩
   rw [eqv_pq]
   refine ite2 (fun h=>?_) (fun h=>?_)
   ·have h0:(rmF ps y).getD 0 - t y = 0:=of_decide_eq_true ((fq_dec _ 0).symm.trans h)
    refine ⟨sz (by simp),fun p hp=>k _ _ (s1.trans (t0.trans (Same.upd hp))) ?_⟩
    show FrV _ _ (((rmF ps y).getD 0 - t y) / t x)
    rw [h0,Rat.div_def,Rat.zero_mul]
    exact FrV.newOf rfl rfl
   ·have h0:¬ (rmF ps y).getD 0 - t y = 0:=fun e=>h ((fq_dec _ 0).trans (decide_eq_true e))
    have tx0:t x ≠ 0:=fun e=>h0 (by
     have h1:0 <= (rmF ps y).getD 0 - t y:=g0
     have h2:(rmF ps y).getD 0 - t y <= t x:=gle
     grind)
    have hs2:=hs1.same t0
    obtain ⟨ux,dx,fux⟩:=hs2.tot (ck_sub P.x)
    refine ⟨_,rfl,_,rfl,_,rfl,a,_,_,_,rfl,rfl,SqT.of (t0 _ _ ha1),rfl,pt,ux,rfl,dx,_,_,(rmF ps y).getD 0 - t y,t x,rfl,f1.same t0,fux,bg.mono (by decide),bx.mono (by decide),(fun _ w2 H2 s2 f2=>k _ _ (s1.trans (t0.trans s2)) f2),fun e=>absurd e tx0⟩
  | mv x y r =>
   obtain ⟨a,f,rfl,ha,hf⟩:=dv0
   refine ⟨_,rfl,a,_,_,_,rfl,rfl,SqT.of ha,rfl,rfl,_,rfl,?_⟩
   refine dec_false (by decide +kernel) ?_
   refine ⟨_,rfl,a,_,_,_,rfl,rfl,SqT.of ha,rfl,rfl,_,rfl,?_⟩
   refine dec_false (by decide +kernel) ?_
   refine ⟨_,rfl,a,_,_,_,rfl,rfl,SqT.of ha,rfl,rfl,_,rfl,?_⟩
   refine dec_true rfl ?_
   refine ⟨_,rfl,a,_,_,_,rfl,rfl,SqT.of ha,rfl,?_⟩
   obtain ⟨ux,dx,fux⟩:=fx
   refine ⟨_,rfl,_,rfl,a,_,_,_,rfl,rfl,SqT.of ha,rfl,pt,ux,rfl,dx,_,rfl,_,_,t x,r,rfl,fux,hf,bx.mono (by decide),bg.mono (by decide),_,rfl,?_⟩
   have nl:¬ t x < r:=by
    have:r <= t x:=gle
    grind
   rw [decide_eq_false nl]
   refine iteF ?_
   refine ⟨_,rfl,sz (by simp),fun p0 hp0=>?_⟩
   have t0:=Same.upd (o:=.tup [.int 0,.int 1]) hp0
   refine ⟨_,_,(hf.same t0).rep,rep_pq (SqT.of upd_same),pq_depth _ _,_,rfl,?_⟩
   rw [eqv_pq]
   refine ite2 (fun h=>?_) (fun h=>?_)
   ·have h0:r = 0:=of_decide_eq_true ((fq_dec _ 0).symm.trans h)
    refine ⟨sz (by simp),fun p hp=>k _ _ (t0.trans (Same.upd hp)) ?_⟩
    show FrV _ _ (r / t x)
    rw [h0,Rat.div_def,Rat.zero_mul]
    exact FrV.newOf rfl rfl
   ·have h0:¬ r = 0:=fun e=>h ((fq_dec _ 0).trans (decide_eq_true e))
    have tx0:t x ≠ 0:=fun e=>h0 (by
     have h1:0 <= r:=g0
     have h2:r <= t x:=gle
     grind)
    have hs2:=hs.same t0
    obtain ⟨ux,dx,fux⟩:=hs2.tot (ck_sub P.x)
    refine ⟨_,rfl,_,rfl,_,rfl,a,_,_,_,rfl,rfl,SqT.of (t0 _ _ ha),rfl,pt,ux,rfl,dx,_,_,r,t x,rfl,hf.same t0,fux,bg.mono (by decide),bx.mono (by decide),(fun _ w2 H2 s2 f2=>k _ _ (t0.trans s2) f2),fun e=>absurd e tx0⟩
noncomputable abbrev s_step_of:Stmt:=top 38
theorem sc_step_of:FnScope ["deed","at","year","totals","rooms","share"] ["deed","at","year","totals","rooms"] (defScope s_step_of):=scF
theorem ok_step_of {ca:Ca} (D:DefAt K mg "step_of" s_step_of) (T:Txt K mg w ca) (G_check_room:FnAt P w K mg base CX0 3 "check_room" ["name","amount","at","totals","rooms"] (spCheck)) (G_share_of:FnAt P w K mg base CX0 4 "share_of" ["deed","at","totals","rooms"] (spShareOf)) (G_times:FnAt P w K mg base CX0 2 "times" ["one","other"] (spTimes)):FnAt P w K mg base CX0 5 "step_of" ["deed","at","year","totals","rooms"] (spStepOf):=by
 refine D.ok sc_step_of (fun vs H Q E h=>?_) (fun _ _ _ _ _ _ us hl=>match us,hl with | [_,_,_,_,_],_=>rfl) (fun f cdv A outer s H vs Q E hr h=>?_)
 ·obtain ⟨v,d,n,yr,ps,t,pt,pr,kvt,kvr,i,rfl,hs,dv0,hy,ok,go,hI,hi,hro,k⟩:=h; rfl
 ·obtain ⟨v,d,n,yr,ps,t,pt,pr,kvt,kvr,i,rfl,hs,dv0,hy,ok,go,hI,hi,hro,k⟩:=h
  have nd:=sc_step_of.nd
  refine ⟨_,(pss_cons (ps_if (pt_cmpR op_eq (pixT (pv 0) pe_int) pe_str (nomark _)) (pss_cons (ps_expr (pfn G_check_room hr (pa_cons (pixT (pv 0) pe_int) (pa_cons (pixT (pv 0) pe_int) (pa_cons (pv 1) (pa_cons (pv 3) (pa_cons (pv 4) pa_nil)))))))
   (pss_one (ps_ret (pe_tup (pa_cons pe_str (pa_cons (pe_tup (pa_cons (pixT (pv 0) pe_int) (pa_cons (pv 2) pa_nil))) (pa_cons (pixT (pv 0) pe_int) (pa_cons (pixT (pv 0) pe_int) pa_nil)))))))) pss_nil)
   (pss_cons (ps_set (i:=5) nd rfl (Or.inl rfl) (pfn G_share_of hr (pa_cons (pv 0) (pa_cons (pv 1) (pa_cons (pv 3) (pa_cons (pv 4) pa_nil))))))
   (pss_cons (ps_expr (pfn G_check_room hr (pa_cons (pixT (pv 0) pe_int) (pa_cons (pfn G_times hr (pa_cons (pe_dget (hu_of hr) (pv 3) (pixT (pv 0) pe_int) (fun _ _=>rfl)) (pa_cons (pv 5) pa_nil))) (pa_cons (pv 1) (pa_cons (pv 3) (pa_cons (pv 4) pa_nil)))))))
   (pss_one (ps_ret (pe_tup (pa_cons pe_str (pa_cons (pixT (pv 0) pe_int) (pa_cons (pixT (pv 0) pe_int) (pa_cons (pv 5) pa_nil)))))))))),?_⟩
  have brm:∀ {z:Str} {m:Rat},rmF ps z = some m->Bd 2000 m:=fun {z m} e=>((hro z m (rmF_mem e).2).bd (by lia)).mono (by decide)
  cases hp:isP d with
  | false =>
   cases d with
   | br z x r =>
    obtain ⟨a,f,rfl,ha,hf⟩:=dv0
    have br:Bd 2000 r:=(ok.2.2.bd (by lia)).mono (by decide)
    have bt:Bd 2000 (t x):=((hI.sz x (ck_sub ok.1)).bd (by lia)).mono (by decide)
    refine ⟨_,rfl,a,_,_,_,rfl,rfl,SqT.of ha,rfl,rfl,_,rfl,?_⟩
    refine dec_true rfl ?_
    refine ⟨_,rfl,a,_,_,_,rfl,rfl,SqT.of ha,rfl,_,rfl,a,_,_,_,rfl,rfl,SqT.of ha,rfl,_,rfl,_,rfl,_,rfl,x,f,n,ps,t,pt,pr,kvt,kvr,r,rfl,hs,ck_sub ok.1,hf,br,bt,(fun m e=>⟨brm e,go m e⟩),fun H1 s1=>?_⟩
    have ha1:=s1 _ _ ha
    refine ⟨_,rfl,a,_,_,_,rfl,rfl,SqT.of ha1,rfl,_,rfl,sz (by simp),fun l hl=>?_⟩
    have t2:=Same.upd (o:=.tup [V.str z,.int yr]) hl
    refine ⟨_,rfl,a,_,_,_,rfl,rfl,SqT.of (t2 _ _ ha1),rfl,_,rfl,a,_,_,_,rfl,rfl,SqT.of (t2 _ _ ha1),rfl,sz (by simp),fun l2 hl2=>?_⟩
    have t3:=Same.upd (o:=.tup [V.str "bring",.ref l,.str x,f]) hl2
    exact k _ _ (.br z yr x r) (s1.trans (t2.trans t3)) ⟨l2,l,f,rfl,upd_same,t3 _ _ upd_same,hf.same (s1.trans (t2.trans t3))⟩ rfl
   | yr=>exact absurd rfl hy
   | _=>cases hp
  | true =>
   have P:=PsD.of hI hro hi hp ok go
   obtain ⟨a,ys,rfl,ha,e0,e1,e2⟩:=dv0.pass hy
   have e1:=e1 hp
   have nb:¬ V.str (kdD d) = V.str "bring":=fun e=>by
    have:=(kd_br.mp e).1
    rw [hp] at this; cases this
   refine ⟨_,rfl,a,_,_,_,rfl,rfl,SqT.of ha,e0,rfl,_,rfl,?_⟩
   refine dec_false nb ?_
   refine ⟨_,rfl,_,rfl,_,rfl,_,rfl,.ref a,d,n,ps,t,pt,pr,kvt,kvr,i,rfl,hs,dv0,hp,ok,go,hI,hi,hro,fun w H1 s1 f1=>?_⟩
   have hs1:=hs.same s1
   have ha1:=s1 _ _ ha
   obtain ⟨ux,dx,fux⟩:=hs1.tot (ck_sub P.x)
   have bx:Bd 2000 (t (frD d)):=((hI.sz _ (ck_sub P.x)).bd (by lia)).mono (by decide)
   have by':Bd 2000 (t (toD d)):=((hI.sz _ P.y).bd (by lia)).mono (by decide)
   refine ⟨_,rfl,a,_,_,_,rfl,rfl,SqT.of ha1,e2,_,rfl,_,rfl,a,_,_,_,rfl,rfl,SqT.of ha1,e1,pt,ux,rfl,dx,_,rfl,spTimes.of (E:=E0) rfl fux f1 (bx.mono (by decide)) (P.b.mono (by decide)) fun v2 H2 s2 f2=>?_⟩
   rw [P.sh] at f2
   have hs2:=hs1.same s2
   refine ⟨_,rfl,_,rfl,_,rfl,toD d,v2,n,ps,t,pt,pr,kvt,kvr,gsD ps t d,rfl,hs2,P.y,f2,(P.g.bd (by lia)).mono (by decide),by',(fun m e=>⟨brm e,P.rm m e⟩),fun H3 s3=>?_⟩
   have s13:=s2.trans s3
   have ha3:=s13 _ _ ha1
   refine ⟨_,rfl,a,_,_,_,rfl,rfl,SqT.of ha3,e1,_,rfl,a,_,_,_,rfl,rfl,SqT.of ha3,e2,_,rfl,sz (by simp),fun l hl=>?_⟩
   have t4:=Same.upd (o:=.tup [V.str "pass",.str (frD d),.str (toD d),w]) hl
   exact k _ _ (.ps (frD d) (toD d) (shD ps t d)) (s1.trans (s13.trans t4)) ⟨l,w,rfl,upd_same,f1.same (s13.trans t4)⟩ (P.st yr)
noncomputable abbrev s_add_step:Stmt:=top 39
theorem sc_add_step:FnScope ["totals","step","amount"] ["totals","step"] (defScope s_add_step):=scF
theorem ok_add_step {ca:Ca} (D:DefAt K mg "add_step" s_add_step) (T:Txt K mg w ca) (G_plus:FnAt P w K mg base CX0 2 "plus" ["one","other"] (spPlus)) (G_times:FnAt P w K mg base CX0 2 "times" ["one","other"] (spTimes)) (G_minus:FnAt P w K mg base CX0 3 "minus" ["one","other"] (spMinus)):FnAt P w K mg base CX0 4 "add_step" ["totals","step"] (spAddStep):=by
 refine D.ok sc_add_step (fun vs H Q E h=>?_) (fun _ _ _ _ _ _ us hl=>match us,hl with | [_,_],_=>rfl) (fun f cdv A outer s H vs Q E hr h=>?_)
 ·obtain ⟨pt,w,s,kv,L,t,rfl,ht,row,l8,sv,fit,k⟩:=h; rfl
 ·obtain ⟨pt,w,s,kv,L,t,rfl,ht,row,l8,sv,fit,k⟩:=h
  have nd:=sc_add_step.nd
  refine ⟨_,(pss_one (ps_if (pt_cmpR op_eq (pixT (pv 1) pe_int) pe_str (nomark _)) (pss_one (ps_dput (hu_of hr) (pv 0) (pixT (pv 1) pe_int) (pfn G_plus hr (pa_cons (pe_dget (hu_of hr) (pv 0) (pixT (pv 1) pe_int) (fun _ _=>rfl)) (pa_cons (pixT (pv 1) pe_int) pa_nil))) rfl)) (pss_cons (ps_set (i:=2) nd rfl (Or.inl rfl) (pfn G_times hr (pa_cons (pe_dget (hu_of hr) (pv 0) (pixT (pv 1) pe_int) (fun _ _=>rfl)) (pa_cons (pixT (pv 1) pe_int) pa_nil))))
   (pss_cons (ps_dput (hu_of hr) (pv 0) (pixT (pv 1) pe_int) (pfn G_minus hr (pa_cons (pe_dget (hu_of hr) (pv 0) (pixT (pv 1) pe_int) (fun _ _=>rfl)) (pa_cons (pv 2) pa_nil))) rfl)
   (pss_one (ps_dput (hu_of hr) (pv 0) (pixT (pv 1) pe_int) (pfn G_plus hr (pa_cons (pe_dget (hu_of hr) (pv 0) (pixT (pv 1) pe_int) (fun _ _=>rfl)) (pa_cons (pv 2) pa_nil))) rfl)))))),?_⟩
  have len:kv.length <= L.length:=row.lenO fun z hz=>all_sub hz
  have get:∀ {H1:Hp} {kv1:List (Key × V)} {t1:Str->Rat},H1 pt = some (.dK kv1)->RowAt H1 kv1 (all L t1)->∀ {z:Str},z ∈ L->∃ v,DGet H1 pt (.str z) (some v) /\ FrV H1 v (t1 z):=fun {H1 kv1 t1} h1 r1 {z} hz=>by
   obtain ⟨v,e,f⟩:=r1.get hz
   refine ⟨v,?_,f⟩
   have g:=DGet.k (k:=.inr z) h1
   rw [e] at g; exact g
  cases s with
  | br z n x r =>
   obtain ⟨a,l,f,rfl,ha,hl,hf⟩:=sv
   obtain ⟨hx,bt,br⟩:=fit
   obtain ⟨u,dg,fu⟩:=get ht row hx
   refine ⟨_,rfl,a,_,_,_,rfl,rfl,SqT.of ha,rfl,rfl,_,rfl,?_⟩
   refine dec_true rfl ?_
   refine ⟨_,rfl,_,rfl,a,_,_,_,rfl,rfl,SqT.of ha,rfl,pt,u,rfl,dg,_,rfl,a,_,_,_,rfl,rfl,SqT.of ha,rfl,_,_,t x,r,rfl,fu,hf,bt.mono (by decide),br.mono (by decide),fun v1 H1 s1 f1=>?_⟩
   have ht1:=s1 _ _ ht
   refine ⟨_,rfl,_,rfl,a,_,_,_,rfl,rfl,SqT.of (s1 _ _ ha),rfl,pt,upd H1 pt (.dK (putK kv (.inr x) v1)),rfl,DPut.k (k:=.inr x) ht1 (sz (by lia)),?_⟩
   refine k _ (putK kv (.inr x) v1) (fun c o e n=>by rw [upd_ne n]; exact s1 _ _ e) upd_same ?_
   have r1:=((row.same fun _ _ g=>g.same s1).put (z:=x) f1).same fun v r g=>g.tup (tup_of (o:=.dK (putK kv (.inr x) v1)) ht1 (fun _ z=>nomatch z))
   rw [all_put hx] at r1
   exact r1
  | ps x y q =>
   obtain ⟨a,f,rfl,ha,hf⟩:=sv
   obtain ⟨hx,hy,hxy,bx,by',bq,bm⟩:=fit
   obtain ⟨u,dg,fu⟩:=get ht row hx
   refine ⟨_,rfl,a,_,_,_,rfl,rfl,SqT.of ha,rfl,rfl,_,rfl,?_⟩
   refine dec_false (by decide +kernel) ?_
   refine ⟨_,rfl,_,rfl,a,_,_,_,rfl,rfl,SqT.of ha,rfl,pt,u,rfl,dg,_,rfl,a,_,_,_,rfl,rfl,SqT.of ha,rfl,spTimes.of (E:=E0) rfl fu hf (bx.mono (by decide)) (bq.mono (by decide)) fun v1 H1 s1 f1=>?_⟩
   have ht1:=s1 _ _ ht
   have row1:=row.same fun _ _ g=>g.same s1
   have ha1:=s1 _ _ ha
   obtain ⟨u1,dg1,fu1⟩:=get ht1 row1 hx
   refine ⟨_,rfl,_,rfl,a,_,_,_,rfl,rfl,SqT.of ha1,rfl,pt,u1,rfl,dg1,_,rfl,_,_,t x,t x * q,rfl,fu1,f1,bx.mono (by decide),bm.mono (by decide),fun v2 H2 s2 f2=>?_⟩
   have ht2:=s2 _ _ ht1
   have ha2:=s2 _ _ ha1
   refine ⟨_,rfl,_,rfl,a,_,_,_,rfl,rfl,SqT.of ha2,rfl,pt,upd H2 pt (.dK (putK kv (.inr x) v2)),rfl,DPut.k (k:=.inr x) ht2 (sz (by lia)),?_⟩
   have tu3:∀ b ys,H2 b = some (.tup ys)->upd H2 pt (.dK (putK kv (.inr x) v2)) b = some (.tup ys):=tup_of ht2 (fun _ z=>nomatch z)
   have row3:=((row1.same fun _ _ g=>g.same s2).put (z:=x) f2).same fun v r g=>g.tup tu3
   rw [all_put hx] at row3
   have f13:=(f1.same s2).tup tu3
   have ha3:=tu3 _ _ ha2
   have ht3:=upd_same (H:=H2) (a:=pt) (o:=.dK (putK kv (.inr x) v2))
   have k3:∀ c o,H c = some o->c ≠ pt->upd H2 pt (.dK (putK kv (.inr x) v2)) c = some o:=fun c o e n=>by rw [upd_ne n]; exact s2 _ _ (s1 _ _ e)
   have len3:=length_putK kv (.inr x) v2
   generalize upd H2 pt (.dK (putK kv (.inr x) v2)) = H3 at *
   generalize putK kv (.inr x) v2 = kv3 at *
   obtain ⟨u3,dg3,fu3⟩:=get ht3 row3 hy
   have ey:(if y = x then t x - t x * q else t y) = t y:=if_neg fun e=>hxy e.symm
   rw [ey] at fu3
   refine ⟨_,rfl,_,rfl,a,_,_,_,rfl,rfl,SqT.of ha3,rfl,pt,u3,rfl,dg3,_,rfl,_,_,t y,t x * q,rfl,fu3,f13,by'.mono (by decide),bm.mono (by decide),fun v4 H4 s4 f4=>?_⟩
   have ht4:=s4 _ _ ht3
   refine ⟨_,rfl,_,rfl,a,_,_,_,rfl,rfl,SqT.of (s4 _ _ ha3),rfl,pt,upd H4 pt (.dK (putK kv3 (.inr y) v4)),rfl,DPut.k (k:=.inr y) ht4 (sz (by lia)),?_⟩
   refine k _ (putK kv3 (.inr y) v4) (fun c o e n=>by rw [upd_ne n]; exact s4 _ _ (k3 c o e n)) upd_same ?_
   have row5:=((row3.same fun _ _ g=>g.same s4).put (z:=y) f4).same fun v r g=>g.tup (tup_of (o:=.dK (putK kv3 (.inr y) v4)) ht4 (fun _ z=>nomatch z))
   rw [all_put hy] at row5
   have ef:(fun z=>if z = y then t y + t x * q else if z = x then t x - t x * q else t z) = adS t (.ps x y q):=by
    funext z
    show _ = if z = x then t x - t x * q else if z = y then t y + t x * q else t z
    by_cases h1:z = x
    ·rw [if_pos h1,if_neg (fun h2=>hxy (h1.symm.trans h2)),if_pos h1]
    ·rw [if_neg h1,if_neg h1]
   rw [<- ef]
   exact row5
noncomputable abbrev s_pour_step:Stmt:=top 40
theorem sc_pour_step:FnScope ["standing","step","wine"] ["standing","step"] (defScope s_pour_step):=scF
theorem ok_pour_step {ca:Ca} (D:DefAt K mg "pour_step" s_pour_step) (T:Txt K mg w ca) (G_poured:FnAt P w K mg base CX0 3 "poured" ["one","other"] (spPoured)):FnAt P w K mg base CX0 4 "pour_step" ["standing","step"] (spPour):=by
 refine D.ok sc_pour_step (fun vs H Q E h=>?_) (fun _ _ _ _ _ _ us hl=>match us,hl with | [_,_],_=>rfl) (fun f cdv A outer s H vs Q E hr h=>?_)
 ·obtain ⟨st,v,kv,L,g,x,rfl,hs,hW,nL,l8,hx,hg,hv,k⟩:=h; rfl
 ·obtain ⟨st,v,kv,L,g,x,rfl,hs,hW,nL,l8,hx,hg,hv,k⟩:=h
  have nd:=sc_pour_step.nd
  refine ⟨_,(pss_one (ps_if (pt_cmpR op_eq (pixT (pv 1) pe_int) pe_str (nomark _)) (pss_one (ps_dput (hu_of hr) (pv 0) (pixT (pv 1) pe_int) (pfn G_poured hr (pa_cons (pe_dget (hu_of hr) (pv 0) (pixT (pv 1) pe_int) (fun _ _=>rfl)) (pa_cons (pe_dispT (hu_of hr) (pixT (pv 1) pe_int) (pixT (pv 1) pe_int)) pa_nil))) rfl)) pss_never)),?_⟩
  obtain ⟨a,l,f,rfl,ha,hl,hf⟩:=hv
  refine ⟨_,rfl,a,_,0,_,rfl,rfl,SqT.of ha,rfl,rfl,_,rfl,?_⟩
  refine dec_true rfl ?_
  obtain ⟨d,ev,w⟩:=hW.val nL hx
  have g0:=DGet.k (k:=.inr x) hs
  rw [ev] at g0
  refine ⟨_,rfl,_,rfl,a,_,2,_,rfl,rfl,SqT.of ha,rfl,st,_,rfl,g0,fun p hp=>?_⟩
  have tp:=Same.upd (o:=.dT []) hp
  refine ⟨_,rfl,a,_,1,_,rfl,rfl,SqT.of (tp _ _ ha),rfl,_,rfl,a,_,3,_,rfl,rfl,SqT.of (tp _ _ ha),rfl,l,LOT,rfl,tp _ _ hl,upd_same,?_⟩
  rw [upd_upd]
  have tq:=Same.upd (o:=.dT [(LOT,f)]) hp
  refine ⟨d,p,g x,f,rfl,w.kp tq.kpd,hg,upd_same,hf.same tq,fun q H1 hq s1 w1=>?_⟩
  have s2:=tq.trans s1
  have hs2:=s2 _ _ hs
  have lw:kv.length = L.length:=hW.length
  refine ⟨_,rfl,_,rfl,a,_,2,_,rfl,rfl,SqT.of (s2 _ _ ha),rfl,st,_,rfl,DPut.k (k:=.inr x) hs2 (sz (by lia)),?_⟩
  refine k _ _ (fun b ob e n=>by rw [upd_ne n]; exact s2 _ _ e) upd_same ?_
  refine WS.put (hW.kp (s2.kpd.trans (KpD.upd hs2 rfl))) hx ?_ fun z hz=>if_neg hz
  have w2:=w1.kp (KpD.upd (o:=.dK (putK kv (.inr x) (.ref q))) hs2 rfl)
  rw [if_pos rfl]
  exact w2
noncomputable abbrev s_steps_of:Stmt:=top 41
theorem sc_steps_of:FnScope ["house","totals","year","deeds","rooms","now","steps","at","deed","step"] ["house","totals","year","deeds"] (defScope s_steps_of):=scF
theorem ok_steps_of {ca:Ca} (D:DefAt K mg "steps_of" s_steps_of) (T:Txt K mg w ca) (G_rooms_of:FnAt P w K mg base CX0 1 "rooms_of" ["house"] (spRooms K)) (G_step_of:FnAt P w K mg base CX0 5 "step_of" ["deed","at","year","totals","rooms"] (spStepOf)) (G_add_step:FnAt P w K mg base CX0 4 "add_step" ["totals","step"] (spAddStep)):FnAt P w K mg base CX0 6 "steps_of" ["house","totals","year","deeds"] (spStepsOf K):=by
 refine D.ok sc_steps_of (fun vs H Q E h=>?_) (fun _ _ _ _ _ _ us hl=>match us,hl with | [_,_,_,_],_=>rfl) (fun f cdv A outer s H vs Q E hr h=>?_)
 ·obtain ⟨ah,pt,n,ad,xs,ps,kvt,ys,ds,t0,rfl,hS,hP,hH,hro,ht,rt,hD,hPd,hG,hI0,h42,k⟩:=h; rfl
 ·obtain ⟨ah,pt,n,ad,xs,ps,kvt,ys,ds,t0,rfl,hS,hP,hH,hro,ht,rt,hD,hPd,hG,hI0,h42,k⟩:=h
  have nd:=sc_steps_of.nd
  refine ⟨_,(pss_cons (ps_set (i:=4) nd rfl (Or.inl rfl) (pfn G_rooms_of hr (pa_cons (pv 0) pa_nil)))
   (pss_cons (ps_set (i:=5) nd rfl (Or.inl rfl) (pe_callTy call_dictK (by rfl) T.z_dict bt_dict (pa_cons (pv 1) pa_nil)))
   (pss_cons (ps_set (i:=6) nd rfl (Or.inl rfl) (pe_lst pa_nil))
   (pss_cons (ps_for PassesOwn.never rfl (pi_enum (K:=K) rfl (by rfl) T.z_enumerate (pa_cons (pv 3) pa_nil)) (pg_tup rfl (pgs_cons (pg_name (i:=7) nd rfl (Or.inl rfl)) (pgs_cons (pg_name (i:=8) nd rfl (Or.inl rfl)) pgs_nil))) (pss_one (ps_if (pt_cmpR op_eq (pixT (pv 8) pe_int) pe_str (nomark _)) (pss_one (ps_aug (i:=2) nd rfl (Or.inl rfl) pe_int ip_add)) (pss_cons (ps_set (i:=9) nd rfl (Or.inl rfl) (pfn G_step_of hr (pa_cons (pv 8) (pa_cons (pv 7) (pa_cons (pv 2) (pa_cons (pv 5) (pa_cons (pv 4) pa_nil)))))))
   (pss_cons (ps_expr (pfn G_add_step hr (pa_cons (pv 5) (pa_cons (pv 9) pa_nil))))
   (pss_one (ps_expr (pe_bm PySem.F.plainAttrs_list PySem.F.slot_list_append PySem.F.type_list_append mt_append (pv 6) (pa_cons (pv 9) pa_nil)))))))))
   (pss_one (ps_ret (pe_tup (pa_cons (pv 6) (pa_cons (pv 5) pa_nil))))))))),?_⟩
  have hlen:ys.length = ds.length:=hPd.length
  refine ⟨_,rfl,ah,xs,ps,rfl,hS,hP,hH,fun pr H1 kvr hpr s1 h1 rr=>?_⟩
  refine ⟨_,rfl,pt,kvt,rfl,s1 _ _ ht,fun pn hpn=>?_⟩
  have t2:=Same.upd (o:=.dK kvt) hpn
  refine ⟨sz (by simp),fun pl hpl=>?_⟩
  have t3:=t2.trans (Same.upd (o:=.lst []) hpl)
  have s3:=s1.trans t3
  have hn3:upd (upd H1 pn (.dK kvt)) pl (.lst []) pn = some (.dK kvt):=(Same.upd (o:=.lst []) hpl) _ _ upd_same
  have hl3:=upd_same (H:=upd H1 pn (.dK kvt)) (a:=pl) (o:=.lst [])
  have hr3:=t3 _ _ h1
  have rt3:=rt.same fun _ _ g=>g.same s3
  have rr3:=rr.same fun _ _ g=>g.same t3
  have npn0:H pn = none:=s1.free hpn
  have npl0:H pl = none:=s1.free (t2.free hpl)
  have nln:pl ≠ pn:=fun e=>by rw [e,upd_same] at hpl; cases hpl
  have nrn:pr ≠ pn:=ne_of_none h1 hpn
  have nrl:pr ≠ pl:=ne_of_none (t2 _ _ h1) hpl
  generalize upd (upd H1 pn (.dK kvt)) pl (.lst []) = H3 at *
  refine ⟨_,rfl,ad,_,rfl,s3.seq hD,?_⟩
  refine for_enum (xs:=ys) (fun j σ H4=>∃ (v7 v8 v9:Option V) (ws:List V) (kv:List (Key × V)),σ = [some (.ref ah),some (.ref pt),some (.int (run ps t0 n (ds.take j)).n),some (.ref ad),some (.ref pr),some (.ref pn),some (.ref pl),v7,v8,v9] /\ Same H H4 /\ H4 pl = some (.lst ws) /\ Paired (StV H4) ws (run ps t0 n (ds.take j)).ss /\ ws.length <= j /\ H4 pn = some (.dK kv) /\ RowAt H4 kv (all (allN ps) (run ps t0 n (ds.take j)).t) /\ H4 pr = some (.dK kvr) /\ RowAt H4 kvr (rmF ps)) ⟨none,none,none,[],kvt,rfl,s3,hl3,.nil,Nat.le_refl _,hn3,rt3,hr3,rr3⟩ ?_ ?_ ?_
  ·rintro j σ H4 hj ⟨v7,v8,v9,ws,kv,rfl,s4,hl4,hW,lw,hn4,rt4,hr4,rr4⟩
   exact s4.seq hD
  ·rintro j x T σ H4 hx ⟨v7,v8,v9,ws,kv,rfl,s4,hl4,hW,lw,hn4,rt4,hr4,rr4⟩ hT
   obtain ⟨d,hd,dv0⟩:=paired_get hPd hx
   have hj:j < ds.length:=(List.getElem?_eq_some_iff.mp hd).1
   have tT:=Same.upd (o:=.tup [.int (j:Nat),x]) hT
   refine ⟨T,_,rfl,SqT.of upd_same,rfl,_,_,rfl,_,_,rfl,rfl,?_⟩
   have s5:=s4.trans tT
   have hl5:=tT _ _ hl4
   have hW5:=steps_same hW tT
   have hn5:=tT _ _ hn4
   have rt5:=rt4.same fun _ _ g=>g.same tT
   have hr5:=tT _ _ hr4
   have rr5:=rr4.same fun _ _ g=>g.same tT
   have dv5:=dv0.same s5
   generalize upd H4 T (.tup [.int (j:Nat),x]) = H5 at *
   obtain ⟨ok,go⟩:=hG j d hd
   have hI:=Goes.inT hro hI0 hG j (by lia)
   have en:=take_one hd
   have er:=run_snoc ps t0 n (ds.take j) d
   rw [<- en] at er
   rw [er]
   let R:=run ps t0 n (ds.take j)
   obtain ⟨a,zs,rfl,ha,e0⟩:=dv5.kd
   refine ⟨_,rfl,a,_,_,_,rfl,rfl,SqT.of ha,e0,rfl,_,rfl,?_⟩
   by_cases hy:d = .yr
   ·subst hy
    refine dec_true rfl ?_
    refine ⟨_,rfl,_,_,rfl,rfl,?_⟩
    refine ⟨_,_,_,ws,kv,rfl,s5,hl5,?_,by lia,hn5,rt5,hr5,rr5⟩
    show Paired (StV H5) ws ((run ps t0 n (ds.take j)).ss ++ [])
    rw [List.append_nil]; exact hW5
   ·refine dec_false (fun e=>hy (kd_yr.mp e)) ?_
    have hs5:Hs H5 ps (run ps t0 n (ds.take j)).t pn pr kv kvr:=⟨hn5,rt5,hr5,rr5⟩
    refine ⟨_,rfl,_,rfl,_,rfl,_,rfl,_,rfl,.ref a,d,(j:Nat),(run ps t0 n (ds.take j)).n,ps,(run ps t0 n (ds.take j)).t,pn,pr,kv,kvr,2 * j,rfl,hs5,dv5,hy,ok,go,hI,by lia,hro,fun w H6 s s6 sv es=>?_⟩
    have hs6:=hs5.same s6
    have eyr:yrD d = 0:=by cases d <;> first | rfl | exact absurd rfl hy
    have fit:FitS (allN ps) (run ps t0 n (ds.take j)).t s /\ adS (run ps t0 n (ds.take j)).t s = ptT ps (run ps t0 n (ds.take j)).t d:=by
     cases hp:isP d with
     | true =>
      have P:=PsD.of hI hro (by lia) hp ok go
      rw [P.st] at es
      have es:=(List.cons.inj es).1
      subst es
      refine ⟨⟨ck_sub P.x,P.y,P.ne,((hI.sz _ (ck_sub P.x)).bd (by lia)).mono (by decide),((hI.sz _ P.y).bd (by lia)).mono (by decide),P.b.mono (by decide),?_⟩,?_⟩
      ·rw [P.sh]; exact (P.g.bd (by lia)).mono (by decide)
      ·show mvT (frD d) (toD d) ((run ps t0 n (ds.take j)).t (frD d) * shD ps (run ps t0 n (ds.take j)).t d) _ = _
       rw [P.sh,P.pt]
     | false =>
      cases d with
      | br z x r =>
       have es:=(List.cons.inj es).1
       subst es
       exact ⟨⟨ck_sub ok.1,((hI.sz _ (ck_sub ok.1)).bd (by lia)).mono (by decide),(ok.2.2.bd (by lia)).mono (by decide)⟩,rfl⟩
      | yr=>exact absurd rfl hy
      | _=>cases hp
    refine ⟨_,rfl,_,rfl,pn,w,s,kv,allN ps,(run ps t0 n (ds.take j)).t,rfl,hs6.dt,hs6.rt,(by unfold allN; rw [List.length_map]; exact hH.len),sv,fit.1,fun H7 kv7 k7 hn7 r7=>?_⟩
    rw [fit.2] at r7
    have tu7:∀ b zs,H6 b = some (.tup zs)->H7 b = some (.tup zs):=fun b zs e=>k7 b _ e (ne_of e hs6.dt (by intro z; cases z))
    have hl7:=k7 _ _ (s6 _ _ hl5) nln
    have hr7:=k7 _ _ hs6.dr nrn
    have s07:Same H H7:=fun c o e=>k7 _ _ (s6 _ _ (s5 _ _ e)) (ne_of_none e npn0)
    refine ⟨_,rfl,.inl ⟨rfl,_,SqL.of hl7⟩,_,rfl,pl,_,_,rfl,rfl,hl7,sz (by lia),?_⟩
    have tu8:∀ b zs,H7 b = some (.tup zs)->upd H7 pl (.lst (ws ++ [w])) b = some (.tup zs):=tup_of hl7 (fun _ z=>nomatch z)
    refine ⟨some (.int (j:Nat)),some (.ref a),some w,ws ++ [w],kv7,?_,s07.updD npl0,upd_same,?_,by rw [List.length_append]; show ws.length + 1 <= j + 1; lia,by rw [upd_ne nln.symm]; exact hn7,r7.same fun _ _ g=>g.tup tu8,by rw [upd_ne nrl]; exact hr7,(hs6.rr.same fun _ _ g=>g.tup tu7).same fun _ _ g=>g.tup tu8⟩
    ·have en2:(advD ps (run ps t0 n (ds.take j)) d).n = (run ps t0 n (ds.take j)).n:=by
      show (run ps t0 n (ds.take j)).n + yrD d = _
      rw [eyr,Int.add_zero]
     rw [en2]; rfl
    ·show Paired _ _ ((run ps t0 n (ds.take j)).ss ++ stD ps (run ps t0 n (ds.take j)).t (run ps t0 n (ds.take j)).n d)
     rw [es]
     exact Paired.snoc (Paired.mapP hW5 fun _ _ f=>((f.same s6).tup tu7).tup tu8) ((sv.tup tu7).tup tu8)
  ·rintro σ H4 ⟨v7,v8,v9,ws,kv,rfl,s4,hl4,hW,lw,hn4,rt4,hr4,rr4⟩
   rw [hlen,List.take_length] at hW rt4
   refine ⟨_,rfl,_,rfl,sz (by simp),fun l hl=>?_⟩
   have t5:=Same.upd (o:=.tup [V.ref pl,.ref pn]) hl
   exact k l pl pn _ ws kv (s4.trans t5) upd_same npl0 npn0 (t5 _ _ hl4) (steps_same hW t5) (t5 _ _ hn4) (rt4.same fun _ _ g=>g.same t5)
noncomputable abbrev s_gone:Stmt:=top 42
theorem sc_gone:FnScope ["standing","steps","now","step"] ["standing","steps"] (defScope s_gone):=scF
theorem ok_gone {ca:Ca} (D:DefAt K mg "gone" s_gone) (T:Txt K mg w ca) (G_copied:FnAt P w K mg base CX0 1 "copied" ["standing"] (spCopied)) (G_pour_step:FnAt P w K mg base CX0 4 "pour_step" ["standing","step"] (spPour)):FnAt P w K mg base CX0 5 "gone" ["standing","steps"] (spGone K):=by
 refine D.ok sc_gone (fun vs H Q E h=>?_) (fun _ _ _ _ _ _ us hl=>match us,hl with | [_,_],_=>rfl) (fun f cdv A outer s H vs Q E hr h=>?_)
 ·obtain ⟨a,l,kv,L,g,x,ws,rfl,ha,hW,nL,l8,hx,hg,hS,hw,k⟩:=h; rfl
 ·obtain ⟨a,l,kv,L,g,x,ws,rfl,ha,hW,nL,l8,hx,hg,hS,hw,k⟩:=h
  have nd:=sc_gone.nd
  refine ⟨_,(pss_cons (ps_set (i:=2) nd rfl (Or.inl rfl) (pfn G_copied hr (pa_cons (pv 0) pa_nil)))
   (pss_cons (ps_for PassesOwn.never rfl (pi_list' (K:=K) rfl (pv 1)) (pg_name (i:=3) nd rfl (Or.inl rfl)) (pss_one (ps_expr (pfn G_pour_step hr (pa_cons (pv 2) (pa_cons (pv 3) pa_nil))))))
   (pss_one (ps_ret (pv 2))))),?_⟩
  refine ⟨_,rfl,a,kv,L,g,rfl,ha,hW,nL,l8,fun p H1 kv1 hp s1 hp1 w1=>?_⟩
  refine ⟨_,rfl,l,rfl,⟨_,s1.seq hS⟩,?_⟩
  refine for_list (xs:=ws) (fun i σ H2=>∃ (v3:Option V) (kv2:List (Key × V)),σ = [some (.ref a),some (.ref l),some (.ref p),v3] /\ Same H H2 /\ H2 p = some (.dK kv2) /\ WS H2 kv2 L (fun z=>if z = x then g z + i else g z)) ⟨none,kv1,rfl,s1,hp1,w1.congr fun z _=>by split <;> rfl⟩ ?_ ?_ ?_
  ·rintro i σ H2 hi ⟨v3,kv2,rfl,s2,hp2,w2⟩
   exact s2.seq hS
  ·rintro i u σ H2 hu ⟨v3,kv2,rfl,s2,hp2,w2⟩
   have hi:i < ws.length:=(List.getElem?_eq_some_iff.mp hu).1
   refine ⟨_,rfl,_,rfl,p,u,kv2,L,_,x,rfl,hp2,w2,nL,l8,hx,?_,(hw u (List.mem_of_getElem? hu)).same s2,fun H3 kv3 kp hp3 w3=>?_⟩
   ·rw [if_pos rfl]; lia
   ·refine ⟨_,kv3,rfl,fun b ob e=>kp b ob (s2 _ _ e) (fun z=>by subst z; rw [hp] at e; cases e),hp3,w3.congr fun z _=>?_⟩
    by_cases hz:z = x
    ·rw [if_pos hz,if_pos hz,if_pos hz]; lia
    ·rw [if_neg hz,if_neg hz,if_neg hz]
  ·rintro σ H2 ⟨v3,kv2,rfl,s2,hp2,w2⟩
   exact ⟨_,rfl,k p H2 kv2 hp s2 hp2 w2⟩
noncomputable abbrev s_empty:Stmt:=top 44
theorem sc_empty:FnScope ["house","standing","place"] ["house"] (defScope s_empty):=scF
theorem ok_empty {ca:Ca} (D:DefAt K mg "empty" s_empty) (T:Txt K mg w ca):FnAt P w K mg base CX0 1 "empty" ["house"] (spEmp K):=by
 refine D.ok sc_empty (fun vs H Q E h=>?_) (fun _ _ _ _ _ _ us hl=>match us,hl with | [_],_=>rfl) (fun f cdv A outer s H vs Q E hr h=>?_)
 ·obtain ⟨a,xs,ps,rfl,hS,hP,hH,k⟩:=h; rfl
 ·obtain ⟨a,xs,ps,rfl,hS,hP,hH,k⟩:=h
  have nd:=sc_empty.nd
  refine ⟨_,(pss_cons (ps_set (i:=1) nd rfl (Or.inl rfl) pe_dnewK)
   (pss_cons (ps_for PassesOwn.never rfl (pi_list' (K:=K) rfl (pv 0)) (pg_name (i:=2) nd rfl (Or.inl rfl)) (pss_one (ps_dput (hu_of hr) (pv 1) (pixT (pv 2) pe_int) pe_dnewT rfl)))
   (pss_one (ps_ret (pv 1))))),?_⟩
  have hlen:xs.length = ps.length:=hP.length
  intro p hp
  have tp:=Same.upd (o:=.dK []) hp
  refine ⟨_,rfl,a,rfl,⟨_,tp.seq hS⟩,?_⟩
  refine for_list (xs:=xs) (fun i σ H1=>∃ (v2:Option V) (kv:List (Key × V)),σ = [some (.ref a),some (.ref p),v2] /\ Same H H1 /\ H1 p = some (.dK kv) /\ WS H1 kv (allN (ps.take i)) fun _=>0) ⟨none,[],rfl,tp,upd_same,.nil⟩ ?_ ?_ ?_
  ·rintro i σ H1 hi ⟨v2,kv,rfl,s1,h1,ws⟩
   exact s1.seq hS
  ·rintro i x σ H1 hx ⟨v2,kv,rfl,s1,h1,ws⟩
   obtain ⟨pl,hpl,pv⟩:=paired_get hP hx
   have pv:=pv.same s1
   have en:=take_one hpl
   have lw:kv.length = (allN (ps.take i)).length:=ws.length
   have l8:kv.length <= 8:=by
    unfold allN at lw
    rw [List.length_map,List.length_take] at lw
    have:=hH.len
    lia
   obtain ⟨b,ys,rfl,hb,_,e1⟩:=pv.at
   intro q hq
   have tq:=Same.upd (o:=.dT []) hq
   have h1q:=tq _ _ h1
   refine ⟨_,rfl,_,rfl,b,_,_,_,rfl,rfl,SqT.of (tq _ _ hb),e1,p,_,rfl,DPut.k (k:=.inr (nmP pl)) h1q (sz (by lia)),?_⟩
   refine ⟨_,_,rfl,(s1.trans tq).updD hp,upd_same,?_⟩
   have ea:allN (ps.take (i + 1)) = allN (ps.take i) ++ [nmP pl]:=by unfold allN; rw [en,List.map_append]; rfl
   rw [ea]
   refine WS.snoc (ws.kp (tq.kpd.trans (KpD.upd h1q rfl))) ?_ (.inl ⟨rfl,?_⟩)
   ·intro hm
    have hn:=hH.nd
    unfold allN at hm hn
    have hi:i < ps.length:=(List.getElem?_eq_some_iff.mp hpl).1
    obtain ⟨j,hj,ej⟩:=List.getElem_of_mem hm
    rw [List.length_map,List.length_take] at hj
    have e2:(ps.map nmP)[j]'(by rw [List.length_map]; lia) = (ps.map nmP)[i]'(by rw [List.length_map]; lia):=by
     rw [List.getElem_map,List.getElem_map,(List.getElem?_eq_some_iff.mp hpl).2]
     rw [List.getElem_map,List.getElem_take] at ej
     exact ej
    exact List.pairwise_iff_getElem.mp hn j i (by rw [List.length_map]; lia) (by rw [List.length_map]; lia) (by lia) e2
   ·rw [upd_ne (fun z=>by subst z; rw [h1] at hq; cases hq)]; exact upd_same
  ·rintro σ H1 ⟨v2,kv,rfl,s1,h1,ws⟩
   rw [hlen,List.take_length] at ws
   exact ⟨_,rfl,k p H1 kv hp s1 h1 ws⟩
noncomputable abbrev s_is_measure:Stmt:=top 47
theorem sc_is_measure:FnScope ["kind","thing"] ["kind","thing"] (defScope s_is_measure):=scF
theorem ok_is_measure {ca:Ca} (D:DefAt K mg "is_measure" s_is_measure) (T:Txt K mg w ca) (G_is_fraction:FnAt P w K mg base CX0 2 "is_fraction" ["thing"] (spFrA K)) (G_under:FnAt P w K mg base CX0 1 "under" ["one","other"] (spUnder)):FnAt P w K mg base CX0 3 "is_measure" ["kind","thing"] (spMs):=by
 refine D.ok sc_is_measure (fun vs H Q E h=>?_) (fun _ _ _ _ _ _ us hl=>match us,hl with | [_,_],_=>rfl) (fun f cdv A outer s H vs Q E hr h=>?_)
 ·obtain ⟨kd,v,b,rfl,hv,k⟩:=h; rfl
 ·obtain ⟨kd,v,b,rfl,hv,k⟩:=h
  have nd:=sc_is_measure.nd
  refine ⟨_,(pss_cons (ps_if (PW.pt (pw_or (pt_not (pt_val (pfn G_is_fraction hr (pa_cons (pv 1) pa_nil)))) (pw_or1 (pt_cmpR op_lt (pixT (pv 1) pe_int) pe_int (nomark _))))) (pss_one (ps_ret pe_bl)) pss_nil)
   (pss_cons (ps_if (pt_cmpR op_eq (pv 0) pe_str (nomark _)) (pss_one (ps_ret (pe_not (pfn G_under hr (pa_cons (pe_tup (pa_cons pe_int (pa_cons pe_int pa_nil))) (pa_cons (pv 1) pa_nil)))))) pss_nil)
   (pss_one (ps_ret (pe_cmpR (op_neD' (K:=K) rfl hr) (pv 1) (pe_tup (pa_cons pe_int (pa_cons pe_int pa_nil))) (nomark _)))))),?_⟩
  rcases hv with ⟨n,hv,hn,rfl⟩ | ⟨a,x,y,rfl,ha,hx,hy,rfl⟩ | ⟨a,p,y,rfl,ha,rfl⟩
  ·refine ⟨_,rfl,v,false,rfl,.inl ⟨n,hv,hn,rfl⟩,_,rfl,?_⟩
   exact iteT (k H (Same.refl _))
  ·refine ⟨_,rfl,.ref a,_,rfl,.inr (.inl ⟨a,x,y,rfl,ha,rfl⟩),_,rfl,?_⟩
   by_cases h1:(decide (1 <= y) && decide (dv x y = 1)) = true
   ·rw [h1]
    refine iteF ?_
    obtain ⟨h2,h3⟩:=Bool.and_eq_true_iff.mp h1
    have h2:1 <= y:=of_decide_eq_true h2
    have h3:dv x y = 1:=of_decide_eq_true h3
    refine ⟨_,rfl,a,_,0,_,rfl,rfl,SqT.of ha,rfl,_,_,rfl,rfl,_,rfl,?_⟩
    refine ite2 (fun h=>?_) (fun h=>?_)
    ·have h:x < 0:=of_decide_eq_true h
     have e:ms kd x y = false:=by
      unfold ms
      rw [decide_eq_false (show ¬ 0 <= x by lia),Bool.false_and,Bool.and_false]
     rw [e] at k
     exact k H (Same.refl _)
    ·have h0:¬ x < 0:=fun z=>h (decide_eq_true z)
     have em:ms kd x y = if kd = Str.ofString "part" then decide (x <= y) else !decide (x = 0 /\ y = 1):=by
      unfold ms
      rw [h1,Bool.true_and,decide_eq_true (show 0 <= x by lia),Bool.true_and]
     rw [em] at k
     refine ⟨_,rfl,rfl,_,rfl,?_⟩
     have hg:Int.gcd x y = 1:=by
      rw [dv_pos (by lia)] at h3
      lia
     obtain ⟨r,er1,er2⟩:∃ r:Rat,x = r.num /\ y = (r.den:Int):=by
      refine ⟨⟨x,y.natAbs,by lia,?_⟩,rfl,?_⟩
      ·unfold Int.gcd at hg; exact hg
      ·show y = (y.natAbs:Int); lia
     have fr:FrV H (.ref a) r:=⟨a,rfl,by rw [ha]; unfold fq; rw [er1,er2]⟩
     refine ite2 (fun h=>?_) (fun h=>?_)
     ·have e1:kd = Str.ofString "part":=V.str.inj (of_decide_eq_true h)
      rw [if_pos e1] at k
      refine ⟨sz (by simp),fun p hp=>?_⟩
      have t:=Same.upd (o:=.tup [.int 1,.int 1]) hp
      refine ⟨_,rfl,_,_,1,r,rfl,FrV.newOf rfl rfl,fr.same t,⟨by decide,by decide⟩,Bd.mono (m:=60) ⟨by rw [<- er1]; exact hx,by lia⟩ (by decide),_,rfl,?_⟩
      have e2:(!decide ((1:Rat) < r)) = decide (x <= y):=by
       rw [<- _root_.Tc.lt_ok,<- er1,<- er2]
       by_cases z:x <= y
       ·rw [decide_eq_true z,decide_eq_false]
        ·rfl
        ·show ¬ (1 * y < x * 1); lia
       ·rw [decide_eq_false z,decide_eq_true]
        ·rfl
        ·show 1 * y < x * 1; lia
      have k:=k _ t
      rw [<- e2] at k
      exact k
     ·have e1:¬ kd = Str.ofString "part":=fun z=>h (decide_eq_true (congrArg V.str z))
      rw [if_neg e1] at k
      refine ⟨_,rfl,sz (by simp),fun p hp=>?_⟩
      have t:=Same.upd (o:=.tup [.int 0,.int 1]) hp
      refine ⟨_,_,(fr.same t).rep,rep_pq (SqT.of upd_same),pq_depth _ _,?_⟩
      have k:=k _ t
      have e2:(!decide (x = 0 /\ y = 1)) = !PyData.eqv (pq r.num r.den) (pq 0 1):=by
       rw [eqv_pq,er1,er2]
      rw [e2] at k
      exact k
   ·have h1:(decide (1 <= y) && decide (dv x y = 1)) = false:=by simpa using h1
    rw [h1]
    have e:ms kd x y = false:=by unfold ms; rw [h1,Bool.false_and]
    rw [e] at k
    exact iteT (k H (Same.refl _))
  ·refine ⟨_,rfl,.ref a,false,rfl,.inr (.inr ⟨a,p,y,rfl,ha,rfl⟩),_,rfl,?_⟩
   exact iteT (k H (Same.refl _))
noncomputable abbrev s_has_form:Stmt:=top 48
theorem sc_has_form:FnScope ["thing"] ["thing"] (defScope s_has_form):=scF
theorem ok_has_form {ca:Ca} (D:DefAt K mg "has_form" s_has_form) (T:Txt K mg w ca) (G_is_name:FnAt P w K mg base CX0 1 "is_name" ["thing"] (spIsName)) (G_is_measure:FnAt P w K mg base CX0 3 "is_measure" ["kind","thing"] (spMs)):FnAt P w K mg base CX0 4 "has_form" ["thing"] (spHf K):=by
 refine D.ok sc_has_form (fun vs H Q E h=>?_) (fun _ _ _ _ _ _ us hl=>match us,hl with | [_],_=>rfl) (fun f cdv A outer s H vs Q E hr h=>?_)
 ·obtain ⟨v,b,rfl,hv,k⟩:=h; rfl
 ·obtain ⟨v,b,rfl,hv,k⟩:=h
  have nd:=sc_has_form.nd
  refine ⟨_,(pss_cons (ps_if (PW.pt (pw_or (pt_not (pt_val (pe_callB (call_isi' (K:=K) rfl) (by rfl) T.z_isinstance bt_isinstance (pa_cons (pv 0) (pa_cons (pe_bltn (v:=.ty "tuple") (by rfl) T.z_tuple bt_tuple rfl) pa_nil))))) (pw_or (pt_cmpR op_eq (pe_callB (call_len' (K:=K) rfl) (by rfl) T.z_len PySem.boot_len (pa_cons (pv 0) pa_nil)) pe_int (nomark _)) (pw_or1 (pt_not (pt_val (pe_callB (call_isi' (K:=K) rfl) (by rfl) T.z_isinstance bt_isinstance (pa_cons (pixT (pv 0) pe_int) (pa_cons (pe_bltn (v:=.ty "str") (by rfl) T.z_str bt_str rfl) pa_nil))))))))) (pss_one (ps_ret pe_bl)) pss_nil)
   (pss_cons (ps_if (PW.pt (pw_or (pt_cmpR (op_notInG (K:=K) rfl T.d_LENGTHS) (pixT (pv 0) pe_int) (pe_glob (v:=.ref _) (by rfl) T.c_LENGTHS rfl) (by rfl)) (pw_or1 (pt_cmpR op_ne (pe_callB (call_len' (K:=K) rfl) (by rfl) T.z_len PySem.boot_len (pa_cons (pv 0) pa_nil)) (pe_ix (ix_top (K:=K) rfl T.d_LENGTHS) (pe_glob (v:=.ref _) (by rfl) T.c_LENGTHS rfl) (pixT (pv 0) pe_int) (fun _ _=>rfl)) (nomark _))))) (pss_one (ps_ret pe_bl)) pss_nil)
   (pss_cons (ps_if (PW.pt (pw_and (pt_cmpR op_eq (pixT (pv 0) pe_int) pe_str (nomark _)) (pw_and1 (pt_not (pt_val (pfn G_is_name hr (pa_cons (pixT (pv 0) pe_int) pa_nil))))))) (pss_one (ps_ret pe_bl)) pss_nil)
   (pss_cons (ps_if (pt_not (pt_val (pe_callB (call_all' (K:=K) rfl rfl) (by rfl) T.z_all bt_all (pa_cons (pe_comp ["word"] [] [] rfl (by rfl) (pi_tup' (K:=K) rfl (pe_slice (sl_tup' (K:=K) rfl) (pv 0) (po_some pe_int) (po_some pe_int))) (fun _ _ _ _=>(pg_name (i:=0) (show List.Nodup (["word"]:List Str) from by decide) rfl (Or.inl rfl))) (fun _ _ _ _=>pif_none) (fun _ _ _ _=>(pe_callB (call_isi' (K:=K) rfl) (by rfl) T.z_isinstance bt_isinstance (pa_cons (pv 0) (pa_cons (pe_bltn (v:=.ty "str") (by rfl) T.z_str bt_str rfl) pa_nil))))) pa_nil)))) (pss_one (ps_ret pe_bl)) pss_nil)
   (pss_one (ps_ret (pe_or (pe_cmpR op_lt (pe_callB (call_len' (K:=K) rfl) (by rfl) T.z_len PySem.boot_len (pa_cons (pv 0) pa_nil)) pe_int (nomark _)) (pe_one (pfn G_is_measure hr (pa_cons (pixT (pv 0) pe_int) (pa_cons (pixT (pv 0) pe_int) pa_nil))))))))))),?_⟩
  rcases hv with ⟨n,hv,hn,rfl⟩ | ⟨a,xs,rfl,ha,hv⟩
  ·refine ⟨_,rfl,_,_,_,_,rfl,tyOf_of hv,kit_tt (tyS_mem hv) (by decide),_,rfl,?_⟩
   rw [sub_tup hn]
   exact iteT (k H (Same.refl _))
  have ht:tyS H (.ref a) = some "tuple":=ty_of ha rfl
  refine ⟨_,rfl,_,_,_,_,rfl,tyOf_of ht,kit_tt (by decide) (by decide),_,rfl,?_⟩
  refine iteF ?_
  refine ⟨_,rfl,_,_,rfl,.inr ⟨_,SqT.of ha,rfl⟩,rfl,_,rfl,?_⟩
  rcases hv with ⟨rfl,rfl⟩ | ⟨x,r,n,rfl,hx,hn,rfl⟩ | ⟨w,r,rfl,hl,hw,rfl⟩ | ⟨w,r,bm,rfl,hw,hty,hms,eb⟩
  ·exact iteT (k H (Same.refl _))
  ·refine dec_false (ln0 _ _) ?_
   refine ⟨_,rfl,a,_,0,_,rfl,rfl,SqT.of ha,at_0 _ _,_,_,_,_,rfl,tyOf_of hx,kit_tt (tyS_mem hx) (by decide),_,rfl,?_⟩
   rw [sub_str hn]
   exact k H (Same.refl _)
  ·refine dec_false (ln0 _ _) ?_
   refine ⟨_,rfl,a,_,0,_,rfl,rfl,SqT.of ha,at_0 _ _,_,_,_,_,rfl,tyOf_of (show tyS H (.str w) = some "str" from rfl),kit_tt (by decide) (by decide),_,rfl,?_⟩
   refine iteF ?_
   refine ⟨_,rfl,a,_,0,_,rfl,rfl,SqT.of ha,at_0 _ _,w,rfl,rfl,_,rfl,?_⟩
   cases hm:lens.lookup w with
   | none =>
    exact iteT (k H (Same.refl _))
   | some m =>
    refine iteF ?_
    refine ⟨_,rfl,_,_,rfl,.inr ⟨_,SqT.of ha,rfl⟩,_,rfl,a,_,0,_,rfl,rfl,SqT.of ha,at_0 _ _,w,m,rfl,rfl,hm,rfl,_,rfl,?_⟩
    have e:(!decide (V.int (((V.str w :: r).length:Nat):Int) = V.int m)) = true:=by
     rw [decide_eq_false]
     ·rfl
     ·intro z
      apply hw
      rw [hm]
      have:=V.int.inj z
      rw [List.length_cons] at this
      rw [<- this]
      congr 1
    rw [e]
    exact k H (Same.refl _)
  ·refine dec_false (ln0 _ _) ?_
   refine ⟨_,rfl,a,_,0,_,rfl,rfl,SqT.of ha,at_0 _ _,_,_,_,_,rfl,tyOf_of (show tyS H (.str w) = some "str" from rfl),kit_tt (by decide) (by decide),_,rfl,?_⟩
   refine iteF ?_
   refine ⟨_,rfl,a,_,0,_,rfl,rfl,SqT.of ha,at_0 _ _,w,rfl,rfl,_,rfl,?_⟩
   have hN:(List.lookup w lens).isNone = false:=by rw [hw]; rfl
   rw [hN]
   refine iteF ?_
   refine ⟨_,rfl,_,_,rfl,.inr ⟨_,SqT.of ha,rfl⟩,_,rfl,a,_,0,_,rfl,rfl,SqT.of ha,at_0 _ _,w,_,rfl,rfl,hw,rfl,_,rfl,?_⟩
   have e:(!decide (V.int (((V.str w :: r).length:Nat):Int) = V.int ((r.length:Int) + 1))) = false:=by
    rw [decide_eq_true]
    ·rfl
    ·rw [List.length_cons]; rfl
   rw [e]
   refine iteF ?_
   refine ⟨_,rfl,a,_,0,_,rfl,rfl,SqT.of ha,at_0 _ _,rfl,_,rfl,?_⟩
   refine' by_key1 (C:=fun Hx:Hp=>Same H Hx /\ (if w = Str.ofString "bring" then nmV (r.getD 0 .non) else true) = true) (fun key=>?go) ?body
   case go =>
    refine ite2 (fun h=>?_) (fun h=>?_)
    ·have hb:w = Str.ofString "bring":=V.str.inj (of_decide_eq_true h)
     have hr3:r.length = 3:=by
      have e4:lens.lookup (Str.ofString "bring") = some 4:=by decide +kernel
      rw [hb,e4] at hw
      have:=Option.some.inj hw
      lia
     obtain ⟨x1,x2,x3,er⟩:∃ x1 x2 x3,r = [x1,x2,x3]:=by
      match r,hr3 with
      | [x1,x2,x3],_=>exact ⟨x1,x2,x3,rfl⟩
     have en:(if w = Str.ofString "bring" then nmV (r.getD 0 .non) else true) = nmV x1:=by rw [if_pos hb,er]; rfl
     obtain ⟨n,hx,hxl⟩:=hty x1 (by rw [er]; simp)
     refine ⟨_,rfl,a,_,1,x1,rfl,rfl,SqT.of ha,by rw [er]; rfl,x1,n,rfl,hx,fun hn=>⟨_,rfl,?_⟩,fun z ez=>⟨hxl z ez,fun H1 s1=>⟨_,rfl,?_⟩⟩⟩
     ·have e0:nmV x1 = false:=by
       cases x1 with
       | str z=>exact absurd (Option.some.inj hx).symm hn
       | _=>rfl
      refine iteT ?_
      have k:=k H (Same.refl _)
      rw [eb,en,e0,Bool.false_and,Bool.false_and] at k
      exact k
     ·have e0:nmV x1 = nm z:=by rw [ez]; rfl
      cases hz:nm z with
      | true =>
       refine iteF ?_
       exact key H1 ⟨s1,by rw [en,e0,hz]⟩
      | false =>
       refine iteT ?_
       have k:=k H1 s1
       rw [eb,en,e0,hz,Bool.false_and,Bool.false_and] at k
       exact k
    ·have hb:¬ w = Str.ofString "bring":=fun z=>h (decide_eq_true (congrArg V.str z))
     refine sealH (F:=fun Hx=>Same H Hx) (Same.refl _) fun Hx sx=>?_
     refine iteF ?_
     exact key Hx ⟨sx,if_neg hb⟩
   case body =>
    rintro H1 ⟨s1,en⟩
    rw [en,Bool.true_and] at eb
    have ha1:=s1 _ _ ha
    refine ⟨_,rfl,_,rfl,_,rfl,a,_,rfl,SqT.of ha1,ix1 _ _,fun q hq=>?_⟩
    rw [cut13]
    have t1:=Same.upd (o:=.tup (r.take 2)) hq
    refine ⟨q,rfl,⟨_,SqT.of upd_same⟩,fun D hD=>?_⟩
    have s2:=(s1.trans t1).trans (Same.upd (o:=.lst []) hD)
    have hl2:(r.take 2).length <= 2:=by rw [List.length_take]; lia
    refine block_tup (xs:=r.take 2) (fun i σ' H'=>∃ v:Option V,σ' = [v] /\ Same (upd H1 q (.tup (r.take 2))) H' /\ H' D = some (.lst ((((r.take 2).take i).map isS).map V.bl))) ⟨none,rfl,Same.upd hD,upd_same⟩ ?_ ?_ ?_
    ·rintro i σ' H' hi ⟨v,rfl,s3,_⟩
     exact SqT.of (s3 _ _ upd_same)
    ·rintro i x σ' H' hx ⟨v,rfl,s3,hd⟩
     obtain ⟨n,hn,_⟩:=hty x (List.mem_of_getElem? hx)
     have hn':tyS H' x = some n:=tyS_same hn ((s1.trans t1).trans s3)
     refine ⟨_,rfl,_,_,_,_,rfl,tyOf_of hn',kit_tt (tyS_mem hn') (by decide),?_⟩
     refine ⟨_,hd,by rw [List.length_map,List.length_map,List.length_take]; exact sz (by lia),_,rfl,s3.updD hD,?_⟩
     rw [upd_same,take_one hx,List.map_append,List.map_append,<- isS_sub hn']
     rfl
    ·rintro σ' H2 ⟨v,rfl,s3,hd⟩
     rw [List.take_length] at hd
     refine ⟨D,_,rfl,SqL.of hd,_,rfl,?_⟩
     have s4:=(s1.trans t1).trans s3
     have ea:((r.take 2).map isS).all id = (r.take 2).all isS:=by rw [List.all_map]; rfl
     rw [ea]
     cases hb:(r.take 2).all isS with
     | false =>
      refine iteT ?_
      have k:=k H2 s4
      rw [eb,hb,Bool.false_and] at k
      exact k
     | true =>
      refine iteF ?_
      rw [hb,Bool.true_and] at eb
      have ha2:=s4 _ _ ha
      refine ⟨_,rfl,_,_,rfl,.inr ⟨_,SqT.of ha2,rfl⟩,_,_,rfl,rfl,_,rfl,?_⟩
      have hlr:r.length <= 3:=lens_le hw
      refine ite2 (fun h=>?_) (fun h=>?_)
      ·have h:(((V.str w :: r).length:Nat):Int) < 4:=of_decide_eq_true h
       have h3:¬ r.length = 3:=by rw [List.length_cons] at h; lia
       have k:=k H2 s4
       rw [eb,if_neg h3] at k
       exact k
      ·have h:¬ (((V.str w :: r).length:Nat):Int) < 4:=fun z=>h (decide_eq_true z)
       have h3:r.length = 3:=by rw [List.length_cons] at h; lia
       obtain ⟨x3,hx3⟩:∃ x3,r[2]? = some x3:=⟨_,List.getElem?_eq_getElem (by lia)⟩
       have hm:=hms x3 hx3
       refine ⟨_,rfl,a,_,0,_,rfl,rfl,SqT.of ha2,at_0 _ _,_,rfl,a,_,3,x3,rfl,rfl,SqT.of ha2,atI_nat (j:=3) hx3,w,x3,bm,rfl,hm.same s4,fun H3 s5=>?_⟩
       have k:=k H3 (s4.trans s5)
       rw [eb,if_pos h3] at k
       exact k
noncomputable abbrev s_check_deed:Stmt:=top 49
theorem sc_check_deed:FnScope ["thing","kinds"] ["thing","kinds"] (defScope s_check_deed):=scF
theorem ok_check_deed {ca:Ca} (D:DefAt K mg "check_deed" s_check_deed) (T:Txt K mg w ca) (G_has_form:FnAt P w K mg base CX0 4 "has_form" ["thing"] (spHf K)) (G_check_plain:FnAt P w K mg base (CXD P w) 2 "check_plain" ["deed","kinds"] (spCl (cl3 ca.NoPlace ca.NoCask ca.NoCask))):FnAt P w K mg base (CXE P w) 5 "check_deed" ["thing","kinds"] (spCkd ca.NoDeed):=by
 refine D.okE sc_check_deed (fun vs H Q E h=>?_) (fun _ _ _ _ _ _ us hl=>match us,hl with | [_,_],_=>rfl) (fun f cdv A outer s H vs Q E hr h=>?_)
 ·obtain ⟨v,kk,b,rfl,hv,kF,kT⟩:=h; rfl
 ·obtain ⟨v,kk,b,rfl,hv,kF,kT⟩:=h
  have nd:=sc_check_deed.nd
  refine ⟨_,(pss_cons (ps_if (pt_not (pt_val (pfn G_has_form hr (pa_cons (pv 0) pa_nil)))) (pss_one (ps_raise raises_cx rfl (by rfl) T.c_NoDeed T.e_NoDeed PySem.F.excBase_ValueError (pa_cons pe_str pa_nil))) pss_nil)
   (pss_one (ps_tryD rfl rfl (pexD_fn G_check_plain hr (by rfl) (pa_cons (pv 0) (pa_cons (pv 1) pa_nil))) (hdD_raise raisesG (fun _=>PassesOwnAt.leaving) (by rfl) T.c_NoPlace (by rfl) T.c_NoDeed T.e_NoDeed PySem.F.excBase_ValueError (hdD_raise raisesG (fun _=>PassesOwnAt.leaving) (by rfl) T.c_NoCask (by rfl) T.c_NoDeed T.e_NoDeed PySem.F.excBase_ValueError hdD_none))))),?_⟩
  refine ⟨_,rfl,v,b,rfl,hv,fun H1 s1=>⟨_,rfl,?_⟩⟩
  cases b with
  | false =>
   refine iteT ?_
   exact ⟨sz (by simp),kF rfl H1 s1⟩
  | true =>
   refine iteF ?_
   obtain ⟨ps,kv,kd,hp,hs,hk,hkd,kQ,kE⟩:=kT rfl
   refine ⟨_,rfl,_,rfl,v,kk,ps,kv,kd,rfl,hp.ts s1.ts,hs,s1 _ _ hk,hkd,fun hn H2 s2=>kQ hn H2 (s1.trans s2),fun q hq H2 s2=>?_⟩
   have kf:=kE q hq H2 (s1.trans s2)
   cases q with
   | np=>exact ⟨true,T.m_NoPlace_NoPlace,kf⟩
   | nc=>exact ⟨false,T.m_NoCask_NoPlace,true,T.m_NoCask_NoCask,kf⟩
   | nr=>exact ⟨false,T.m_NoCask_NoPlace,true,T.m_NoCask_NoCask,kf⟩
noncomputable abbrev s__law_cell_at:Stmt:=top 52
theorem sc__law_cell_at:FnScope ["_law_script","_law_k"] ["_law_script","_law_k"] (defScope s__law_cell_at):=scF
theorem ok__law_cell_at {ca:Ca} (D:DefAt K mg "_law_cell_at" s__law_cell_at) (T:Txt K mg w ca):FnAt P w K mg base CX0 1 "_law_cell_at" ["_law_script","_law_k"] (spCell K):=by
 refine D.ok sc__law_cell_at (fun vs H Q E h=>?_) (fun _ _ _ _ _ _ us hl=>match us,hl with | [_,_],_=>rfl) (fun f cdv A outer s H vs Q E hr h=>?_)
 ·obtain ⟨a,ns,j,rfl,hS,hj,k⟩:=h; rfl
 ·obtain ⟨a,ns,j,rfl,hS,hj,k⟩:=h
  have nd:=sc__law_cell_at.nd
  refine ⟨_,(pss_cons (ps_if (pt_cmpR op_lt (pv 1) (pe_callB (call_len' (K:=K) rfl) (by rfl) T.z_len PySem.boot_len (pa_cons (pv 0) pa_nil)) (nomark _)) (pss_one (ps_ret (pixL (pv 0) (pv 1)))) pss_nil)
   (pss_one (ps_ret pe_int))),?_⟩
  refine ⟨_,rfl,_,rfl,_,_,rfl,.inl ⟨_,hS,rfl⟩,_,_,rfl,rfl,_,rfl,?_⟩
  refine ite2 (fun h1=>?_) (fun h1=>?_)
  ·obtain ⟨c,hc⟩:=map_at hj (of_decide_eq_true h1)
   refine ⟨_,rfl,_,rfl,a,_,j,_,rfl,rfl,hS,hc,k c⟩
  ·exact k 0
noncomputable abbrev s__law_mixed:Stmt:=top 53
theorem sc__law_mixed:FnScope ["_law_cell","_law_k","_law_one"] ["_law_cell","_law_k"] (defScope s__law_mixed):=scF
theorem ok__law_mixed {ca:Ca} (D:DefAt K mg "_law_mixed" s__law_mixed) (T:Txt K mg w ca):FnAt P w K mg base CX0 1 "_law_mixed" ["_law_cell","_law_k"] (spMixed2):=by
 refine D.ok sc__law_mixed (fun vs H Q E h=>?_) (fun _ _ _ _ _ _ us hl=>match us,hl with | [_,_],_=>rfl) (fun f cdv A outer s H vs Q E hr h=>?_)
 ·obtain ⟨c,j,rfl,⟨j0,j1⟩,k⟩:=h; rfl
 ·obtain ⟨c,j,rfl,⟨j0,j1⟩,k⟩:=h
  have nd:=sc__law_mixed.nd
  refine ⟨_,(pss_cons (ps_set (i:=2) nd rfl (Or.inl rfl) (pe_op op_modN (pe_op op_mulB (pe_op op_add (pe_op op_add (pe_op op_modN (pv 0) pe_int) (pe_op op_mulB (pe_op op_mulB pe_int (pv 1)) (pv 1))) (pv 1)) pe_int) pe_int))
   (pss_one (ps_ret (pe_op op_modN (pe_op op_mulB (pv 2) (pv 2)) pe_int)))),?_⟩
  have q1:=fmod_lt (c:=c) (m:=1000000007) (by decide)
  have e1:0 <= 101 * j /\ 101 * j <= 10100:=by lia
  have e2:0 <= 101 * j * j /\ 101 * j * j <= 10100 * 100:=⟨Int.mul_nonneg e1.1 j0,Int.mul_le_mul e1.2 j1 j0 (by lia)⟩
  refine ⟨_,rfl,_,_,rfl,rfl,(show (1000000007:Int) ≠ 0 by decide),_,rfl,_,_,rfl,rfl,mulOk_of 64 (by decide) (Nat.lt_of_le_of_lt (m:=100) (by lia) (by decide)) (by decide),_,rfl,_,_,rfl,rfl,mulOk_of 64 (Nat.lt_of_le_of_lt (m:=10100) (by lia) (by decide)) (Nat.lt_of_le_of_lt (m:=100) (by lia) (by decide)) (by decide),_,_,rfl,rfl,_,rfl,_,_,rfl,rfl,_,_,rfl,rfl,mulOk_of 64 (Nat.lt_of_le_of_lt (m:=1002000000) (by lia) (by decide)) (by decide) (by decide),_,_,rfl,rfl,(show (2147483647:Int) ≠ 0 by decide),?_⟩
  have q2:=fmod_lt (c:=(c.fmod 1000000007 + 101 * j * j + j) * 48271) (m:=2147483647) (by decide)
  refine ⟨_,rfl,_,rfl,_,_,rfl,rfl,mulOk_of 64 (Nat.lt_of_le_of_lt (m:=2147483647) (by lia) (by decide)) (Nat.lt_of_le_of_lt (m:=2147483647) (by lia) (by decide)) (by decide),_,_,rfl,rfl,(show (2147483629:Int) ≠ 0 by decide),?_⟩
  exact k _ (fmod_lt (by decide)).1
noncomputable abbrev s__law_names:Stmt:=top 54
theorem sc__law_names:FnScope ["_law_cell","_law_many","_law_letters","_law_base","_law_at_here","_law_found","_law_k","_law_name","_law_j"] ["_law_cell","_law_many"] (defScope s__law_names):=scF
theorem ok__law_names {ca:Ca} (D:DefAt K mg "_law_names" s__law_names) (T:Txt K mg w ca) (G__law_mixed:FnAt P w K mg base CX0 1 "_law_mixed" ["_law_cell","_law_k"] (spMixed2)):FnAt P w K mg base CX0 2 "_law_names" ["_law_cell","_law_many"] (spNm 6):=by
 refine D.ok sc__law_names (fun vs H Q E h=>?_) (fun _ _ _ _ _ _ us hl=>match us,hl with | [_,_],_=>rfl) (fun f cdv A outer s H vs Q E hr h=>?_)
 ·obtain ⟨c,m,rfl,hm,k⟩:=h; rfl
 ·obtain ⟨c,m,rfl,hm,k⟩:=h
  have nd:=sc__law_names.nd
  refine ⟨_,(pss_cons (ps_set (i:=2) nd rfl (Or.inl rfl) pe_str)
   (pss_cons (ps_setcomp ["_law_k"] ["_law_cell"] [0] (i:=3) nd rfl rfl rfl (by rfl) (pi_range1 (by rfl) T.z_range (pa_cons (pe_op op_add pe_int (pe_op op_modN (pv 0) pe_int)) pa_nil)) (fun _ _ _ _=>(pg_name (i:=0) (show List.Nodup (["_law_k","_law_cell"]:List Str) from by decide) rfl (Or.inl rfl))) (fun _ _ _ _=>pif_none) (fun _ _ _ _=>(pe_op op_modN (pfn G__law_mixed hr (pa_cons (pv 1) (pa_cons (pe_op op_add pe_int (pv 0)) pa_nil))) pe_int)))
   (pss_cons (ps_set (i:=4) nd rfl (Or.inl rfl) (pe_op op_modN (pfn G__law_mixed hr (pa_cons (pv 0) (pa_cons pe_int pa_nil))) (pe_callB (call_len' (K:=K) rfl) (by rfl) T.z_len PySem.boot_len (pa_cons (pv 3) pa_nil))))
   (pss_cons (ps_set (i:=5) nd rfl (Or.inl rfl) (pe_lst pa_nil))
   (pss_cons (ps_for PassesOwn.never rfl (pi_range1 (by rfl) T.z_range (pa_cons (pv 1) pa_nil)) (pg_name (i:=6) nd rfl (Or.inl rfl)) (pss_cons (ps_set (i:=7) nd rfl (Or.inl rfl) pe_str)
   (pss_cons (ps_for PassesOwn.never rfl (pi_range1 (by rfl) T.z_range (pa_cons (pe_callB (call_len' (K:=K) rfl) (by rfl) T.z_len PySem.boot_len (pa_cons (pv 3) pa_nil)) pa_nil)) (pg_name (i:=8) nd rfl (Or.inl rfl)) (pss_one (ps_set (i:=7) nd rfl (Or.inl rfl) (pe_op op_add_str (pv 7) (pe_ix ix_str (pv 2) (pe_op op_modN (pe_op op_add (pixL (pv 3) (pv 8)) (pe_op op_mulB (pe_op op_mulB pe_int (pv 6)) (pe_callTy call_int1 (by rfl) T.z_int bt_int (pa_cons (pe_cmpR op_eq (pv 8) (pv 4) (nomark _)) pa_nil)))) pe_int) (fun _ _=>rfl))))))
   (pss_one (ps_expr (pe_bm PySem.F.plainAttrs_list PySem.F.slot_list_append PySem.F.type_list_append mt_append (pv 5) (pa_cons (pv 7) pa_nil)))))))
   (pss_one (ps_ret (pv 5)))))))),?_⟩
  have q8:=fmod_lt (c:=c) (m:=8) (by decide)
  refine ⟨_,rfl,_,_,rfl,rfl,(show (8:Int) ≠ 0 by decide),_,_,rfl,rfl,_,rfl,by lia,by lia,fun D hD=>?_⟩
  refine block_range (fun i σ' H'=>∃ (v:Option V) (bs:List Int),σ' = [v,some (.int c)] /\ Same H H' /\ H' D = some (.lst (bs.map V.int)) /\ bs.length = i) ⟨none,[],rfl,Same.upd hD,upd_same,rfl⟩ ?_ ?_
  ·rintro i σ' H' hi ⟨v,bs,rfl,s1,hd,hl⟩
   have hi:i < (1 + c.fmod 8).toNat:=hi
   refine ⟨_,rfl,_,rfl,_,_,rfl,rfl,c,10 + (0 + (i:Int)),rfl,⟨by lia,by lia⟩,fun mm hmm=>⟨_,_,rfl,rfl,(show (26:Int) ≠ 0 by decide),?_⟩⟩
   refine ⟨_,hd,by rw [List.length_map]; exact sz (by lia),_,bs ++ [mm.fmod 26],rfl,s1.updD hD,?_,by rw [List.length_append,hl]; rfl⟩
   rw [upd_same,List.map_append]
   rfl
  rintro σ' H1 ⟨v,bs,rfl,s1,hd,hl⟩
  have hl:bs.length = (1 + c.fmod 8).toNat:=hl
  have hlen:(bs.map V.int).length = bs.length:=List.length_map ..
  refine ⟨_,rfl,c,9,rfl,⟨by decide,by decide⟩,fun mm hmm=>⟨_,rfl,_,_,rfl,.inl ⟨_,SqL.of hd,rfl⟩,_,_,rfl,rfl,(show (((bs.map V.int).length:Nat):Int) ≠ 0 by rw [hlen]; lia),?_⟩⟩
  have qa:=fmod_lt (c:=mm) (m:=(((bs.map V.int).length:Nat):Int)) (by rw [hlen]; lia)
  let av:Int:=mm.fmod (((bs.map V.int).length:Nat):Int)
  obtain ⟨a0,ea⟩:∃ a0:Nat,av = (a0:Nat):=Int.eq_ofNat_of_zero_le qa.1
  have ha0:a0 < bs.length:=by
   have h2:av < (((bs.map V.int).length:Nat):Int):=qa.2
   rw [ea,hlen] at h2; lia
  refine ⟨sz (by simp),fun p hp=>?_⟩
  have sp1:=Same.upd (o:=.lst []) hp
  refine ⟨_,rfl,_,rfl,by lia,by lia,?_⟩
  refine for_range (fun i σ H2=>∃ (v6 v7 v8:Option V),σ = [some (.int c),some (.int (m:Nat)),some (.str LT),some (.ref D),some (.int av),some (.ref p),v6,v7,v8] /\ Same H1 H2 /\ H2 p = some (.lst (((List.range i).map fun k=>nmw bs av k bs.length).map V.str))) ⟨none,none,none,rfl,sp1,upd_same⟩ ?_ ?_
  ·rintro i σ H2 hi ⟨v6,v7,v8,rfl,s2,hp2⟩
   have hi:i < m:=by simpa using hi
   have hd2:=s2 _ _ hd
   refine ⟨_,rfl,_,_,rfl,.inl ⟨_,SqL.of hd2,rfl⟩,_,rfl,by rw [hlen]; lia,by rw [hlen]; lia,?_⟩
   refine for_range (fun j σ H3=>∃ (v8:Option V),σ = [some (.int c),some (.int (m:Nat)),some (.str LT),some (.ref D),some (.int av),some (.ref p),some (.int (0 + (i:Int))),some (.str (nmw bs av i j)),v8] /\ H3 = H2) ⟨v8,rfl,rfl⟩ ?_ ?_
   ·rintro j σ H3 hj ⟨v8,rfl,rfl⟩
    have hj:j < bs.length:=by
     have hj:j < (((bs.map V.int).length:Nat):Int).toNat:=hj
     rw [hlen] at hj; simpa using hj
    have q26:=fmod_lt (c:=bs.getD j 0 + 3 * (i:Int) * (if decide (V.int (j:Nat) = V.int av) = true then 1 else 0)) (m:=26) (by decide)
    refine ⟨_,rfl,_,rfl,_,rfl,_,rfl,D,_,_,_,rfl,rfl,SqL.of hd2,getD_map_at hj,_,rfl,_,_,rfl,rfl,mulOk_of 64 (by decide) (Nat.lt_of_le_of_lt (m:=20) (by lia) (by decide)) (by decide),_,rfl,_,rfl,rfl,.inr ⟨_,rfl,_,_,rfl,rfl,mulOk_of 64 (Nat.lt_of_le_of_lt (m:=60) (by lia) (by decide)) ?_ (by decide),_,_,rfl,rfl,_,_,rfl,rfl,(show (26:Int) ≠ 0 by decide),_,_,nmc bs av i j,rfl,rfl,sz (by decide),?_,?_⟩⟩
    ·refine Nat.lt_of_le_of_lt (m:=1) ?_ (by decide)
     show (if _ then (1:Int) else 0).natAbs <= 1
     split <;> decide
    ·have e1:(bs.getD j 0 + 3 * (0 + (i:Int)) * (if decide (V.int (0 + (j:Int)) = V.int av) = true then 1 else 0)) = bs.getD j 0 + 3 * (i:Int) * (if decide (V.int (j:Nat) = V.int av) = true then 1 else 0):=by rw [Int.zero_add,Int.zero_add]
     show atI LT.cps.toList ((bs.getD j 0 + 3 * (0 + (i:Int)) * (if decide (V.int (0 + (j:Int)) = V.int av) = true then 1 else 0)).fmod 26) = _
     rw [e1]
     exact lt_at q26
    ·refine ⟨_,_,rfl,rfl,sz (show (nmw bs av i j).length + 1 <= 1000 by rw [nmw_len]; lia),?_⟩
     refine ⟨some (.int (0 + (j:Int))),?_,rfl⟩
     show [_,_,_,_,_,_,_,some (V.str (nmw bs av i j ++ one1 (nmc bs av i j))),_] = _
     rw [nmw_succ]
   ·rintro σ H3 ⟨v8,rfl,rfl⟩
    have ej:(((bs.map V.int).length:Nat):Int).toNat = bs.length:=by rw [hlen]; simp
    refine ⟨_,rfl,.inl ⟨rfl,_,SqL.of hp2⟩,_,rfl,p,_,_,rfl,rfl,hp2,by rw [List.length_map,List.length_map,List.length_range]; exact sz (by lia),?_⟩
    refine ⟨_,_,_,rfl,s2.updD hp,?_⟩
    rw [upd_same,List.range_succ,List.map_append,List.map_append,ej]
    rfl
  rintro σ H2 ⟨v6,v7,v8,rfl,s2,hp2⟩
  have hp2:H2 p = some (.lst (((List.range m).map fun k=>nmw bs av k bs.length).map V.str)):=by simpa using hp2
  refine ⟨_,rfl,k p H2 _ (s1.free hp) (s1.trans s2) hp2 (by rw [List.length_map,List.length_range]) ?_ (fun z hz=>?_) fun z hz=>?_⟩
  ·rw [ea]; exact nmw_nodup ha0 (by lia)
  ·obtain ⟨x,_,rfl⟩:=List.mem_map.mp hz
   exact nmw_lay _ _ _ _
  ·obtain ⟨x,_,rfl⟩:=List.mem_map.mp hz
   exact nmw_nm _ _ _ (by lia)
noncomputable abbrev s__law_low:Stmt:=top 55
theorem sc__law_low:FnScope ["_law_top","_law_bottom","_law_one","_law_other"] ["_law_top","_law_bottom"] (defScope s__law_low):=scF
theorem ok__law_low {ca:Ca} (D:DefAt K mg "_law_low" s__law_low) (T:Txt K mg w ca):FnAt P w K mg base CX0 1 "_law_low" ["_law_top","_law_bottom"] (spLow):=by
 refine D.ok sc__law_low (fun vs H Q E h=>?_) (fun _ _ _ _ _ _ us hl=>match us,hl with | [_,_],_=>rfl) (fun f cdv A outer s H vs Q E hr h=>?_)
 ·obtain ⟨t,b,rfl,hb,hbb,k⟩:=h; rfl
 ·obtain ⟨t,b,rfl,hb,hbb,k⟩:=h
  have nd:=sc__law_low.nd
  refine ⟨_,(pss_cons (ps_set (i:=2) nd rfl (Or.inl rfl) (pe_callB call_abs (by rfl) T.z_abs bt_abs (pa_cons (pv 0) pa_nil)))
   (pss_cons (ps_set (i:=3) nd rfl (Or.inl rfl) (pv 1))
   (pss_cons (ps_while PassesOwn.never (pt_cmpR op_ne (pv 3) pe_int (nomark _)) (pss_one (ps_par (i:=2) (j:=3) rfl nd rfl rfl (by decide) rfl rfl (pa_cons (pv 3) (pa_cons (pe_op op_modN (pv 2) (pv 3)) pa_nil)) rfl)))
   (pss_one (ps_ret (pe_tup (pa_cons (pe_op op_fdivB (pv 0) (pv 2)) (pa_cons (pe_op op_fdivB (pv 1) (pv 2)) pa_nil)))))))),?_⟩
  have hb0:b ≠ 0:=by lia
  have hdv:dv t b = ((Int.gcd t b:Nat):Int):=by
   unfold dv
   rw [if_neg (by lia)]
  have hd:∀ i,CDivB i (dv t b):=fun i=>divB_of (dv_ne hb0) (Nat.lt_of_le_of_lt (dv_le hb0) hbb)
  refine ⟨_,rfl,t,rfl,?_⟩
  refine ⟨_,rfl,?_⟩
  refine while_by (fun σ H1=>∃ x y:Int,σ = [some (.int t),some (.int b),some (.int x),some (.int y)] /\ H1 = H /\ 0 <= x /\ 0 <= y /\ Int.gcd x y = Int.gcd t b)
   (fun σ _=>match σ with | [_,_,_,some (.int y)]=>y.natAbs | _=>0) ⟨_,b,rfl,rfl,?_,by lia,?_⟩ ?_ ?_
  ·show 0 <= (if t < 0 then -t else t)
   split <;> lia
  ·show Int.gcd (if t < 0 then -t else t) b = Int.gcd t b
   split
   ·rw [Int.neg_gcd]
   ·rfl
  ·rintro σ H1 ⟨x,y,rfl,rfl,x0,y0,d⟩
   refine ⟨_,rfl,rfl,_,rfl,?_⟩
   refine ite2 (fun h1=>?_) (fun h1=>?_)
   ·have hy:y ≠ 0:=by
     intro e; subst e; simp at h1
    refine ⟨_,rfl,_,rfl,_,rfl,_,_,rfl,rfl,hy,_,_,rfl,?_⟩
    exact ⟨⟨_,_,rfl,rfl,y0,(fmod_lt (by lia)).1,(gcd_fmod x y).trans d⟩,Dv.less hy⟩
   ·have hy:y = 0:=by
     by_cases e:y = 0
     ·exact e
     ·exact absurd (by simp [e]) h1
    subst hy
    rw [Int.gcd_zero_right] at d
    have ex:x = dv t b:=by rw [hdv,<- d]; lia
    subst ex
    refine ⟨_,rfl,_,rfl,_,_,rfl,rfl,hd _,_,rfl,_,rfl,_,_,rfl,rfl,hd _,sz (by simp),fun p hp=>?_⟩
    exact k _ _ (Same.upd hp) (FrV.newOf (dv_num hb0) (dv_den hb0))
  ·intro σ H1 Q1 Q2 hq h1
   obtain ⟨v,e,h2,c,e2,h3⟩:=h1
   exact ⟨v,e,h2,c,e2,hq _ _ h3⟩
noncomputable abbrev s__law_house:Stmt:=top 58
theorem sc__law_house:FnScope ["_law_cell","_law_names_here","_law_way","_law_many","_law_house_here","_law_k","_law_size","_law_room","_law_sinks"] ["_law_cell"] (defScope s__law_house):=scF
theorem ok__law_house {ca:Ca} (D:DefAt K mg "_law_house" s__law_house) (T:Txt K mg w ca) (G__law_names:FnAt P w K mg base CX0 2 "_law_names" ["_law_cell","_law_many"] (spNm 6)) (G__law_mixed:FnAt P w K mg base CX0 1 "_law_mixed" ["_law_cell","_law_k"] (spMixed2)) (G__law_low:FnAt P w K mg base CX0 1 "_law_low" ["_law_top","_law_bottom"] (spLow)):FnAt P w K mg base CX0 3 "_law_house" ["_law_cell"] (spHouse):=by
 refine D.ok sc__law_house (fun vs H Q E h=>?_) (fun _ _ _ _ _ _ us hl=>match us,hl with | [_],_=>rfl) (fun f cdv A outer s H vs Q E hr h=>?_)
 ·obtain ⟨c,rfl,k⟩:=h; rfl
 ·obtain ⟨c,rfl,k⟩:=h
  have nd:=sc__law_house.nd
  refine ⟨_,(pss_cons (ps_set (i:=1) nd rfl (Or.inr rfl) (pfn G__law_names hr (pa_cons (pv 0) (pa_cons pe_int pa_nil))))
   (pss_cons (ps_set (i:=2) nd rfl (Or.inl rfl) (pfn G__law_mixed hr (pa_cons (pv 0) (pa_cons pe_int pa_nil))))
   (pss_cons (ps_set (i:=3) nd rfl (Or.inr rfl) (pe_op op_add pe_int (pe_op op_modN (pv 2) pe_int)))
   (pss_cons (ps_set (i:=4) nd rfl (Or.inl rfl) (pe_lst pa_nil))
   (pss_cons (ps_for PassesOwn.never rfl (pi_range1 (by rfl) T.z_range (pa_cons (pv 3) pa_nil)) (pg_name (i:=5) nd rfl (Or.inl rfl)) (pss_cons (ps_set (i:=6) nd rfl (Or.inl rfl) (pfn G__law_mixed hr (pa_cons (pv 0) (pa_cons (pe_op op_add pe_int (pv 5)) pa_nil))))
   (pss_cons (ps_set (i:=7) nd rfl (Or.inl rfl) (pfn G__law_low hr (pa_cons (pe_op op_add pe_int (pe_op op_modN (pv 6) pe_int)) (pa_cons (pe_op op_add pe_int (pe_op op_modN (pe_op op_fdivB (pv 6) pe_int) pe_int)) pa_nil))))
   (pss_cons (ps_if (pt_cmpR op_eq (pe_op op_modN (pe_op op_fdivB (pv 6) pe_int) pe_int) pe_int (nomark _)) (pss_one (ps_set (i:=7) nd rfl (Or.inl rfl) (pe_tup (pa_cons (pe_op op_sub (pe_op op_pow pe_int pe_int) pe_int) (pa_cons pe_int pa_nil))))) pss_nil)
   (pss_one (ps_expr (pe_bm PySem.F.plainAttrs_list PySem.F.slot_list_append PySem.F.type_list_append mt_append (pv 4) (pa_cons (pe_tup (pa_cons pe_str (pa_cons (pixL (pv 1) (pv 5)) (pa_cons (pv 7) pa_nil)))) pa_nil))))))))
   (pss_cons (ps_setcomp ["_law_k"] ["_law_names_here","_law_many"] [1,3] (i:=8) nd rfl rfl rfl (by rfl) (pi_range1 (by rfl) T.z_range (pa_cons (pe_op op_add pe_int (pe_op op_modN (pe_op op_fdivB (pv 2) pe_int) pe_int)) pa_nil)) (fun _ _ _ _=>(pg_name (i:=0) (show List.Nodup (["_law_k","_law_names_here","_law_many"]:List Str) from by decide) rfl (Or.inl rfl))) (fun _ _ _ _=>pif_none) (fun _ _ _ _=>(pe_tup (pa_cons pe_str (pa_cons (pixL (pv 1) (pe_op op_add (pv 2) (pv 0))) pa_nil)))))
   (pss_cons (ps_if (pt_cmpR op_eq (pe_op op_modN (pe_op op_fdivB (pv 2) pe_int) pe_int) pe_int (nomark _)) (pss_one (ps_ret (pe_op op_cat (pv 8) (pv 4)))) pss_nil)
   (pss_one (ps_ret (pe_op op_cat (pv 4) (pv 8))))))))))),?_⟩
  refine ⟨_,rfl,c,6,rfl,Nat.le_refl _,fun an H1 L hna s1 hN hL nd lay nm0=>?_⟩
  refine ⟨_,rfl,c,30,rfl,⟨by decide,by decide⟩,fun wy wy0=>?_⟩
  have q3:=fmod_lt (c:=wy) (m:=3) (by decide)
  obtain ⟨m,em⟩:=Int.eq_ofNat_of_zero_le (show 0 <= 2 + wy.fmod 3 by lia)
  have m2:2 <= m:=by lia
  have m4:m <= 4:=by lia
  refine ⟨_,rfl,_,_,rfl,rfl,(show (3:Int) ≠ 0 by decide),_,_,rfl,rfl,?_⟩
  refine ⟨sz (by simp),fun ph hph=>?_⟩
  have tp:=Same.upd (o:=.lst []) hph
  refine ⟨_,rfl,_,rfl,by lia,by lia,?_⟩
  refine for_range (fun i σ H2=>∃ (v5 v6 v7:Option V) (xs:List V) (cs:List Plc),σ = [some (.int c),some (.ref an),some (.int wy),some (.int (2 + wy.fmod 3)),some (.ref ph),v5,v6,v7,none] /\ Same H1 H2 /\ H2 ph = some (.lst xs) /\ Paired (PlV H2) xs cs /\ xs.length = i /\ allN cs = L.take i /\ (∀ p ∈ cs,isC p = true) /\ RoomsR cs) ⟨none,none,none,[],[],rfl,tp,upd_same,.nil,rfl,rfl,(fun _ z=>nomatch z),(fun _ _ z=>nomatch z)⟩ ?_ ?_
  ·rintro i σ H2 hi ⟨v5,v6,v7,xs,cs,rfl,s2,h2,hP,hl,eL,ic,ro⟩
   have hi:i < m:=by
    have hi:i < (2 + wy.fmod 3).toNat:=hi
    lia
   have hN2:=s2 _ _ hN
   have hiL:i < L.length:=by lia
   refine ⟨_,rfl,_,rfl,_,_,rfl,rfl,c,31 + (0 + (i:Int)),rfl,⟨by lia,by lia⟩,fun z z0=>?_⟩
   have q240:=fmod_lt (c:=z) (m:=240) (by decide)
   have q4:=fmod_lt (c:=z.fdiv 240) (m:=4) (by decide)
   refine ⟨_,rfl,_,_,rfl,rfl,(show (240:Int) ≠ 0 by decide),_,_,rfl,rfl,_,rfl,_,_,rfl,rfl,ddv (by decide) (by decide),_,_,rfl,rfl,(show (4:Int) ≠ 0 by decide),_,_,rfl,rfl,1 + z.fmod 240,1 + (z.fdiv 240).fmod 4,rfl,by lia,Nat.lt_of_le_of_lt (m:=10) (by lia) (by decide),fun w3 H3 s3 f3=>?_⟩
   obtain ⟨l3,rfl,hl3⟩:=id f3
   have hat:atI (L.map V.str) (0 + (i:Int)) = some (.str L[i]):=by
    rw [Int.zero_add]
    refine atI_nat ?_
    rw [List.getElem?_map,List.getElem?_eq_getElem hiL]; rfl
   have et:L.take (i + 1) = L.take i ++ [L[i]]:=take_one (List.getElem?_eq_getElem hiL)
   refine ⟨_,rfl,_,_,rfl,rfl,ddv (by decide) (by decide),_,_,rfl,rfl,(show (4:Int) ≠ 0 by decide),rfl,_,rfl,?_⟩
   refine' by_key2 (C:=fun (l:Addr) (Hy:Hp)=>Same H3 Hy /\ ∃ rr,FrV Hy (.ref l) rr /\ Rm rr) (fun key=>?go) ?body
   case go =>
    refine ite2 (fun _=>?_) (fun _=>?_)
    ·refine ⟨_,_,rfl,rfl,⟨by decide,by decide,by decide⟩,_,_,rfl,rfl,sz (by simp),fun l4 hl4=>?_⟩
     have t4:Same H3 (upd H3 l4 (.tup [.int (((10:Int) ^ (12:Int).toNat) - 1),.int 1])):=Same.upd hl4
     have f4:FrV (upd H3 l4 (.tup [.int (((10:Int) ^ (12:Int).toNat) - 1),.int 1])) (.ref l4) ((((10:Int) ^ (12:Int).toNat) - 1:Int):Rat):=FrV.newOf (Rat.num_intCast _).symm (by rw [Rat.den_intCast]; rfl)
     have z4:Rm ((((10:Int) ^ (12:Int).toNat) - 1:Int):Rat):=by
      rw [<- divInt_one]
      exact Rm.amt (by rw [pow12]; decide) (by rw [pow12]; decide) (by decide) (by decide)
     generalize upd H3 l4 (.tup [.int (((10:Int) ^ (12:Int).toNat) - 1),.int 1]) = Hy at t4 f4 ⊢
     exact key l4 Hy ⟨t4,_,f4,z4⟩
    ·exact key l3 H3 ⟨Same.refl H3,_,f3,Rm.amt (by lia) (by lia) (by lia) (by lia)⟩
   case body =>
    rintro l4 H4 ⟨t4,rr,f4,z4⟩
    let w4:V:=.ref l4
    have s24:=s3.trans t4
    have h24:=s24 _ _ h2
    refine ⟨_,rfl,.inl ⟨rfl,_,SqL.of h24⟩,_,rfl,_,rfl,an,_,_,_,rfl,rfl,SqL.of (s24 _ _ hN2),hat,_,rfl,sz (by simp),fun l5 hl5=>?_⟩
    have t5:=Same.upd (o:=.tup [V.str "cask",.str L[i],w4]) hl5
    have h25:=t5 _ _ h24
    refine ⟨ph,_,_,rfl,rfl,h25,sz (by lia),?_⟩
    have tu:=tup_of (o:=.lst (xs ++ [.ref l5])) h25 (fun _ z=>nomatch z)
    refine ⟨_,_,_,xs ++ [.ref l5],cs ++ [.ck L[i] rr],rfl,(s2.trans (s24.trans t5)).updD hph,upd_same,?_,by rw [List.length_append,hl]; rfl,?_,fun p hp=>?_,fun z' r' hz'=>?_⟩
    ·refine Paired.snoc (Paired.mapP hP fun _ _ f=>(f.same (s24.trans t5)).tup tu) ?_
     exact ⟨l5,_,rfl,tu _ _ upd_same,(f4.same t5).tup tu⟩
    ·rw [et,<- eL]; unfold allN; rw [List.map_append]; rfl
    ·rcases List.mem_append.mp hp with e | e
     ·exact ic p e
     ·rw [List.mem_singleton.mp e]; rfl
    ·rcases List.mem_append.mp hz' with e | e
     ·exact ro z' r' e
     ·have e:=List.mem_singleton.mp e
      injection e with _ e2
      rw [e2]; exact z4
  rintro σ H2 ⟨v5,v6,v7,xs,cs,rfl,s2,h2,hP,hl,eL,ic,ro⟩
  have em':(2 + wy.fmod 3).toNat = m:=by lia
  have hl:xs.length = (2 + wy.fmod 3).toNat:=hl
  have eL:allN cs = L.take (2 + wy.fmod 3).toNat:=eL
  rw [em'] at hl eL
  have hN2:=s2 _ _ hN
  have qs:=fmod_lt (c:=wy.fdiv 3) (m:=2) (by decide)
  refine ⟨_,rfl,_,_,rfl,rfl,ddv (by decide) (by decide),_,_,rfl,rfl,(show (2:Int) ≠ 0 by decide),_,_,rfl,rfl,_,rfl,by lia,by lia,fun D hD=>?_⟩
  refine block_range (fun j σ' H'=>∃ (v:Option V) (ys:List V) (sk:List Plc),σ' = [v,some (.ref an),some (.int (2 + wy.fmod 3))] /\ Same H2 H' /\ H' D = some (.lst ys) /\ Paired (PlV H') ys sk /\ ys.length = j /\ allN sk = (L.drop m).take j /\ ∀ p ∈ sk,isC p = false) ⟨none,[],[],rfl,Same.upd hD,upd_same,.nil,rfl,rfl,(fun _ z=>nomatch z)⟩ ?_ ?_
  ·rintro j σ' H' hj ⟨v,ys,sk,rfl,s3,hd,hPs,hls,eS,is⟩
   have hj:j < 2:=by
    have hj:j < (1 + (wy.fdiv 3).fmod 2).toNat:=hj
    lia
   have hmj:m + j < L.length:=by lia
   have hat:atI (L.map V.str) (2 + wy.fmod 3 + (0 + (j:Int))) = some (.str L[m + j]):=by
    rw [em,Int.zero_add]
    have e:((m:Nat):Int) + (j:Int) = ((m + j:Nat):Int):=by lia
    rw [e]
    refine atI_nat ?_
    rw [List.getElem?_map,List.getElem?_eq_getElem hmj]; rfl
   have et:(L.drop m).take (j + 1) = (L.drop m).take j ++ [L[m + j]]:=by
    refine take_one ?_
    rw [List.getElem?_drop,List.getElem?_eq_getElem hmj]
   refine ⟨_,rfl,_,rfl,_,rfl,_,_,rfl,rfl,an,_,_,_,rfl,rfl,SqL.of (s3 _ _ hN2),hat,sz (by simp),fun l5 hl5=>?_⟩
   have t5:=Same.upd (o:=.tup [V.str "sink",.str L[m + j]]) hl5
   have hd5:=t5 _ _ hd
   have tu:=tup_of (o:=.lst (ys ++ [.ref l5])) hd5 (fun _ z=>nomatch z)
   refine ⟨_,hd5,sz (by lia),_,ys ++ [.ref l5],sk ++ [.sk L[m + j]],rfl,(s3.trans t5).updD hD,upd_same,?_,by rw [List.length_append,hls]; rfl,?_,fun p hp=>?_⟩
   ·refine Paired.snoc (Paired.mapP hPs fun _ _ f=>(f.same t5).tup tu) ?_
    exact ⟨l5,rfl,tu _ _ upd_same⟩
   ·rw [et,<- eS]; unfold allN; rw [List.map_append]; rfl
   ·rcases List.mem_append.mp hp with e | e
    ·exact is p e
    ·rw [List.mem_singleton.mp e]; rfl
  rintro σ' H3 ⟨v,ys,sk,rfl,s3,hd,hPs,hls,eS,is⟩
  have hls:ys.length = (1 + (wy.fdiv 3).fmod 2).toNat:=hls
  have eS:allN sk = (L.drop m).take (1 + (wy.fdiv 3).fmod 2).toNat:=eS
  have hk:=house_mk nd lay (j:=(1 + (wy.fdiv 3).fmod 2).toNat) m2 (by lia) (by lia) eL eS ic is (RoomsR.ok ro)
  have hz:=house52 nm0 (j:=(1 + (wy.fdiv 3).fmod 2).toNat) (by lia) (by lia) eL eS is ro
  have h23:=s3 _ _ h2
  have hP3:=house_same hP s3
  have s13:=s1.trans (s2.trans s3)
  refine ⟨_,rfl,_,_,rfl,rfl,ddv (by decide) (by decide),_,_,rfl,rfl,(show (2:Int) ≠ 0 by decide),rfl,_,rfl,?_⟩
  refine ite2 (fun _=>?_) (fun _=>?_)
  ·refine ⟨_,rfl,_,rfl,D,ph,_,_,rfl,rfl,hd,h23,sz (by lia),fun l hl=>?_⟩
   have t:=Same.upd (o:=.lst (ys ++ xs)) hl
   exact k l _ _ (sk ++ cs) (s13.free hl) (s13.trans t) upd_same (Paired.app (house_same hPs t) (house_same hP3 t)) hk.2.1 hz.2.1 hk.2.2.2 hz.2.2.1 hz.2.2.2
  ·refine ⟨_,rfl,_,rfl,ph,D,_,_,rfl,rfl,h23,hd,sz (by lia),fun l hl=>?_⟩
   have t:=Same.upd (o:=.lst (xs ++ ys)) hl
   exact k l _ _ (cs ++ sk) (s13.free hl) (s13.trans t) upd_same (Paired.app (house_same hP3 t) (house_same hPs t)) hk.1.1 hz.1.1 hk.1.2.2 hz.1.2.1 hz.1.2.2
noncomputable abbrev s__law_kind:Stmt:=top 61
theorem sc__law_kind:FnScope ["_law_e","_law_kinds"] ["_law_e"] (defScope s__law_kind):=scF
theorem ok__law_kind {ca:Ca} (D:DefAt K mg "_law_kind" s__law_kind) (T:Txt K mg w ca):FnAtH P w K mg base 1 "_law_kind" ["_law_e"] (spKind ca.NoDeed ca.NoChange):=by
 refine D.okH sc__law_kind (fun vs H Q E h=>?_) (fun _ _ _ _ _ _ us hl=>match us,hl with | [_],_=>rfl) (fun f cdv A outer s H vs Q E hr h=>?_)
 ·obtain ⟨a,C,z,rfl,ha,hz,k⟩:=h; rfl
 ·obtain ⟨a,C,z,rfl,ha,hz,k⟩:=h
  have nd:=sc__law_kind.nd
  refine ⟨_,(PSsw.h (wss_cons (ws_set (i:=1) nd rfl (Or.inl rfl) (wlst (wK (PEw.mk (pe_callB (call_isiE' (K:=K) rfl) (by rfl) T.z_isinstance bt_isinstance (pa_cons (pv 0) (pa_cons (pe_glob (v:=.ref _) (by rfl) T.c_NoDeed rfl) pa_nil)))) (wK (PEw.mk (pe_callB (call_isiE' (K:=K) rfl) (by rfl) T.z_isinstance bt_isinstance (pa_cons (pv 0) (pa_cons (pe_glob (v:=.ref _) (by rfl) T.c_NoChange rfl) pa_nil)))) (wK (PEw.mk (pe_callB (call_isiE' (K:=K) rfl) (by rfl) T.z_isinstance bt_isinstance (pa_cons (pv 0) (pa_cons (pe_glob (v:=.ref _) (by rfl) T.c_Tied rfl) pa_nil)))) (wK (PEw.mk (pe_callB (call_isiE' (K:=K) rfl) (by rfl) T.z_isinstance bt_isinstance (pa_cons (pv 0) (pa_cons (pe_glob (v:=.ref _) (by rfl) T.c_Lacking rfl) pa_nil)))) wnil))))))
   (wss_cons (ws_set (i:=1) nd rfl (Or.inl rfl) (w_op op_cat (PEw.mk (pv 1)) (wlst (wK (PEw.mk (pe_callB (call_isiE' (K:=K) rfl) (by rfl) T.z_isinstance bt_isinstance (pa_cons (pv 0) (pa_cons (pe_glob (v:=.ref _) (by rfl) T.c_Full rfl) pa_nil)))) (wK (PEw.mk (pe_callB (call_isiE' (K:=K) rfl) (by rfl) T.z_isinstance bt_isinstance (pa_cons (pv 0) (pa_cons (pe_glob (v:=.ref _) (by rfl) T.c_NoCask rfl) pa_nil)))) (wK (PEw.mk (pe_callB (call_isiE' (K:=K) rfl) (by rfl) T.z_isinstance bt_isinstance (pa_cons (pv 0) (pa_cons (pe_glob (v:=.ref _) (by rfl) T.c_NoPlace rfl) pa_nil)))) (wK (PEw.mk (pe_callB (call_isiE' (K:=K) rfl) (by rfl) T.z_isinstance bt_isinstance (pa_cons (pv 0) (pa_cons (pe_glob (v:=.ref _) (by rfl) T.c_NotSteady rfl) pa_nil)))) wnil)))))))
   (wss_cons (PSw.mk (ps_if (PW.pt (pw_or (pt_not (pt_val (pe_callB (call_isiE' (K:=K) rfl) (by rfl) T.z_isinstance bt_isinstance (pa_cons (pv 0) (pa_cons (pe_bltn (v:=.ty "ValueError") (by rfl) T.z_ValueError bt_ValueError rfl) pa_nil))))) (pw_or1 (pt_cmpR op_ne (pe_bm' (K:=K) rfl PySem.F.plainAttrs_list PySem.F.slot_list_count PySem.F.type_list_count mt_countF (pv 1) (pa_cons pe_bl pa_nil)) pe_int (nomark _))))) (pss_one (ps_ret pe_str)) pss_nil))
   (wss_one (ws_ret (PEw.mk (pixL (pe_lst (pa_cons pe_str (pa_cons pe_str (pa_cons pe_str (pa_cons pe_str (pa_cons pe_str (pa_cons pe_str (pa_cons pe_str (pa_cons pe_str pa_nil))))))))) (pe_bm' (K:=K) rfl PySem.F.plainAttrs_list PySem.F.slot_list_index PySem.F.type_list_index mt_indexF (pv 1) (pa_cons pe_bl pa_nil)))))))))),?_⟩
  rcases hz with ⟨rfl,rfl⟩ | ⟨rfl,rfl⟩
  ·refine ⟨_,rfl,a,ca.NoDeed,_,_,rfl,ha,T.x_NoDeed,.inr (.inl ⟨_,rfl,T.i_NoDeed_NoDeed⟩),_,rfl,a,ca.NoDeed,_,_,rfl,ha,T.x_NoDeed,.inr (.inl ⟨_,rfl,T.i_NoDeed_NoChange⟩),_,rfl,a,ca.NoDeed,_,_,rfl,ha,T.x_NoDeed,.inr (.inl ⟨_,rfl,T.i_NoDeed_Tied⟩),_,rfl,a,ca.NoDeed,_,_,rfl,ha,T.x_NoDeed,.inr (.inl ⟨_,rfl,T.i_NoDeed_Lacking⟩),sz (by simp),fun l1 hl1=>?_⟩
   have t1:=Same.upd (o:=.lst [.bl true,.bl false,.bl false,.bl false]) hl1
   refine ⟨_,rfl,_,rfl,a,ca.NoDeed,_,_,rfl,(t1 _ _ ha),T.x_NoDeed,.inr (.inl ⟨_,rfl,T.i_NoDeed_Full⟩),_,rfl,a,ca.NoDeed,_,_,rfl,(t1 _ _ ha),T.x_NoDeed,.inr (.inl ⟨_,rfl,T.i_NoDeed_NoCask⟩),_,rfl,a,ca.NoDeed,_,_,rfl,(t1 _ _ ha),T.x_NoDeed,.inr (.inl ⟨_,rfl,T.i_NoDeed_NoPlace⟩),_,rfl,a,ca.NoDeed,_,_,rfl,(t1 _ _ ha),T.x_NoDeed,.inr (.inl ⟨_,rfl,T.i_NoDeed_NotSteady⟩),sz (by simp),fun l2 hl2=>?_⟩
   have t2:=Same.upd (o:=.lst [.bl false,.bl false,.bl false,.bl false]) hl2
   refine ⟨l1,l2,[.bl true,.bl false,.bl false,.bl false],[.bl false,.bl false,.bl false,.bl false],rfl,rfl,t2 _ _ upd_same,upd_same,sz (by simp),fun l3 hl3=>?_⟩
   have t3:=Same.upd (o:=.lst ([.bl true,.bl false,.bl false,.bl false] ++ [.bl false,.bl false,.bl false,.bl false])) hl3
   have s3:=t1.trans (t2.trans t3)
   have hl3':upd (upd (upd H l1 (.lst [.bl true,.bl false,.bl false,.bl false])) l2 (.lst [.bl false,.bl false,.bl false,.bl false])) l3 (.lst ([.bl true,.bl false,.bl false,.bl false] ++ [.bl false,.bl false,.bl false,.bl false])) l3 = some (.lst [.bl true,.bl false,.bl false,.bl false,.bl false,.bl false,.bl false,.bl false]):=upd_same
   refine ⟨_,rfl,a,ca.NoDeed,_,_,rfl,s3 _ _ ha,T.x_NoDeed,.inl ⟨_,rfl,T.v_NoDeed⟩,_,rfl,?_⟩
   refine iteF ?_
   refine ⟨_,rfl,.inl ⟨rfl,_,SqL.of hl3'⟩,l3,_,.bl true,rfl,rfl,hl3',rfl,rfl,rfl,_,rfl,?_⟩
   refine iteF ?_
   refine ⟨sz (by simp),fun l4 hl4=>?_⟩
   have t4:=Same.upd (o:=.lst [.str (Str.ofString "nodeed"),.str (Str.ofString "nochange"),.str (Str.ofString "tied"),.str (Str.ofString "lacking"),.str (Str.ofString "full"),.str (Str.ofString "other"),.str (Str.ofString "other"),.str (Str.ofString "other")]) hl4
   refine ⟨_,rfl,.inl ⟨rfl,_,SqL.of (t4 _ _ hl3')⟩,l3,_,.bl true,0,rfl,rfl,t4 _ _ hl3',rfl,rfl,⟨_,rfl,rfl⟩,?_,l4,_,_,_,rfl,rfl,SqL.of upd_same,rfl,k _ (s3.trans t4)⟩
   intro mm hm y hy
   lia
  ·refine ⟨_,rfl,a,ca.NoChange,_,_,rfl,ha,T.x_NoChange,.inr (.inl ⟨_,rfl,T.i_NoChange_NoDeed⟩),_,rfl,a,ca.NoChange,_,_,rfl,ha,T.x_NoChange,.inr (.inl ⟨_,rfl,T.i_NoChange_NoChange⟩),_,rfl,a,ca.NoChange,_,_,rfl,ha,T.x_NoChange,.inr (.inl ⟨_,rfl,T.i_NoChange_Tied⟩),_,rfl,a,ca.NoChange,_,_,rfl,ha,T.x_NoChange,.inr (.inl ⟨_,rfl,T.i_NoChange_Lacking⟩),sz (by simp),fun l1 hl1=>?_⟩
   have t1:=Same.upd (o:=.lst [.bl false,.bl true,.bl false,.bl false]) hl1
   refine ⟨_,rfl,_,rfl,a,ca.NoChange,_,_,rfl,(t1 _ _ ha),T.x_NoChange,.inr (.inl ⟨_,rfl,T.i_NoChange_Full⟩),_,rfl,a,ca.NoChange,_,_,rfl,(t1 _ _ ha),T.x_NoChange,.inr (.inl ⟨_,rfl,T.i_NoChange_NoCask⟩),_,rfl,a,ca.NoChange,_,_,rfl,(t1 _ _ ha),T.x_NoChange,.inr (.inl ⟨_,rfl,T.i_NoChange_NoPlace⟩),_,rfl,a,ca.NoChange,_,_,rfl,(t1 _ _ ha),T.x_NoChange,.inr (.inl ⟨_,rfl,T.i_NoChange_NotSteady⟩),sz (by simp),fun l2 hl2=>?_⟩
   have t2:=Same.upd (o:=.lst [.bl false,.bl false,.bl false,.bl false]) hl2
   refine ⟨l1,l2,[.bl false,.bl true,.bl false,.bl false],[.bl false,.bl false,.bl false,.bl false],rfl,rfl,t2 _ _ upd_same,upd_same,sz (by simp),fun l3 hl3=>?_⟩
   have t3:=Same.upd (o:=.lst ([.bl false,.bl true,.bl false,.bl false] ++ [.bl false,.bl false,.bl false,.bl false])) hl3
   have s3:=t1.trans (t2.trans t3)
   have hl3':upd (upd (upd H l1 (.lst [.bl false,.bl true,.bl false,.bl false])) l2 (.lst [.bl false,.bl false,.bl false,.bl false])) l3 (.lst ([.bl false,.bl true,.bl false,.bl false] ++ [.bl false,.bl false,.bl false,.bl false])) l3 = some (.lst [.bl false,.bl true,.bl false,.bl false,.bl false,.bl false,.bl false,.bl false]):=upd_same
   refine ⟨_,rfl,a,ca.NoChange,_,_,rfl,s3 _ _ ha,T.x_NoChange,.inl ⟨_,rfl,T.v_NoChange⟩,_,rfl,?_⟩
   refine iteF ?_
   refine ⟨_,rfl,.inl ⟨rfl,_,SqL.of hl3'⟩,l3,_,.bl true,rfl,rfl,hl3',rfl,rfl,rfl,_,rfl,?_⟩
   refine iteF ?_
   refine ⟨sz (by simp),fun l4 hl4=>?_⟩
   have t4:=Same.upd (o:=.lst [.str (Str.ofString "nodeed"),.str (Str.ofString "nochange"),.str (Str.ofString "tied"),.str (Str.ofString "lacking"),.str (Str.ofString "full"),.str (Str.ofString "other"),.str (Str.ofString "other"),.str (Str.ofString "other")]) hl4
   refine ⟨_,rfl,.inl ⟨rfl,_,SqL.of (t4 _ _ hl3')⟩,l3,_,.bl true,1,rfl,rfl,t4 _ _ hl3',rfl,rfl,⟨_,rfl,rfl⟩,?_,l4,_,_,_,rfl,rfl,SqL.of upd_same,rfl,k _ (s3.trans t4)⟩
   intro mm hm y hy
   have:mm = 0:=by lia
   subst this
   cases hy
   rfl
noncomputable abbrev s_Book_keep:Stmt:=clsFn (top 50) 3
theorem sc_Book_keep:FnScope ["self"] ["self"] (defScope s_Book_keep):=scF
theorem ok_Book_keep {ca:Ca} (D:MethDef K ca.Book "keep" "Book.keep" s_Book_keep) (T:Txt K mg w ca):MethAt P w K mg base CX0 1 ca.Book "keep" ["self"] (spKeep ca.Book):=by
 refine D.ok T.k_Book sc_Book_keep (fun vs H Q E h=>?_) (fun _ _ _ _ _ _ us hl=>match us,hl with | [_],_=>rfl) (fun f cdv A outer s H vs Q E hr h=>?_)
 ·obtain ⟨bk,dx,pt,pl,rw,tk,wn,now,past,rfl,hb,hp,hl,k⟩:=h; rfl
 ·obtain ⟨bk,dx,pt,pl,rw,tk,wn,now,past,rfl,hb,hp,hl,k⟩:=h
  have nd:=sc_Book_keep.nd
  refine ⟨_,(pss_one (ps_expr (pe_bm PySem.F.plainAttrs_list PySem.F.slot_list_append PySem.F.type_list_append mt_append (pe_fld' (K:=K) rfl (pv 0)) (pa_cons (pe_tup (pa_cons (pe_fld' (K:=K) rfl (pv 0)) (pa_cons (pe_fld' (K:=K) rfl (pv 0)) (pa_cons (pe_fld' (K:=K) rfl (pv 0)) (pa_cons (pe_fld' (K:=K) rfl (pv 0)) pa_nil))))) pa_nil)))),?_⟩
  refine ⟨_,rfl,bk,_,dx,_,_,rfl,hb,T.k_Book,T.n_Book_past,b_pt,.inl ⟨rfl,_,SqL.of hp⟩,_,rfl,bk,_,dx,_,_,rfl,hb,T.k_Book,T.n_Book_row,b_rw,_,rfl,bk,_,dx,_,_,rfl,hb,T.k_Book,T.n_Book_taken,b_tk,_,rfl,bk,_,dx,_,_,rfl,hb,T.k_Book,T.n_Book_wines,b_wn,_,rfl,bk,_,dx,_,_,rfl,hb,T.k_Book,T.n_Book_now,b_now,sz (by simp),fun t ht=>?_⟩
  exact ⟨pt,_,_,rfl,rfl,(Same.upd ht) _ _ hp,sz (by lia),k t ht⟩
noncomputable abbrev s_Book_put:Stmt:=clsFn (top 50) 1
theorem sc_Book_put:FnScope ["self","deeds","kinds","deed","walked","e"] ["self","deeds"] (defScope s_Book_put):=scF
theorem ok_Book_put {ca:Ca} (D:MethDef K ca.Book "put" "Book.put" s_Book_put) (T:Txt K mg w ca) (G_kinds_of:FnAt P w K mg base CX0 1 "kinds_of" ["house"] (spK8 K)) (G_check_deed:FnAt P w K mg base (CXE P w) 5 "check_deed" ["thing","kinds"] (spCkd ca.NoDeed)) (G_steps_of:FnAt P w K mg base CX0 6 "steps_of" ["house","totals","year","deeds"] (spStepsOf K)) (G_totals_of:FnAt P w K mg base CX0 5 "totals_of" ["standing"] (spTots)) (G_Book_keep:MethAt P w K mg base CX0 1 ca.Book "keep" ["self"] (spKeep ca.Book)) (G_gone:FnAt P w K mg base CX0 5 "gone" ["standing","steps"] (spGone K)):MethAt P w K mg base (CXE P w) 7 ca.Book "put" ["self","deeds"] (spPut K ca.Book ca.NoDeed):=by
 refine D.okE T.k_Book sc_Book_put (fun vs H Q E h=>?_) (fun _ _ _ _ _ _ us hl=>match us,hl with | [_,_],_=>rfl) (fun f cdv A outer s H vs Q E hr h=>?_)
 ·obtain ⟨bk,dx,pl,rw,tk,wn,pt,dl,now,xs,ys,ps,rfl,hb,hpl,hP,hH,hdl,hab⟩:=h; rfl
 ·obtain ⟨bk,dx,pl,rw,tk,wn,pt,dl,now,xs,ys,ps,rfl,hb,hpl,hP,hH,hdl,hab⟩:=h
  have nd:=sc_Book_put.nd
  refine ⟨_,(pss_cons (ps_set (i:=2) nd rfl (Or.inl rfl) (pfn G_kinds_of hr (pa_cons (pe_fld' (K:=K) rfl (pv 0)) pa_nil)))
   (pss_cons (ps_for PassesOwn.leaving rfl (pi_list' (K:=K) rfl (pv 1)) (pg_name (i:=3) nd rfl (Or.inl rfl)) (pss_one (ps_expr (pe_fn G_check_deed hr (by rfl) passE (pa_cons (pv 3) (pa_cons (pv 2) pa_nil))))))
   (pss_cons (ps_tryS (i:=4) rfl rfl nd rfl (Or.inl rfl) (pex_of (pfn G_steps_of hr (pa_cons (pe_fld' (K:=K) rfl (pv 0)) (pa_cons (pfn G_totals_of hr (pa_cons (pe_fld' (K:=K) rfl (pv 0)) pa_nil)) (pa_cons (pe_fld' (K:=K) rfl (pv 0)) (pa_cons (pv 1) pa_nil)))))) hd_never)
   (pss_cons (ps_expr (pmeth0 G_Book_keep hr pass0 (pv 0)))
   (pss_cons (ps_fld' (K:=K) rfl (pv 0) (pe_op op_cat (pe_fld' (K:=K) rfl (pv 0)) (pe_callTy (call_list_of' (K:=K) rfl) (by rfl) T.z_list bt_list (pa_cons (pv 1) pa_nil))))
   (pss_cons (ps_fld' (K:=K) rfl (pv 0) (pe_op op_cat (pe_fld' (K:=K) rfl (pv 0)) (pixT (pv 4) pe_int)))
   (pss_cons (ps_fld' (K:=K) rfl (pv 0) (pfn G_gone hr (pa_cons (pe_fld' (K:=K) rfl (pv 0)) (pa_cons (pixT (pv 4) pe_int) pa_nil))))
   (pss_one (ps_fldadd (K:=K) rfl (pv 0) (pe_bm' (K:=K) rfl PySem.F.plainAttrs_list PySem.F.slot_list_count PySem.F.type_list_count (mt_countY (K:=K) rfl hr) (pv 1) (pa_cons (pe_tup (pa_cons pe_str pa_nil)) pa_nil))))))))))),?_⟩
  have pcs:=house_pc hP
  have l100:(hpP ps).length <= 100:=by unfold hpP; rw [List.length_map]; have:=hH.len; lia
  refine ⟨_,rfl,bk,_,dx,_,_,rfl,hb,T.k_Book,T.n_Book_places,b_pl,pl,xs,hpP ps,rfl,hpl,pcs,l100,fun kk kv H1 s1 hkf hk1 hkl hkd=>?_⟩
  refine ⟨_,rfl,dl,rfl,⟨_,SqL.of (s1 _ _ hdl)⟩,?_⟩
  rcases hab with ⟨j,v,hv,hbad,hgood,kE⟩ | ⟨hgood,rfl,hro,np1,np2,np3,np4,row,tv,past,kvw,x,k0,m,y,hrw,htk,hwn,hpt,lr,lt,lp,ws,hx,hkm,hmy,hds,k⟩
  ·refine for_list (xs:=ys) (fun i σ H2=>∃ v3,σ = [some (.ref bk),some (.ref dl),some (.ref kk),v3,none,none] /\ Same H H2 /\ H2 kk = some (.dK kv) /\ i <= j) ⟨none,rfl,s1,hk1,Nat.zero_le _⟩ ?_ ?_ ?_
   ·rintro i σ H2 hi ⟨v3,rfl,s2,_⟩
    exact SqL.of (s2 _ _ hdl)
   ·rintro i u σ H2 hu ⟨v3,rfl,s2,hk2,hij⟩
    by_cases e:i = j
    ·subst e
     rw [hv] at hu
     cases hu
     obtain ⟨b,hf,h2⟩:=hbad.same s2
     refine ⟨_,rfl,_,rfl,v,kk,b,rfl,hf,fun _ H3 s3=>kE H3 (s2.trans s3),fun hb1=>?_⟩
     rcases h2 with ⟨h2,_⟩ | ⟨_,qs,h3,h4,h5⟩
     ·rw [h2] at hb1; cases hb1
     ·refine ⟨qs,kv,_,h3,h4,hk2,hkd,fun hn=>?_,fun _ _ H3 s3=>kE H3 (s2.trans s3)⟩
      rw [hn] at h5; cases h5
    ·obtain ⟨b,hf,h2⟩:=(hgood i u (by lia) hu).same s2
     rcases h2 with ⟨_,h2⟩ | ⟨h2,qs,h3,h4,h5⟩
     ·cases h2
     ·subst h2
      refine ⟨_,rfl,_,rfl,u,kk,true,rfl,hf,(fun z=>nomatch z),fun _=>⟨qs,kv,_,h3,h4,hk2,hkd,fun _ H3 s3=>⟨_,rfl,s2.trans s3,s3 _ _ hk2,by lia⟩,fun q hq=>?_⟩⟩
      rw [hq] at h5; cases h5
   ·rintro σ H2 ⟨v3,rfl,s2,hk2,hij⟩
    have:=(List.getElem?_eq_some_iff.mp hv).1
    lia
  refine for_list (xs:=ys) (fun i σ H2=>∃ v3,σ = [some (.ref bk),some (.ref dl),some (.ref kk),v3,none,none] /\ Same H H2 /\ H2 kk = some (.dK kv)) ⟨none,rfl,s1,hk1⟩ ?_ ?_ ?_
  ·rintro i σ H2 hi ⟨v3,rfl,s2,_⟩
   exact SqL.of (s2 _ _ hdl)
  ·rintro i u σ H2 hu ⟨v3,rfl,s2,hk2⟩
   obtain ⟨b,hf,h2⟩:=(hgood u (List.mem_of_getElem? hu)).same s2
   rcases h2 with ⟨_,h2⟩ | ⟨h2,qs,h3,h4,h5⟩
   ·cases h2
   ·subst h2
    refine ⟨_,rfl,_,rfl,u,kk,true,rfl,hf,(fun z=>nomatch z),fun _=>⟨qs,kv,_,h3,h4,hk2,hkd,fun _ H3 s3=>⟨_,rfl,s2.trans s3,s3 _ _ hk2⟩,fun q hq=>?_⟩⟩
    rw [hq] at h5; cases h5
  rintro σ H2 ⟨v3,rfl,s2,_⟩
  have hb2:=s2 _ _ hb
  have hwn2:=s2 _ _ hwn
  refine ⟨_,rfl,bk,_,dx,_,_,rfl,hb2,T.k_Book,T.n_Book_places,b_pl,_,rfl,bk,_,dx,_,_,rfl,hb2,T.k_Book,T.n_Book_wines,b_wn,wn,kvw,allN ps,atK x k0,rfl,hwn2,ws.kp s2.kpd,hH.nd,(by unfold allN; rw [List.length_map]; exact hH.len),atK_len (by lia),fun pv H3 kvt hpv s3 hpv3 row3=>?_⟩
  have s23:=s2.trans s3
  have hb3:=s23 _ _ hb
  refine ⟨_,rfl,bk,_,dx,_,_,rfl,hb3,T.k_Book,T.n_Book_now,b_now,_,rfl,pl,pv,3,dl,xs,ps,kvt,ys,_,tenK (atK x k0),rfl,SqL.of (s23 _ _ hpl),house_same hP s23,hH,hro.ok,hpv3,row3,SqL.of (s23 _ _ hdl),Paired.mapP hds (fun _ _ f=>f.same s23),goes_k hH hro hx hkm,inT_k hro x (by lia),(by rw [List.length_append,List.length_replicate,List.length_replicate]; exact hmy),fun a p q H4 ws4 kv4 s4 ha4 hpN hqN hp4 hst hq4 hrow4=>?_⟩
  rw [run_all] at hst
  have s24:=s23.trans s4
  have hb4:=s24 _ _ hb
  have hpt4:=s24 _ _ hpt
  refine ⟨_,rfl,bk,dx,_,rfl,hb4,m_keep,bk,dx,pt,_,_,_,_,_,past,rfl,hb4,hpt4,by lia,fun t ht=>?_⟩
  have tt:=Same.upd (o:=.tup [.ref rw,.ref tk,.ref wn,.int 3]) ht
  have kp5:∀ b ob,H4 b = some ob->b ≠ pt->upd (upd H4 t (.tup [.ref rw,.ref tk,.ref wn,.int 3])) pt (.lst (past ++ [.ref t])) b = some ob:=fun b ob e n=>by rw [upd_ne n]; exact tt _ _ e
  have hb5:=kp5 _ _ hb4 (ne_of hb4 hpt4 (by intro z; cases z))
  have hdl5:=kp5 _ _ (s24 _ _ hdl) (Ne.symm np4)
  have hrw5:=kp5 _ _ (s24 _ _ hrw) (Ne.symm np2)
  have htk5:=kp5 _ _ (s24 _ _ htk) (Ne.symm np3)
  have hwn5:=kp5 _ _ (s24 _ _ hwn) (ne_of (s24 _ _ hwn) hpt4 (by intro z; cases z))
  have npp:p ≠ pt:=(ne_of_none (s23 _ _ hpt) hpN).symm
  have hp5:=kp5 _ _ hp4 npp
  have ha5:=kp5 _ _ ha4 (ne_of ha4 hpt4 (by intro z; cases z))
  have kd5:KpD H4 (upd (upd H4 t (.tup [.ref rw,.ref tk,.ref wn,.int 3])) pt (.lst (past ++ [.ref t]))):=fun b ob e n=>kp5 b ob e (fun z=>by subst z; rw [hpt4] at e; cases e; cases n)
  have ntp:t ≠ pt:=(ne_of_none hpt4 ht).symm
  have ht5:upd (upd H4 t (.tup [.ref rw,.ref tk,.ref wn,.int 3])) pt (.lst (past ++ [.ref t])) t = some (.tup [.ref rw,.ref tk,.ref wn,.int 3]):=by rw [upd_ne ntp]; exact upd_same
  have hpt5:upd (upd H4 t (.tup [.ref rw,.ref tk,.ref wn,.int 3])) pt (.lst (past ++ [.ref t])) pt = some (.lst (past ++ [.ref t])):=upd_same
  generalize upd (upd H4 t (.tup [.ref rw,.ref tk,.ref wn,.int 3])) pt (.lst (past ++ [.ref t])) = H5 at *
  have ly:ys.length <= 12:=by rw [hds.length,List.length_append,List.length_replicate,List.length_replicate]; exact hmy
  refine ⟨_,rfl,bk,_,dx,_,_,rfl,hb5,T.k_Book,T.n_Book_row,b_rw,_,rfl,dl,ys,rfl,.inl (SqL.of hdl5),fun l2 hl2=>?_⟩
  have t6:=Same.upd (o:=.lst ys) hl2
  refine ⟨rw,l2,row,ys,rfl,rfl,t6 _ _ hrw5,upd_same,sz (by lia),fun l3 hl3=>?_⟩
  have s57:=t6.trans (Same.upd (o:=.lst (row ++ ys)) hl3)
  have hb7:=s57 _ _ hb5
  refine ⟨_,rfl,bk,_,dx,_,rfl,hb7,T.k_Book,T.n_Book_row,(by show 7 < 1000; decide),?_⟩
  have k7:=Kb.up bk (upd (upd H5 l2 (.lst ys)) l3 (.lst (row ++ ys))) (.ins ca.Book dx (putF (Str.ofString "row") (.ref l3) (bfs (.ref pl) (.ref rw) (.ref tk) (.ref wn) 3 (.ref pt))))
  have k8:=s57.kb (bk:=bk) |>.trans k7
  have np3':pt ≠ l3:=fun z=>by subst z; rw [t6 _ _ hpt5] at hl3; cases hl3
  have hl38:=kbL hb7 k7 (upd_same (H:=upd H5 l2 (.lst ys)) (a:=l3) (o:=.lst (row ++ ys)))
  have hb8:upd (upd (upd H5 l2 (.lst ys)) l3 (.lst (row ++ ys))) bk (.ins ca.Book dx (putF (Str.ofString "row") (.ref l3) (bfs (.ref pl) (.ref rw) (.ref tk) (.ref wn) 3 (.ref pt)))) bk = some (.ins ca.Book dx (bfs (.ref pl) (.ref l3) (.ref tk) (.ref wn) 3 (.ref pt))):=upd_same
  generalize upd (upd (upd H5 l2 (.lst ys)) l3 (.lst (row ++ ys))) bk (.ins ca.Book dx (putF (Str.ofString "row") (.ref l3) (bfs (.ref pl) (.ref rw) (.ref tk) (.ref wn) 3 (.ref pt)))) = H8 at *
  have ha8:=kbT hb5 k8 _ _ ha5
  have htk8:=kbL hb5 k8 htk5
  have hp8:=kbL hb5 k8 hp5
  have lw4:ws4.length = m:=by rw [hst.length]; exact List.length_replicate
  refine ⟨_,rfl,bk,_,dx,_,_,rfl,hb8,T.k_Book,T.n_Book_taken,b_tk,_,rfl,a,_,0,_,rfl,rfl,SqT.of ha8,rfl,tk,p,tv,ws4,rfl,rfl,htk8,hp8,sz (by lia),fun l4 hl4=>?_⟩
  have t9:=Same.upd (o:=.lst (tv ++ ws4)) hl4
  have hb9:=t9 _ _ hb8
  refine ⟨_,rfl,bk,_,dx,_,rfl,hb9,T.k_Book,T.n_Book_taken,(by show 7 < 1000; decide),?_⟩
  have k9:=Kb.up bk (upd H8 l4 (.lst (tv ++ ws4))) (.ins ca.Book dx (putF (Str.ofString "taken") (.ref l4) (bfs (.ref pl) (.ref l3) (.ref tk) (.ref wn) 3 (.ref pt))))
  have k10:=t9.kb (bk:=bk) |>.trans k9
  have hpt8:=kbL hb5 k8 hpt5
  have np4':pt ≠ l4:=fun z=>by subst z; rw [hpt8] at hl4; cases hl4
  have hl410:=kbL hb9 k9 (upd_same (H:=H8) (a:=l4) (o:=.lst (tv ++ ws4)))
  have hb10:upd (upd H8 l4 (.lst (tv ++ ws4))) bk (.ins ca.Book dx (putF (Str.ofString "taken") (.ref l4) (bfs (.ref pl) (.ref l3) (.ref tk) (.ref wn) 3 (.ref pt)))) bk = some (.ins ca.Book dx (bfs (.ref pl) (.ref l3) (.ref l4) (.ref wn) 3 (.ref pt))):=upd_same
  generalize upd (upd H8 l4 (.lst (tv ++ ws4))) bk (.ins ca.Book dx (putF (Str.ofString "taken") (.ref l4) (bfs (.ref pl) (.ref l3) (.ref tk) (.ref wn) 3 (.ref pt)))) = H10 at *
  have k510:=k8.trans k10
  have ha10:=kbT hb5 k510 _ _ ha5
  have w4:WS H4 kvw (allN ps) (atK x k0):=ws.kp s24.kpd
  have st10:∀ w ∈ ws4,StV H10 w (.br (Str.ofString "grape") 3 x (1 / 10000)):=fun w hw=>((all_br hst w hw).tup fun b zs e=>kd5 b _ e rfl).tup (kbT hb5 k510)
  refine ⟨_,rfl,bk,_,dx,_,_,rfl,hb10,T.k_Book,T.n_Book_wines,b_wn,_,rfl,a,_,0,_,rfl,rfl,SqT.of ha10,rfl,wn,p,kvw,allN ps,atK x k0,x,ws4,rfl,kbK hb5 k510 hwn5,(w4.kp kd5).kp (kbD hb5 k510),hH.nd,(by unfold allN; rw [List.length_map]; exact hH.len),ck_sub hx,(by have:=atK_len (x:=x) (show k0 <= 20 by lia) x; lia),SqL.of (kbL hb5 k510 hp5),st10,fun wn2 H11 kv2 hwN s11 hw11 w11=>?_⟩
  rw [lw4,atK_add] at w11
  have hb11:=s11 _ _ hb10
  refine ⟨_,rfl,bk,_,dx,_,rfl,hb11,T.k_Book,T.n_Book_wines,(by show 7 < 1000; decide),?_⟩
  have k11:=Kb.up bk H11 (.ins ca.Book dx (putF (Str.ofString "wines") (.ref wn2) (bfs (.ref pl) (.ref l3) (.ref l4) (.ref wn) 3 (.ref pt))))
  have k12:=s11.kb (bk:=bk) |>.trans k11
  have hw12:=kbK hb11 k11 hw11
  have w12:=w11.kp (kbD hb11 k11)
  have hb12:upd H11 bk (.ins ca.Book dx (putF (Str.ofString "wines") (.ref wn2) (bfs (.ref pl) (.ref l3) (.ref l4) (.ref wn) 3 (.ref pt)))) bk = some (.ins ca.Book dx (bfs (.ref pl) (.ref l3) (.ref l4) (.ref wn2) 3 (.ref pt))):=upd_same
  generalize upd H11 bk (.ins ca.Book dx (putF (Str.ofString "wines") (.ref wn2) (bfs (.ref pl) (.ref l3) (.ref l4) (.ref wn) 3 (.ref pt)))) = H12 at *
  have k512:=k510.trans k12
  have hdl12:=kbL hb5 k512 hdl5
  have hl312:=kbL hb8 (k10.trans k12) hl38
  have hl412:=kbL hb10 k12 hl410
  have hpt12:=kbL hb5 k512 hpt5
  have ht12:=kbT hb5 k512 _ _ ht5
  refine ⟨_,rfl,bk,_,dx,_,_,rfl,hb12,T.k_Book,T.n_Book_now,b_now,_,rfl,.inl ⟨rfl,_,SqL.of hdl12⟩,sz (by simp),fun z hz=>?_⟩
  have tz:=Same.upd (o:=.tup [.str (Str.ofString "year")]) hz
  have hlx:Lay x:=hH.lay x (ck_sub hx)
  have ds13:Paired (DdV (upd H12 z (.tup [.str (Str.ofString "year")]))) ys (List.replicate m (brD x) ++ List.replicate y .yr):=Paired.mapP hds fun _ _ f=>(((f.same s24).tup fun b zs e=>kd5 b _ e rfl).tup (kbT hb5 k512)).same tz
  refine ⟨dl,z,ys,rfl,rfl,tz _ _ hdl12,repT (SqT.of upd_same) (repsC (repS (by decide +kernel)) reps0),fun u hu=>?_,?_⟩
  ·obtain ⟨i,hi,e⟩:=List.getElem_of_mem hu
   obtain ⟨d,hd,hv⟩:=paired_get ds13 (List.getElem?_eq_getElem hi)
   rw [e] at hv
   obtain ⟨c,dd,h1,h2,h3,h4,_⟩:=dd_rep (K:=K) hlx hv (mem_brs (List.mem_of_getElem? hd))
   exact ⟨c,dd,h1,h2,h3,h4⟩
  rw [count_yr (K:=K) hlx ds13 (fun d hd=>mem_brs hd),count_ds]
  have hb13:=tz _ _ hb12
  refine ⟨_,_,rfl,rfl,dx,_,hb13,(by show 7 < 1000; decide),?_⟩
  have k13:=Kb.up bk (upd H12 z (.tup [.str (Str.ofString "year")])) (.ins ca.Book dx (bfs (.ref pl) (.ref l3) (.ref l4) (.ref wn2) (3 + (y:Int)) (.ref pt)))
  refine k l3 l4 wn2 t (tv ++ ws4) kv2 _ (fun b ob e n1 n2=>?_) upd_same (kbL hb13 k13 (tz _ _ hl312)) (kbL hb13 k13 (tz _ _ hl412)) (by rw [List.length_append,lw4]) (kbK hb13 k13 (tz _ _ hw12)) ((w12.kp tz.kpd).kp (kbD hb13 k13)) (kbT hb13 k13 _ _ (tz _ _ ht12)) (kbL hb13 k13 (tz _ _ hpt12)) np3' np4'
  exact k13 _ _ (tz _ _ (k512 _ _ (kp5 _ _ (s24 _ _ e) n2) n1)) n1
noncomputable abbrev s__law_put_in:Stmt:=top 63
theorem sc__law_put_in:FnScope ["_law_book","_law_deeds","_law_found","_law_e"] ["_law_book","_law_deeds"] (defScope s__law_put_in):=scF
theorem ok__law_put_in {ca:Ca} (D:DefAt K mg "_law_put_in" s__law_put_in) (T:Txt K mg w ca) (G_Book_put:MethAt P w K mg base (CXE P w) 7 ca.Book "put" ["self","deeds"] (spPut K ca.Book ca.NoDeed)) (G__law_kind:FnAtH P w K mg base 1 "_law_kind" ["_law_e"] (spKind ca.NoDeed ca.NoChange)):FnAt P w K mg base CX0 8 "_law_put_in" ["_law_book","_law_deeds"] (spPutIn K ca.Book):=by
 refine D.ok sc__law_put_in (fun vs H Q E h=>?_) (fun _ _ _ _ _ _ us hl=>match us,hl with | [_,_],_=>rfl) (fun f cdv A outer s H vs Q E hr h=>?_)
 ·obtain ⟨bk,dx,pl,rw,tk,wn,pt,dl,now,xs,ys,ps,rfl,hb,hpl,hP,hH,hdl,hab⟩:=h; rfl
 ·obtain ⟨bk,dx,pl,rw,tk,wn,pt,dl,now,xs,ys,ps,rfl,hb,hpl,hP,hH,hdl,hab⟩:=h
  have nd:=sc__law_put_in.nd
  refine ⟨_,(pss_cons (ps_tryS (i:=2) rfl rfl nd rfl (Or.inl rfl) (pexm G_Book_put hr (pv 0) (pa_cons (pv 1) pa_nil)) (hd_as rfl nd (by rfl) T.c_Lacking (i:=3) rfl rfl (fun _=>pss_never) (hd_as rfl nd (by rfl) T.c_Full (i:=3) rfl rfl (fun _=>pss_never) (hd_as rfl nd (by rfl) T.c_TierError (i:=3) rfl rfl (fun _=>(pss_one (ps_ret (pe_tup (pa_cons (pfnH G__law_kind (hr.h.mark _) (pa_cons (pv 3) pa_nil)) (pa_cons (pe_un un_neg pe_int) pa_nil)))))) hd_none))))
   (pss_cons (ps_if (pt_cmpR op_isN (pv 2) pe_non (nomark _)) (pss_one (ps_ret (pe_tup (pa_cons pe_str (pa_cons (pe_un un_neg pe_int) pa_nil))))) pss_nil)
   (pss_one (ps_ret (pe_tup (pa_cons pe_str (pa_cons (pe_un un_neg pe_int) pa_nil))))))),?_⟩
  refine ⟨_,rfl,bk,dx,_,rfl,hb,m_put,_,rfl,bk,dx,pl,rw,tk,wn,pt,dl,now,xs,ys,ps,rfl,hb,hpl,hP,hH,hdl,?_⟩
  rcases hab with ⟨j,v,hv,hbad,hgood,kE⟩ | ⟨h1,h2,h3,h4,h5,h6,h7,row,tv,past,kv,x,k0,m,y,g1,g2,g3,g4,g5,g6,g7,g8,g9,g10,g11,g12,k⟩
  ·refine .inl ⟨j,v,hv,hbad,hgood,fun H1 s1=>?_⟩
   have kE:=kE H1 s1
   refine ⟨false,T.m_NoDeed_Lacking,false,T.m_NoDeed_Full,true,T.m_NoDeed_TierError,fun a ha=>?_⟩
   refine ⟨_,rfl,a,ca.NoDeed,_,rfl,upd_same,.inl ⟨rfl,rfl⟩,fun H2 s2=>⟨_,rfl,sz (by simp),fun p hp=>?_⟩⟩
   exact kE p _ ((Same.upd ha).trans (s2.trans (Same.upd hp))) upd_same
  ·refine .inr ⟨h1,h2,h3,h4,h5,h6,h7,row,tv,past,kv,x,k0,m,y,g1,g2,g3,g4,g5,g6,g7,g8,g9,g10,g11,g12,fun rw' tk' wn' t tv' kv' H' a1 a2 a3 a4 a5 a6 a7 a8 a9 a10 a11=>?_⟩
   refine ⟨_,rfl,rfl,_,rfl,?_⟩
   refine dec_true rfl ?_
   exact ⟨_,rfl,sz (by simp),fun p hp=>k rw' tk' wn' t tv' kv' H' a1 a2 a3 a4 a5 a6 a7 a8 a9 a10 a11 p hp⟩
noncomputable abbrev s_Book_strike:Stmt:=clsFn (top 50) 2
theorem sc_Book_strike:FnScope ["self","k","row","nothing","walked","e"] ["self","k"] (defScope s_Book_strike):=scF
theorem ok_Book_strike {ca:Ca} (D:MethDef K ca.Book "strike" "Book.strike" s_Book_strike) (T:Txt K mg w ca) (G_is_whole:FnAt P w K mg base CX0 1 "is_whole" ["thing"] (spWhole)):MethAt P w K mg base (CXE P w) 2 ca.Book "strike" ["self","k"] (spStrike ca.Book ca.NoDeed):=by
 refine D.okE T.k_Book sc_Book_strike (fun vs H Q E h=>?_) (fun _ _ _ _ _ _ us hl=>match us,hl with | [_,_],_=>rfl) (fun f cdv A outer s H vs Q E hr h=>?_)
 ·obtain ⟨bk,dx,rw,pl,tk,wn,pt,now,row,kk,n,rfl,hb,hr0,hk,hi,kE⟩:=h; rfl
 ·obtain ⟨bk,dx,rw,pl,tk,wn,pt,now,row,kk,n,rfl,hb,hr0,hk,hi,kE⟩:=h
  have nd:=sc_Book_strike.nd
  refine ⟨_,(pss_cons (ps_if (PW.pt (pw_or (pt_not (pt_val (pfn G_is_whole hr (pa_cons (pv 1) pa_nil)))) (pw_or (pt_cmpR op_lt (pv 1) pe_int (nomark _)) (pw_or1 (pt_cmpR op_ge (pv 1) (pe_callB (call_len' (K:=K) rfl) (by rfl) T.z_len PySem.boot_len (pa_cons (pe_fld' (K:=K) rfl (pv 0)) pa_nil)) (nomark _)))))) (pss_one (ps_raise raises_cx rfl (by rfl) T.c_NoDeed T.e_NoDeed PySem.F.excBase_ValueError (pa_cons pe_str pa_nil))) pss_nil)
   pss_never),?_⟩
  refine ⟨_,rfl,kk,n,rfl,hk,_,rfl,?_⟩
  by_cases hn:n = "int"
  ·subst hn
   obtain ⟨i,rfl⟩:=int_of hk
   refine iteF ?_
   refine ⟨_,rfl,_,_,rfl,rfl,_,rfl,?_⟩
   refine ite2 (fun _=>?_) (fun h=>?_)
   ·exact ⟨sz (by simp),kE⟩
   ·have h:¬ i < 0:=fun z=>h (decide_eq_true z)
    refine ⟨_,rfl,_,rfl,bk,_,dx,_,_,rfl,hb,T.k_Book,T.n_Book_row,b_rw,_,_,rfl,.inl ⟨_,SqL.of hr0,rfl⟩,_,_,rfl,rfl,_,rfl,?_⟩
    have h2:(row.length:Int) <= i:=(hi i rfl).resolve_left h
    refine dec_true h2 ?_
    exact ⟨sz (by simp),kE⟩
  ·have e:(n == "int") = false:=beq_eq_false_iff_ne.mpr hn
   rw [e]
   refine iteT ?_
   exact ⟨sz (by simp),kE⟩
noncomputable abbrev s__law_struck:Stmt:=top 64
theorem sc__law_struck:FnScope ["_law_book","_law_k","_law_found","_law_e"] ["_law_book","_law_k"] (defScope s__law_struck):=scF
theorem ok__law_struck {ca:Ca} (D:DefAt K mg "_law_struck" s__law_struck) (T:Txt K mg w ca) (G_Book_strike:MethAt P w K mg base (CXE P w) 2 ca.Book "strike" ["self","k"] (spStrike ca.Book ca.NoDeed)) (G__law_kind:FnAtH P w K mg base 1 "_law_kind" ["_law_e"] (spKind ca.NoDeed ca.NoChange)):FnAt P w K mg base CX0 3 "_law_struck" ["_law_book","_law_k"] (spStruck ca.Book):=by
 refine D.ok sc__law_struck (fun vs H Q E h=>?_) (fun _ _ _ _ _ _ us hl=>match us,hl with | [_,_],_=>rfl) (fun f cdv A outer s H vs Q E hr h=>?_)
 ·obtain ⟨bk,dx,rw,pl,tk,wn,pt,now,row,kk,n,rfl,hb,hr0,hk,hi,kE⟩:=h; rfl
 ·obtain ⟨bk,dx,rw,pl,tk,wn,pt,now,row,kk,n,rfl,hb,hr0,hk,hi,kE⟩:=h
  have nd:=sc__law_struck.nd
  refine ⟨_,(pss_cons (ps_tryS (i:=2) rfl rfl nd rfl (Or.inl rfl) (pexm G_Book_strike hr (pv 0) (pa_cons (pv 1) pa_nil)) (hd_as rfl nd (by rfl) T.c_Tied (i:=3) rfl rfl (fun _=>pss_never) (hd_as rfl nd (by rfl) T.c_TierError (i:=3) rfl rfl (fun _=>(pss_one (ps_ret (pe_tup (pa_cons (pfnH G__law_kind (hr.h.mark _) (pa_cons (pv 3) pa_nil)) (pa_cons (pe_un un_neg pe_int) pa_nil)))))) hd_none)))
   (pss_cons (ps_if (pt_cmpR op_isN (pv 2) pe_non (nomark _)) (pss_one (ps_ret (pe_tup (pa_cons pe_str (pa_cons (pe_un un_neg pe_int) pa_nil))))) pss_nil)
   (pss_one (ps_ret (pe_tup (pa_cons pe_str (pa_cons (pe_un un_neg pe_int) pa_nil))))))),?_⟩
  refine ⟨_,rfl,bk,dx,_,rfl,hb,m_strike,_,rfl,bk,dx,rw,pl,tk,wn,pt,now,row,kk,n,rfl,hb,hr0,hk,hi,?_⟩
  refine ⟨false,T.m_NoDeed_Tied,true,T.m_NoDeed_TierError,fun a ha=>?_⟩
  refine ⟨_,rfl,a,ca.NoDeed,_,rfl,upd_same,.inl ⟨rfl,rfl⟩,fun H2 s2=>⟨_,rfl,sz (by simp),fun p hp=>?_⟩⟩
  exact kE p _ ((Same.upd ha).trans (s2.trans (Same.upd hp))) upd_same
noncomputable abbrev s_Book_undo:Stmt:=clsFn (top 50) 4
theorem sc_Book_undo:FnScope ["self","before"] ["self"] (defScope s_Book_undo):=scF
theorem ok_Book_undo {ca:Ca} (D:MethDef K ca.Book "undo" "Book.undo" s_Book_undo) (T:Txt K mg w ca):MethAt P w K mg base (CXE P w) 1 ca.Book "undo" ["self"] (spUndo ca.Book ca.NoChange):=by
 refine D.okE T.k_Book sc_Book_undo (fun vs H Q E h=>?_) (fun _ _ _ _ _ _ us hl=>match us,hl with | [_],_=>rfl) (fun f cdv A outer s H vs Q E hr h=>?_)
 ·obtain ⟨bk,dx,pt,pl,rw,tk,wn,now,past,rfl,hb,hp,hl,k⟩:=h; rfl
 ·obtain ⟨bk,dx,pt,pl,rw,tk,wn,now,past,rfl,hb,hp,hl,k⟩:=h
  have nd:=sc_Book_undo.nd
  refine ⟨_,(pss_cons (ps_if (pt_cmpR op_eq (pe_callB (call_len' (K:=K) rfl) (by rfl) T.z_len PySem.boot_len (pa_cons (pe_fld' (K:=K) rfl (pv 0)) pa_nil)) pe_int (nomark _)) (pss_one (ps_raise raises_cx rfl (by rfl) T.c_NoChange T.e_NoChange PySem.F.excBase_ValueError (pa_cons pe_str pa_nil))) pss_nil)
   (pss_cons (ps_set (i:=1) nd rfl (Or.inl rfl) (pe_bm0' (K:=K) rfl PySem.F.plainAttrs_list PySem.F.slot_list_pop PySem.F.type_list_pop mt_pop (pe_fld' (K:=K) rfl (pv 0))))
   (pss_cons (ps_fld' (K:=K) rfl (pv 0) (pixT (pv 1) pe_int))
   (pss_cons (ps_fld' (K:=K) rfl (pv 0) (pixT (pv 1) pe_int))
   (pss_cons (ps_fld' (K:=K) rfl (pv 0) (pixT (pv 1) pe_int))
   (pss_one (ps_fld' (K:=K) rfl (pv 0) (pixT (pv 1) pe_int)))))))),?_⟩
  refine ⟨_,rfl,bk,_,dx,_,_,rfl,hb,T.k_Book,T.n_Book_past,b_pt,_,_,rfl,.inl ⟨_,SqL.of hp,rfl⟩,rfl,_,rfl,?_⟩
  rcases k with ⟨rfl,kE⟩ | ⟨ps,t,rw',tk',wn',n',rfl,ht,k⟩
  ·refine dec_true rfl ?_
   exact ⟨sz (by simp),kE⟩
  ·refine dec_false (fun e=>by have:=V.int.inj e; rw [List.length_append] at this; simp at this; lia) ?_
   refine ⟨_,rfl,bk,_,dx,_,_,rfl,hb,T.k_Book,T.n_Book_past,b_pt,.inl ⟨rfl,_,SqL.of hp⟩,pt,_,.ref t,rfl,rfl,hp,(by simp),?_⟩
   rw [List.dropLast_concat]
   have npb:bk ≠ pt:=ne_of hb hp (by intro z; cases z)
   have ntp:t ≠ pt:=ne_of ht hp (by intro z; cases z)
   have ntb:t ≠ bk:=ne_of ht hb (by intro z; cases z)
   have ht1:upd H pt (.lst ps) t = some (.tup [rw',tk',wn',.int n']):=by rw [upd_ne ntp]; exact ht
   have hb1:upd H pt (.lst ps) bk = some (.ins ca.Book dx (bfs pl rw tk wn now (.ref pt))):=by rw [upd_ne npb]; exact hb
   generalize upd H pt (.lst ps) = H1 at *
   have ht2:∀ o,upd H1 bk o t = some (.tup [rw',tk',wn',.int n']):=fun o=>by rw [upd_ne ntb]; exact ht1
   refine ⟨_,rfl,t,_,0,_,rfl,rfl,SqT.of ht1,rfl,_,rfl,bk,_,dx,_,rfl,hb1,T.k_Book,T.n_Book_row,(by show 7 < 1000; decide),?_⟩
   refine ⟨_,rfl,t,_,1,_,rfl,rfl,SqT.of (ht2 _),rfl,_,rfl,bk,_,dx,_,rfl,upd_same,T.k_Book,T.n_Book_taken,(by show 7 < 1000; decide),?_⟩
   rw [upd_upd]
   refine ⟨_,rfl,t,_,2,_,rfl,rfl,SqT.of (ht2 _),rfl,_,rfl,bk,_,dx,_,rfl,upd_same,T.k_Book,T.n_Book_wines,(by show 7 < 1000; decide),?_⟩
   rw [upd_upd]
   refine ⟨_,rfl,t,_,3,_,rfl,rfl,SqT.of (ht2 _),rfl,_,rfl,bk,_,dx,_,rfl,upd_same,T.k_Book,T.n_Book_now,(by show 7 < 1000; decide),?_⟩
   rw [upd_upd]
   exact k
noncomputable abbrev s__law_undone:Stmt:=top 65
theorem sc__law_undone:FnScope ["_law_book","_law_found","_law_e"] ["_law_book"] (defScope s__law_undone):=scF
theorem ok__law_undone {ca:Ca} (D:DefAt K mg "_law_undone" s__law_undone) (T:Txt K mg w ca) (G_Book_undo:MethAt P w K mg base (CXE P w) 1 ca.Book "undo" ["self"] (spUndo ca.Book ca.NoChange)) (G__law_kind:FnAtH P w K mg base 1 "_law_kind" ["_law_e"] (spKind ca.NoDeed ca.NoChange)):FnAt P w K mg base CX0 2 "_law_undone" ["_law_book"] (spUndone ca.Book):=by
 refine D.ok sc__law_undone (fun vs H Q E h=>?_) (fun _ _ _ _ _ _ us hl=>match us,hl with | [_],_=>rfl) (fun f cdv A outer s H vs Q E hr h=>?_)
 ·obtain ⟨bk,dx,pt,pl,rw,tk,wn,now,rfl,hb,hp,k⟩:=h; rfl
 ·obtain ⟨bk,dx,pt,pl,rw,tk,wn,now,rfl,hb,hp,k⟩:=h
  have nd:=sc__law_undone.nd
  refine ⟨_,(pss_cons (ps_tryS (i:=1) rfl rfl nd rfl (Or.inl rfl) (pexm0 G_Book_undo hr (pv 0)) (hd_as rfl nd (by rfl) T.c_TierError (i:=2) rfl rfl (fun _=>(pss_one (ps_ret (pfnH G__law_kind (hr.h.mark _) (pa_cons (pv 2) pa_nil))))) hd_none))
   (pss_cons (ps_if (pt_cmpR op_isN (pv 1) pe_non (nomark _)) (pss_one (ps_ret pe_str)) pss_nil)
   (pss_one (ps_ret pe_str)))),?_⟩
  refine ⟨_,rfl,bk,dx,_,rfl,hb,m_undo,bk,dx,pt,pl,rw,tk,wn,now,[],rfl,hb,hp,Nat.zero_le _,.inl ⟨rfl,?_⟩⟩
  refine ⟨true,T.m_NoChange_TierError,fun a ha=>?_⟩
  exact ⟨_,rfl,a,ca.NoChange,_,rfl,upd_same,.inr ⟨rfl,rfl⟩,fun H2 s2=>k H2 ((Same.upd ha).trans s2)⟩
noncomputable abbrev s__law_things:Stmt:=top 66
theorem sc__law_things:FnScope ["_law_x","_law_y","_law_sink","_law_one","_law_some"] ["_law_x","_law_y","_law_sink"] (defScope s__law_things):=scF
theorem ok__law_things {ca:Ca} (D:DefAt K mg "_law_things" s__law_things) (T:Txt K mg w ca):FnAt P w K mg base CX0 1 "_law_things" ["_law_x","_law_y","_law_sink"] (spTh):=by
 refine D.ok sc__law_things (fun vs H Q E h=>?_) (fun _ _ _ _ _ _ us hl=>match us,hl with | [_,_,_],_=>rfl) (fun f cdv A outer s H vs Q E hr h=>?_)
 ·obtain ⟨x,y,s,ps,rfl,kx,ky,ks,kA,lx,ly,ls,k⟩:=h; rfl
 ·obtain ⟨x,y,s,ps,rfl,kx,ky,ks,kA,lx,ly,ls,k⟩:=h
  have nd:=sc__law_things.nd
  refine ⟨_,(PSsw.h (wss_cons (ws_set (i:=3) nd rfl (Or.inl rfl) (wtup (wC (PEw.mk pe_int) (wC (PEw.mk pe_int) wnil))))
   (wss_cons (ws_set (i:=4) nd rfl (Or.inl rfl) (wlst (wC (PEw.mk pe_non) (wC (PEw.mk pe_int) (wC (PEw.mk pe_bl) (wC wstr (wL (wlst wnil) (wD (PEw.mk pe_dnewT) (wT (wtup wnil) (wL (wlst (wC wstr wnil)) (wT (wtup (wC wstr wnil)) (wT (wtup (wC wstr (wC (PEw.mk pe_int) wnil))) (wT (wtup (wC (PEw.mk pe_non) wnil)) (wT (wtup (wL (wlst (wC wstr wnil)) wnil)) wnil))))))))))))))
   (wss_cons (ws_set (i:=4) nd rfl (Or.inl rfl) (w_op op_cat (PEw.mk (pv 4)) (wlst (wT (wtup (wC wstr (wC (PEw.mk pe_int) (wT (wtup (wT (wtup (wC wstr wnil)) wnil)) wnil)))) (wT (wtup (wC wstr (wC wstr (wT (wtup (wN (PEw.mk (pv 0)) (wN (PEw.mk (pv 1)) wnil))) wnil)))) (wT (wtup (wC wstr (wN (PEw.mk (pv 0)) (wN (PEw.mk (pv 1)) wnil)))) (wT (wtup (wC wstr (wC wstr (wN (PEw.mk (pv 0)) wnil)))) wnil)))))))
   (wss_cons (ws_set (i:=4) nd rfl (Or.inl rfl) (w_op op_cat (PEw.mk (pv 4)) (wlst (wT (wtup (wC wstr (wC wstr (wN (PEw.mk (pv 0)) (wN (PEw.mk (pv 3)) wnil))))) (wT (wtup (wC wstr (wC wstr (wN (PEw.mk (pv 0)) (wN (PEw.mk (pv 3)) wnil))))) (wT (wtup (wC wstr (wC wstr (wN (PEw.mk (pv 0)) (wN (PEw.mk (pv 3)) wnil))))) (wT (wtup (wC wstr (wC (PEw.mk pe_int) (wN (PEw.mk (pv 0)) (wN (PEw.mk (pv 3)) wnil))))) wnil)))))))
   (wss_cons (ws_set (i:=4) nd rfl (Or.inl rfl) (w_op op_cat (PEw.mk (pv 4)) (wlst (wT (wtup (wC wstr (wC wstr (wN (PEw.mk (pv 2)) (wN (PEw.mk (pv 3)) wnil))))) (wT (wtup (wC wstr (wC wstr (wC wstr (wN (PEw.mk (pv 3)) wnil))))) (wT (wtup (wC wstr (wC wstr (wL (wlst (wN (PEw.mk (pv 0)) wnil)) (wN (PEw.mk (pv 3)) wnil))))) (wT (wtup (wC wstr (wN (PEw.mk (pv 0)) (wN (PEw.mk (pv 1)) wnil)))) wnil)))))))
   (wss_cons (ws_set (i:=4) nd rfl (Or.inl rfl) (w_op op_cat (PEw.mk (pv 4)) (wlst (wT (wtup (wC wstr (wC wstr (wN (PEw.mk (pv 0)) (wT (wtup (wC (PEw.mk pe_int) (wC (PEw.mk pe_int) wnil))) wnil))))) (wT (wtup (wC wstr (wC wstr (wN (PEw.mk (pv 0)) (wT (wtup (wC (PEw.mk pe_int) (wC (PEw.mk pe_int) wnil))) wnil))))) (wT (wtup (wC wstr (wC wstr (wN (PEw.mk (pv 0)) (wC (PEw.mk pe_int) wnil))))) wnil))))))
   (wss_cons (PSw.mk (ps_expr (pe_bm PySem.F.plainAttrs_list PySem.F.slot_list_append PySem.F.type_list_append mt_append (pv 4) (pa_cons (pe_tup (pa_cons pe_str (pa_cons pe_str (pa_cons (pv 0) (pa_cons (pe_lst (pa_cons pe_int (pa_cons pe_int pa_nil))) pa_nil))))) pa_nil))))
   (wss_cons (ws_set (i:=4) nd rfl (Or.inl rfl) (w_op op_cat (PEw.mk (pv 4)) (wlst (wT (wtup (wC wstr (wN (PEw.mk (pv 0)) (wN (PEw.mk (pv 0)) (wN (PEw.mk (pv 3)) wnil))))) (wT (wtup (wC wstr (wN (PEw.mk (pv 2)) (wN (PEw.mk (pv 0)) (wN (PEw.mk (pv 3)) wnil))))) (wT (wtup (wC wstr (wN (PEw.mk (pv 0)) (wN (PEw.mk (pv 1)) (wT (wtup (wU (PEw.mk (pe_un un_neg pe_int)) (wC (PEw.mk pe_int) wnil))) wnil))))) (wT (wtup (wC wstr (wN (PEw.mk (pv 0)) (wN (PEw.mk (pv 1)) (wT (wtup (wC (PEw.mk pe_int) (wC (PEw.mk pe_int) wnil))) wnil))))) wnil)))))))
   (wss_cons (ws_set (i:=4) nd rfl (Or.inl rfl) (w_op op_cat (PEw.mk (pv 4)) (wlst (wT (wtup (wC wstr (wN (PEw.mk (pv 0)) (wN (PEw.mk (pv 1)) (wT (wtup (wC (PEw.mk pe_int) (wC (PEw.mk pe_int) wnil))) wnil))))) (wT (wtup (wC wstr (wN (PEw.mk (pv 0)) (wN (PEw.mk (pv 1)) (wT (wtup (wU (PEw.mk (pe_un un_neg pe_int)) (wC (PEw.mk pe_int) wnil))) wnil))))) (wT (wtup (wC wstr (wN (PEw.mk (pv 0)) (wN (PEw.mk (pv 1)) (wC (PEw.mk pe_non) wnil))))) (wT (wtup (wC wstr (wN (PEw.mk (pv 0)) (wN (PEw.mk (pv 1)) (wT (wtup (wC (PEw.mk pe_bl) (wC (PEw.mk pe_int) wnil))) wnil))))) wnil)))))))
   (wss_cons (ws_set (i:=4) nd rfl (Or.inl rfl) (w_op op_cat (PEw.mk (pv 4)) (wlst (wT (wtup (wC wstr (wN (PEw.mk (pv 0)) wnil))) (wT (wtup (wC wstr (wN (PEw.mk (pv 0)) (wN (PEw.mk (pv 1)) (wN (PEw.mk (pv 3)) wnil))))) (wT (wtup (wC wstr (wN (PEw.mk (pv 0)) (wN (PEw.mk (pv 2)) wnil)))) (wT (wtup (wC wstr (wN (PEw.mk (pv 0)) (wC wstr (wN (PEw.mk (pv 3)) wnil))))) wnil)))))))
   (wss_cons (ws_set (i:=4) nd rfl (Or.inl rfl) (w_op op_cat (PEw.mk (pv 4)) (wlst (wT (wtup (wC wstr (wN (PEw.mk (pv 0)) (wN (PEw.mk (pv 0)) (wT (wtup (wC (PEw.mk pe_int) (wC (PEw.mk pe_int) wnil))) wnil))))) (wT (wtup (wC wstr (wN (PEw.mk (pv 0)) (wN (PEw.mk (pv 0)) wnil)))) (wT (wtup (wC wstr (wN (PEw.mk (pv 0)) (wN (PEw.mk (pv 0)) wnil)))) (wT (wtup (wC wstr (wN (PEw.mk (pv 2)) (wN (PEw.mk (pv 0)) (wT (wtup (wC (PEw.mk pe_int) (wC (PEw.mk pe_int) wnil))) wnil))))) wnil)))))))
   (wss_cons (ws_set (i:=4) nd rfl (Or.inl rfl) (w_op op_cat (PEw.mk (pv 4)) (wlst (wT (wtup (wC wstr (wN (PEw.mk (pv 2)) (wN (PEw.mk (pv 0)) wnil)))) (wT (wtup (wC wstr (wN (PEw.mk (pv 2)) (wN (PEw.mk (pv 0)) wnil)))) (wT (wtup (wC wstr (wC (PEw.mk pe_int) (wN (PEw.mk (pv 0)) (wN (PEw.mk (pv 3)) wnil))))) (wT (wtup (wC wstr (wN (PEw.mk (pv 0)) (wC (PEw.mk pe_non) (wT (wtup (wC (PEw.mk pe_int) (wC (PEw.mk pe_int) wnil))) wnil))))) wnil)))))))
   (wss_one (ws_ret (w_op op_cat (PEw.mk (pv 4)) (wlst (wT (wtup (wC wstr (wL (wlst (wN (PEw.mk (pv 0)) wnil)) (wN (PEw.mk (pv 1)) wnil)))) (wT (wtup (wC wstr (wN (PEw.mk (pv 0)) (wN (PEw.mk (pv 1)) (wT (wtup (wU (PEw.mk (pe_un un_neg pe_int)) (wU (PEw.mk (pe_un un_neg pe_int)) wnil))) wnil))))) (wT (wtup (wC wstr (wN (PEw.mk (pv 0)) (wN (PEw.mk (pv 1)) (wT (wtup (wC (PEw.mk pe_int) (wC (PEw.mk pe_int) wnil))) wnil))))) (wT (wtup (wC wstr (wC wstr (wN (PEw.mk (pv 0)) (wT (wtup (wC (PEw.mk pe_int) (wU (PEw.mk (pe_un un_neg pe_int)) wnil))) wnil))))) wnil))))))))))))))))))))),?_⟩
  refine ⟨sz (by simp),fun p1 q1=>?_⟩
  have t1:=Same.upd (o:=.tup [.int 1,.int 1]) q1
  have g1:upd H p1 (.tup [.int 1,.int 1]) p1 = some (.tup [.int 1,.int 1]):=upd_same
  generalize upd H p1 (.tup [.int 1,.int 1]) = H1 at *
  have j4:JdV ps H1 (.non) false:=b_ty (show tyS _ _ = some "NoneType" from rfl) (by decide)
  have j5:JdV ps H1 (.int 7) false:=b_ty (show tyS _ _ = some "int" from rfl) (by decide)
  have j6:JdV ps H1 (.bl true) false:=b_ty (show tyS _ _ = some "bool" from rfl) (by decide)
  have j7:JdV ps H1 (.str (Str.ofString "year")) false:=b_ty (show tyS _ _ = some "str" from rfl) (by decide)
  refine ⟨sz (by simp),fun p2 q2=>?_⟩
  have t2:=Same.upd (o:=.lst []) q2
  have g2:upd H1 p2 (.lst []) p2 = some (.lst []):=upd_same
  generalize upd H1 p2 (.lst []) = H2 at *
  have j12:JdV ps H2 (.ref p2) false:=b_ty (show tyS _ _ = some "list" from ty_of ((Same.refl _) _ _ g2) rfl) (by decide)
  intro p3 q3
  have t3:=Same.upd (o:=.dT []) q3
  have g3:upd H2 p3 (.dT []) p3 = some (.dT []):=upd_same
  generalize upd H2 p3 (.dT []) = H3 at *
  have j17:JdV ps H3 (.ref p3) false:=b_ty (show tyS _ _ = some "dict" from ty_of ((Same.refl _) _ _ g3) rfl) (by decide)
  refine ⟨sz (by simp),fun p4 q4=>?_⟩
  have t4:=Same.upd (o:=.tup []) q4
  have g4:upd H3 p4 (.tup []) p4 = some (.tup []):=upd_same
  generalize upd H3 p4 (.tup []) = H4 at *
  have j22:JdV ps H4 (.ref p4) false:=b_nil ((Same.refl _) _ _ g4)
  refine ⟨sz (by simp),fun p5 q5=>?_⟩
  have t5:=Same.upd (o:=.lst [.str (Str.ofString "year")]) q5
  have g5:upd H4 p5 (.lst [.str (Str.ofString "year")]) p5 = some (.lst [.str (Str.ofString "year")]):=upd_same
  generalize upd H4 p5 (.lst [.str (Str.ofString "year")]) = H5 at *
  have j27:JdV ps H5 (.ref p5) false:=b_ty (show tyS _ _ = some "list" from ty_of ((Same.refl _) _ _ g5) rfl) (by decide)
  refine ⟨sz (by simp),fun p6 q6=>?_⟩
  have t6:=Same.upd (o:=.tup [.str (Str.ofString "years")]) q6
  have g6:upd H5 p6 (.tup [.str (Str.ofString "years")]) p6 = some (.tup [.str (Str.ofString "years")]):=upd_same
  generalize upd H5 p6 (.tup [.str (Str.ofString "years")]) = H6 at *
  have j32:JdV ps H6 (.ref p6) false:=b_len 0 ((Same.refl _) _ _ g6) rfl (by decide) (by decide +kernel)
  refine ⟨sz (by simp),fun p7 q7=>?_⟩
  have t7:=Same.upd (o:=.tup [.str (Str.ofString "year"),.int 1]) q7
  have g7:upd H6 p7 (.tup [.str (Str.ofString "year"),.int 1]) p7 = some (.tup [.str (Str.ofString "year"),.int 1]):=upd_same
  generalize upd H6 p7 (.tup [.str (Str.ofString "year"),.int 1]) = H7 at *
  have j37:JdV ps H7 (.ref p7) false:=b_len 1 ((Same.refl _) _ _ g7) rfl (by decide) (by decide +kernel)
  refine ⟨sz (by simp),fun p8 q8=>?_⟩
  have t8:=Same.upd (o:=.tup [.non]) q8
  have g8:upd H7 p8 (.tup [.non]) p8 = some (.tup [.non]):=upd_same
  generalize upd H7 p8 (.tup [.non]) = H8 at *
  have j42:JdV ps H8 (.ref p8) false:=b_fst ((Same.refl _) _ _ g8) (show tyS _ _ = some "NoneType" from rfl) (by decide)
  refine ⟨sz (by simp),fun p9 q9=>?_⟩
  have t9:=Same.upd (o:=.lst [.str (Str.ofString "year")]) q9
  have g9:upd H8 p9 (.lst [.str (Str.ofString "year")]) p9 = some (.lst [.str (Str.ofString "year")]):=upd_same
  generalize upd H8 p9 (.lst [.str (Str.ofString "year")]) = H9 at *
  refine ⟨sz (by simp),fun p10 q10=>?_⟩
  have t10:=Same.upd (o:=.tup [.ref p9]) q10
  have g10:upd H9 p10 (.tup [.ref p9]) p10 = some (.tup [.ref p9]):=upd_same
  generalize upd H9 p10 (.tup [.ref p9]) = H10 at *
  have j51:JdV ps H10 (.ref p10) false:=b_fst ((Same.refl _) _ _ g10) (show tyS _ _ = some "list" from ty_of ((t10) _ _ g9) rfl) (by decide)
  refine ⟨sz (by simp),fun p11 q11=>?_⟩
  have t11:=Same.upd (o:=.lst [.non,.int 7,.bl true,.str (Str.ofString "year"),.ref p2,.ref p3,.ref p4,.ref p5,.ref p6,.ref p7,.ref p8,.ref p10]) q11
  have g11:upd H10 p11 (.lst [.non,.int 7,.bl true,.str (Str.ofString "year"),.ref p2,.ref p3,.ref p4,.ref p5,.ref p6,.ref p7,.ref p8,.ref p10]) p11 = some (.lst [.non,.int 7,.bl true,.str (Str.ofString "year"),.ref p2,.ref p3,.ref p4,.ref p5,.ref p6,.ref p7,.ref p8,.ref p10]):=upd_same
  generalize upd H10 p11 (.lst [.non,.int 7,.bl true,.str (Str.ofString "year"),.ref p2,.ref p3,.ref p4,.ref p5,.ref p6,.ref p7,.ref p8,.ref p10]) = H11 at *
  obtain ⟨xs,hl,hn,hall⟩:∃ ys,H11 p11 = some (.lst ys) /\ ys.length = 12 /\ ∀ v ∈ ys,JdV ps H11 v false:=⟨_,g11,rfl,(allc (j4.same (t2.trans (t3.trans (t4.trans (t5.trans (t6.trans (t7.trans (t8.trans (t9.trans (t10.trans (t11))))))))))) (allc (j5.same (t2.trans (t3.trans (t4.trans (t5.trans (t6.trans (t7.trans (t8.trans (t9.trans (t10.trans (t11))))))))))) (allc (j6.same (t2.trans (t3.trans (t4.trans (t5.trans (t6.trans (t7.trans (t8.trans (t9.trans (t10.trans (t11))))))))))) (allc (j7.same (t2.trans (t3.trans (t4.trans (t5.trans (t6.trans (t7.trans (t8.trans (t9.trans (t10.trans (t11))))))))))) (allc (j12.same (t3.trans (t4.trans (t5.trans (t6.trans (t7.trans (t8.trans (t9.trans (t10.trans (t11)))))))))) (allc (j17.same (t4.trans (t5.trans (t6.trans (t7.trans (t8.trans (t9.trans (t10.trans (t11))))))))) (allc (j22.same (t5.trans (t6.trans (t7.trans (t8.trans (t9.trans (t10.trans (t11)))))))) (allc (j27.same (t6.trans (t7.trans (t8.trans (t9.trans (t10.trans (t11))))))) (allc (j32.same (t7.trans (t8.trans (t9.trans (t10.trans (t11)))))) (allc (j37.same (t8.trans (t9.trans (t10.trans (t11))))) (allc (j42.same (t9.trans (t10.trans (t11)))) (allc (j51.same (t11)) (alln)))))))))))))⟩
  have hlo:H p11 = none:=(t1.trans (t2.trans (t3.trans (t4.trans (t5.trans (t6.trans (t7.trans (t8.trans (t9.trans (t10)))))))))).free q11
  have g1:=(t2.trans (t3.trans (t4.trans (t5.trans (t6.trans (t7.trans (t8.trans (t9.trans (t10.trans (t11)))))))))) _ _ g1
  have sb:Same H H11:=t1.trans (t2.trans (t3.trans (t4.trans (t5.trans (t6.trans (t7.trans (t8.trans (t9.trans (t10.trans (t11))))))))))
  refine ⟨_,rfl,sz (by simp),fun p12 q12=>?_⟩
  have t12:=Same.upd (o:=.tup [.str (Str.ofString "year")]) q12
  have g12:upd H11 p12 (.tup [.str (Str.ofString "year")]) p12 = some (.tup [.str (Str.ofString "year")]):=upd_same
  generalize upd H11 p12 (.tup [.str (Str.ofString "year")]) = H12 at *
  refine ⟨sz (by simp),fun p13 q13=>?_⟩
  have t13:=Same.upd (o:=.tup [.ref p12]) q13
  have g13:upd H12 p13 (.tup [.ref p12]) p13 = some (.tup [.ref p12]):=upd_same
  generalize upd H12 p13 (.tup [.ref p12]) = H13 at *
  refine ⟨sz (by simp),fun p14 q14=>?_⟩
  have t14:=Same.upd (o:=.tup [.str (Str.ofString "times"),.int 1,.ref p13]) q14
  have g14:upd H13 p14 (.tup [.str (Str.ofString "times"),.int 1,.ref p13]) p14 = some (.tup [.str (Str.ofString "times"),.int 1,.ref p13]):=upd_same
  generalize upd H13 p14 (.tup [.str (Str.ofString "times"),.int 1,.ref p13]) = H14 at *
  have j72:JdV ps H14 (.ref p14) false:=b_len 2 ((Same.refl _) _ _ g14) rfl (by decide) (by decide +kernel)
  refine ⟨_,rfl,_,rfl,sz (by simp),fun p15 q15=>?_⟩
  have t15:=Same.upd (o:=.tup [.str x,.str y]) q15
  have g15:upd H14 p15 (.tup [.str x,.str y]) p15 = some (.tup [.str x,.str y]):=upd_same
  generalize upd H14 p15 (.tup [.str x,.str y]) = H15 at *
  refine ⟨sz (by simp),fun p16 q16=>?_⟩
  have t16:=Same.upd (o:=.tup [.str (Str.ofString "do"),.str (Str.ofString "rule"),.ref p15]) q16
  have g16:upd H15 p16 (.tup [.str (Str.ofString "do"),.str (Str.ofString "rule"),.ref p15]) p16 = some (.tup [.str (Str.ofString "do"),.str (Str.ofString "rule"),.ref p15]):=upd_same
  generalize upd H15 p16 (.tup [.str (Str.ofString "do"),.str (Str.ofString "rule"),.ref p15]) = H16 at *
  have j81:JdV ps H16 (.ref p16) false:=b_len 2 ((Same.refl _) _ _ g16) rfl (by decide) (by decide +kernel)
  refine ⟨_,rfl,_,rfl,sz (by simp),fun p17 q17=>?_⟩
  have t17:=Same.upd (o:=.tup [.str (Str.ofString "pour"),.str x,.str y]) q17
  have g17:upd H16 p17 (.tup [.str (Str.ofString "pour"),.str x,.str y]) p17 = some (.tup [.str (Str.ofString "pour"),.str x,.str y]):=upd_same
  generalize upd H16 p17 (.tup [.str (Str.ofString "pour"),.str x,.str y]) = H17 at *
  have j86:JdV ps H17 (.ref p17) false:=b_len 2 ((Same.refl _) _ _ g17) rfl (by decide) (by decide +kernel)
  refine ⟨_,rfl,sz (by simp),fun p18 q18=>?_⟩
  have t18:=Same.upd (o:=.tup [.str (Str.ofString "bring"),.str (Str.ofString "a"),.str x]) q18
  have g18:upd H17 p18 (.tup [.str (Str.ofString "bring"),.str (Str.ofString "a"),.str x]) p18 = some (.tup [.str (Str.ofString "bring"),.str (Str.ofString "a"),.str x]):=upd_same
  generalize upd H17 p18 (.tup [.str (Str.ofString "bring"),.str (Str.ofString "a"),.str x]) = H18 at *
  have j91:JdV ps H18 (.ref p18) false:=b_len 2 ((Same.refl _) _ _ g18) rfl (by decide) (by decide +kernel)
  refine ⟨sz (by simp),fun p19 q19=>?_⟩
  have t19:=Same.upd (o:=.lst [.ref p14,.ref p16,.ref p17,.ref p18]) q19
  have g19:upd H18 p19 (.lst [.ref p14,.ref p16,.ref p17,.ref p18]) p19 = some (.lst [.ref p14,.ref p16,.ref p17,.ref p18]):=upd_same
  generalize upd H18 p19 (.lst [.ref p14,.ref p16,.ref p17,.ref p18]) = H19 at *
  refine ⟨p11,p19,xs,_,rfl,rfl,(t12.trans (t13.trans (t14.trans (t15.trans (t16.trans (t17.trans (t18.trans (t19)))))))) _ _ hl,g19,sz (by rw [hn]; show 12 + 4 <= 1000; decide),fun p20 q20=>?_⟩
  have t20:=Same.upd (o:=.lst (xs ++ [.ref p14,.ref p16,.ref p17,.ref p18])) q20
  have hlo:H p20 = none:=(sb.trans (t12.trans (t13.trans (t14.trans (t15.trans (t16.trans (t17.trans (t18.trans (t19))))))))).free q20
  have A:∃ ys,upd H19 p20 (.lst (xs ++ [.ref p14,.ref p16,.ref p17,.ref p18])) p20 = some (.lst ys) /\ ys.length = 16 /\ ∀ v ∈ ys,JdV ps (upd H19 p20 (.lst (xs ++ [.ref p14,.ref p16,.ref p17,.ref p18]))) v false:=⟨_,upd_same,by rw [List.length_append,hn]; rfl,fun v hv=>(List.mem_append.mp hv).elim (fun h=>(hall v h).same (t12.trans (t13.trans (t14.trans (t15.trans (t16.trans (t17.trans (t18.trans (t19.trans (t20)))))))))) (fun h=>(allc (j72.same (t15.trans (t16.trans (t17.trans (t18.trans (t19.trans (t20))))))) (allc (j81.same (t17.trans (t18.trans (t19.trans (t20))))) (allc (j86.same (t18.trans (t19.trans (t20)))) (allc (j91.same (t19.trans (t20))) (alln))))) v h)⟩
  have g1:=(t12.trans (t13.trans (t14.trans (t15.trans (t16.trans (t17.trans (t18.trans (t19.trans (t20))))))))) _ _ g1
  have sb:=sb.trans (t12.trans (t13.trans (t14.trans (t15.trans (t16.trans (t17.trans (t18.trans (t19.trans (t20)))))))))
  clear hl hall hn
  generalize upd H19 p20 (.lst (xs ++ [.ref p14,.ref p16,.ref p17,.ref p18])) = H20 at *
  clear xs
  obtain ⟨xs,hl,hn,hall⟩:=A
  refine ⟨_,rfl,_,rfl,_,rfl,sz (by simp),fun p21 q21=>?_⟩
  have t21:=Same.upd (o:=.tup [.str (Str.ofString "bring"),.str (Str.ofString "A"),.str x,.ref p1]) q21
  have g21:upd H20 p21 (.tup [.str (Str.ofString "bring"),.str (Str.ofString "A"),.str x,.ref p1]) p21 = some (.tup [.str (Str.ofString "bring"),.str (Str.ofString "A"),.str x,.ref p1]):=upd_same
  generalize upd H20 p21 (.tup [.str (Str.ofString "bring"),.str (Str.ofString "A"),.str x,.ref p1]) = H21 at *
  have j110:JdV ps H21 (.ref p21) false:=b_form (hf4 (bm:=true) (b:=false) ((Same.refl _) _ _ g21) (by decide +kernel) (wd_str (by decide +kernel)) (wd_str lx) (ms_two (b:=true) ((t21) _ _ g1) (by decide) (by decide) (by decide +kernel)) (by rw [if_pos rfl,show nmV (.str (Str.ofString "A")) = false from by decide +kernel]; rfl))
  refine ⟨_,rfl,_,rfl,sz (by simp),fun p22 q22=>?_⟩
  have t22:=Same.upd (o:=.tup [.str (Str.ofString "bring"),.str (Str.ofString ""),.str x,.ref p1]) q22
  have g22:upd H21 p22 (.tup [.str (Str.ofString "bring"),.str (Str.ofString ""),.str x,.ref p1]) p22 = some (.tup [.str (Str.ofString "bring"),.str (Str.ofString ""),.str x,.ref p1]):=upd_same
  generalize upd H21 p22 (.tup [.str (Str.ofString "bring"),.str (Str.ofString ""),.str x,.ref p1]) = H22 at *
  have j115:JdV ps H22 (.ref p22) false:=b_form (hf4 (bm:=true) (b:=false) ((Same.refl _) _ _ g22) (by decide +kernel) (wd_str (by decide +kernel)) (wd_str lx) (ms_two (b:=true) ((t21.trans (t22)) _ _ g1) (by decide) (by decide) (by decide +kernel)) (by rw [if_pos rfl,show nmV (.str (Str.ofString "")) = false from by decide +kernel]; rfl))
  refine ⟨_,rfl,_,rfl,sz (by simp),fun p23 q23=>?_⟩
  have t23:=Same.upd (o:=.tup [.str (Str.ofString "bring"),.str (Str.ofString "abcdefghi"),.str x,.ref p1]) q23
  have g23:upd H22 p23 (.tup [.str (Str.ofString "bring"),.str (Str.ofString "abcdefghi"),.str x,.ref p1]) p23 = some (.tup [.str (Str.ofString "bring"),.str (Str.ofString "abcdefghi"),.str x,.ref p1]):=upd_same
  generalize upd H22 p23 (.tup [.str (Str.ofString "bring"),.str (Str.ofString "abcdefghi"),.str x,.ref p1]) = H23 at *
  have j120:JdV ps H23 (.ref p23) false:=b_form (hf4 (bm:=true) (b:=false) ((Same.refl _) _ _ g23) (by decide +kernel) ⟨"str",rfl,fun y e=>by cases e; decide +kernel⟩ (wd_str lx) (ms_two (b:=true) ((t21.trans (t22.trans (t23))) _ _ g1) (by decide) (by decide) (by decide +kernel)) (by rw [if_pos rfl,show nmV (.str (Str.ofString "abcdefghi")) = false from by decide +kernel]; rfl))
  refine ⟨_,rfl,_,rfl,sz (by simp),fun p24 q24=>?_⟩
  have t24:=Same.upd (o:=.tup [.str (Str.ofString "bring"),.int 5,.str x,.ref p1]) q24
  have g24:upd H23 p24 (.tup [.str (Str.ofString "bring"),.int 5,.str x,.ref p1]) p24 = some (.tup [.str (Str.ofString "bring"),.int 5,.str x,.ref p1]):=upd_same
  generalize upd H23 p24 (.tup [.str (Str.ofString "bring"),.int 5,.str x,.ref p1]) = H24 at *
  have j125:JdV ps H24 (.ref p24) false:=b_form (hf4 (bm:=true) (b:=false) ((Same.refl _) _ _ g24) (by decide +kernel) (wd_no (show tyS _ _ = some "int" from rfl) rfl) (wd_str lx) (ms_two (b:=true) ((t21.trans (t22.trans (t23.trans (t24)))) _ _ g1) (by decide) (by decide) (by decide +kernel)) (by rw [if_pos rfl,show nmV (.int 5) = false from by decide +kernel]; rfl))
  refine ⟨sz (by simp),fun p25 q25=>?_⟩
  have t25:=Same.upd (o:=.lst [.ref p21,.ref p22,.ref p23,.ref p24]) q25
  have g25:upd H24 p25 (.lst [.ref p21,.ref p22,.ref p23,.ref p24]) p25 = some (.lst [.ref p21,.ref p22,.ref p23,.ref p24]):=upd_same
  generalize upd H24 p25 (.lst [.ref p21,.ref p22,.ref p23,.ref p24]) = H25 at *
  refine ⟨p20,p25,xs,_,rfl,rfl,(t21.trans (t22.trans (t23.trans (t24.trans (t25))))) _ _ hl,g25,sz (by rw [hn]; show 16 + 4 <= 1000; decide),fun p26 q26=>?_⟩
  have t26:=Same.upd (o:=.lst (xs ++ [.ref p21,.ref p22,.ref p23,.ref p24])) q26
  have hlo:H p26 = none:=(sb.trans (t21.trans (t22.trans (t23.trans (t24.trans (t25)))))).free q26
  have A:∃ ys,upd H25 p26 (.lst (xs ++ [.ref p21,.ref p22,.ref p23,.ref p24])) p26 = some (.lst ys) /\ ys.length = 20 /\ ∀ v ∈ ys,JdV ps (upd H25 p26 (.lst (xs ++ [.ref p21,.ref p22,.ref p23,.ref p24]))) v false:=⟨_,upd_same,by rw [List.length_append,hn]; rfl,fun v hv=>(List.mem_append.mp hv).elim (fun h=>(hall v h).same (t21.trans (t22.trans (t23.trans (t24.trans (t25.trans (t26))))))) (fun h=>(allc (j110.same (t22.trans (t23.trans (t24.trans (t25.trans (t26)))))) (allc (j115.same (t23.trans (t24.trans (t25.trans (t26))))) (allc (j120.same (t24.trans (t25.trans (t26)))) (allc (j125.same (t25.trans (t26))) (alln))))) v h)⟩
  have g1:=(t21.trans (t22.trans (t23.trans (t24.trans (t25.trans (t26)))))) _ _ g1
  have sb:=sb.trans (t21.trans (t22.trans (t23.trans (t24.trans (t25.trans (t26))))))
  clear hl hall hn
  generalize upd H25 p26 (.lst (xs ++ [.ref p21,.ref p22,.ref p23,.ref p24])) = H26 at *
  clear xs
  obtain ⟨xs,hl,hn,hall⟩:=A
  refine ⟨_,rfl,_,rfl,_,rfl,sz (by simp),fun p27 q27=>?_⟩
  have t27:=Same.upd (o:=.tup [.str (Str.ofString "bring"),.str (Str.ofString "a"),.str s,.ref p1]) q27
  have g27:upd H26 p27 (.tup [.str (Str.ofString "bring"),.str (Str.ofString "a"),.str s,.ref p1]) p27 = some (.tup [.str (Str.ofString "bring"),.str (Str.ofString "a"),.str s,.ref p1]):=upd_same
  generalize upd H26 p27 (.tup [.str (Str.ofString "bring"),.str (Str.ofString "a"),.str s,.ref p1]) = H27 at *
  have j144:JdV ps H27 (.ref p27) false:=b_plc (hf4 (bm:=true) (b:=true) ((Same.refl _) _ _ g27) (by decide +kernel) (wd_str (by decide +kernel)) (wd_str ls) (ms_two (b:=true) ((t27) _ _ g1) (by decide) (by decide) (by decide +kernel)) (by rw [if_pos rfl,show nmV (.str (Str.ofString "a")) = true from by decide +kernel]; rfl)) (p_one ((Same.refl _) _ _ g27)) (sh1 ls) (j_sk ks [])
  refine ⟨_,rfl,sz (by simp),fun p28 q28=>?_⟩
  have t28:=Same.upd (o:=.tup [.str (Str.ofString "bring"),.str (Str.ofString "a"),.str (Str.ofString "A"),.ref p1]) q28
  have g28:upd H27 p28 (.tup [.str (Str.ofString "bring"),.str (Str.ofString "a"),.str (Str.ofString "A"),.ref p1]) p28 = some (.tup [.str (Str.ofString "bring"),.str (Str.ofString "a"),.str (Str.ofString "A"),.ref p1]):=upd_same
  generalize upd H27 p28 (.tup [.str (Str.ofString "bring"),.str (Str.ofString "a"),.str (Str.ofString "A"),.ref p1]) = H28 at *
  have j149:JdV ps H28 (.ref p28) false:=b_plc (hf4 (bm:=true) (b:=true) ((Same.refl _) _ _ g28) (by decide +kernel) (wd_str (by decide +kernel)) (wd_str (by decide +kernel)) (ms_two (b:=true) ((t27.trans (t28)) _ _ g1) (by decide) (by decide) (by decide +kernel)) (by decide +kernel)) (p_one ((Same.refl _) _ _ g28)) (sh1 (by decide +kernel)) (j_far kA [])
  refine ⟨_,rfl,sz (by simp),fun p29 q29=>?_⟩
  have t29:=Same.upd (o:=.lst [.str x]) q29
  have g29:upd H28 p29 (.lst [.str x]) p29 = some (.lst [.str x]):=upd_same
  generalize upd H28 p29 (.lst [.str x]) = H29 at *
  refine ⟨_,rfl,sz (by simp),fun p30 q30=>?_⟩
  have t30:=Same.upd (o:=.tup [.str (Str.ofString "bring"),.str (Str.ofString "a"),.ref p29,.ref p1]) q30
  have g30:upd H29 p30 (.tup [.str (Str.ofString "bring"),.str (Str.ofString "a"),.ref p29,.ref p1]) p30 = some (.tup [.str (Str.ofString "bring"),.str (Str.ofString "a"),.ref p29,.ref p1]):=upd_same
  generalize upd H29 p30 (.tup [.str (Str.ofString "bring"),.str (Str.ofString "a"),.ref p29,.ref p1]) = H30 at *
  have j158:JdV ps H30 (.ref p30) false:=b_form (hf4 (bm:=true) (b:=false) ((Same.refl _) _ _ g30) (by decide +kernel) (wd_str (by decide +kernel)) (wd_no (show tyS _ _ = some "list" from ty_of ((t30) _ _ g29) rfl) rfl) (ms_two (b:=true) ((t27.trans (t28.trans (t29.trans (t30)))) _ _ g1) (by decide) (by decide) (by decide +kernel)) (by rw [if_pos rfl,show nmV (.str (Str.ofString "a")) = true from by decide +kernel]; rfl))
  refine ⟨_,rfl,_,rfl,sz (by simp),fun p31 q31=>?_⟩
  have t31:=Same.upd (o:=.tup [.str (Str.ofString "move"),.str x,.str y]) q31
  have g31:upd H30 p31 (.tup [.str (Str.ofString "move"),.str x,.str y]) p31 = some (.tup [.str (Str.ofString "move"),.str x,.str y]):=upd_same
  generalize upd H30 p31 (.tup [.str (Str.ofString "move"),.str x,.str y]) = H31 at *
  have j163:JdV ps H31 (.ref p31) false:=b_len 2 ((Same.refl _) _ _ g31) rfl (by decide) (by decide +kernel)
  refine ⟨sz (by simp),fun p32 q32=>?_⟩
  have t32:=Same.upd (o:=.lst [.ref p27,.ref p28,.ref p30,.ref p31]) q32
  have g32:upd H31 p32 (.lst [.ref p27,.ref p28,.ref p30,.ref p31]) p32 = some (.lst [.ref p27,.ref p28,.ref p30,.ref p31]):=upd_same
  generalize upd H31 p32 (.lst [.ref p27,.ref p28,.ref p30,.ref p31]) = H32 at *
  refine ⟨p26,p32,xs,_,rfl,rfl,(t27.trans (t28.trans (t29.trans (t30.trans (t31.trans (t32)))))) _ _ hl,g32,sz (by rw [hn]; show 20 + 4 <= 1000; decide),fun p33 q33=>?_⟩
  have t33:=Same.upd (o:=.lst (xs ++ [.ref p27,.ref p28,.ref p30,.ref p31])) q33
  have hlo:H p33 = none:=(sb.trans (t27.trans (t28.trans (t29.trans (t30.trans (t31.trans (t32))))))).free q33
  have A:∃ ys,upd H32 p33 (.lst (xs ++ [.ref p27,.ref p28,.ref p30,.ref p31])) p33 = some (.lst ys) /\ ys.length = 24 /\ ∀ v ∈ ys,JdV ps (upd H32 p33 (.lst (xs ++ [.ref p27,.ref p28,.ref p30,.ref p31]))) v false:=⟨_,upd_same,by rw [List.length_append,hn]; rfl,fun v hv=>(List.mem_append.mp hv).elim (fun h=>(hall v h).same (t27.trans (t28.trans (t29.trans (t30.trans (t31.trans (t32.trans (t33)))))))) (fun h=>(allc (j144.same (t28.trans (t29.trans (t30.trans (t31.trans (t32.trans (t33))))))) (allc (j149.same (t29.trans (t30.trans (t31.trans (t32.trans (t33)))))) (allc (j158.same (t31.trans (t32.trans (t33)))) (allc (j163.same (t32.trans (t33))) (alln))))) v h)⟩
  have g1:=(t27.trans (t28.trans (t29.trans (t30.trans (t31.trans (t32.trans (t33))))))) _ _ g1
  have sb:=sb.trans (t27.trans (t28.trans (t29.trans (t30.trans (t31.trans (t32.trans (t33)))))))
  clear hl hall hn
  generalize upd H32 p33 (.lst (xs ++ [.ref p27,.ref p28,.ref p30,.ref p31])) = H33 at *
  clear xs
  obtain ⟨xs,hl,hn,hall⟩:=A
  refine ⟨_,rfl,_,rfl,sz (by simp),fun p34 q34=>?_⟩
  have t34:=Same.upd (o:=.tup [.int 0,.int 1]) q34
  have g34:upd H33 p34 (.tup [.int 0,.int 1]) p34 = some (.tup [.int 0,.int 1]):=upd_same
  generalize upd H33 p34 (.tup [.int 0,.int 1]) = H34 at *
  refine ⟨sz (by simp),fun p35 q35=>?_⟩
  have t35:=Same.upd (o:=.tup [.str (Str.ofString "bring"),.str (Str.ofString "a"),.str x,.ref p34]) q35
  have g35:upd H34 p35 (.tup [.str (Str.ofString "bring"),.str (Str.ofString "a"),.str x,.ref p34]) p35 = some (.tup [.str (Str.ofString "bring"),.str (Str.ofString "a"),.str x,.ref p34]):=upd_same
  generalize upd H34 p35 (.tup [.str (Str.ofString "bring"),.str (Str.ofString "a"),.str x,.ref p34]) = H35 at *
  have j186:JdV ps H35 (.ref p35) false:=b_form (hf4 (bm:=false) (b:=false) ((Same.refl _) _ _ g35) (by decide +kernel) (wd_str (by decide +kernel)) (wd_str lx) (ms_two (b:=false) ((t35) _ _ g34) (by decide) (by decide) (by decide +kernel)) (by rw [if_pos rfl,show nmV (.str (Str.ofString "a")) = true from by decide +kernel]; rfl))
  refine ⟨_,rfl,sz (by simp),fun p36 q36=>?_⟩
  have t36:=Same.upd (o:=.tup [.int 2,.int 4]) q36
  have g36:upd H35 p36 (.tup [.int 2,.int 4]) p36 = some (.tup [.int 2,.int 4]):=upd_same
  generalize upd H35 p36 (.tup [.int 2,.int 4]) = H36 at *
  refine ⟨sz (by simp),fun p37 q37=>?_⟩
  have t37:=Same.upd (o:=.tup [.str (Str.ofString "bring"),.str (Str.ofString "a"),.str x,.ref p36]) q37
  have g37:upd H36 p37 (.tup [.str (Str.ofString "bring"),.str (Str.ofString "a"),.str x,.ref p36]) p37 = some (.tup [.str (Str.ofString "bring"),.str (Str.ofString "a"),.str x,.ref p36]):=upd_same
  generalize upd H36 p37 (.tup [.str (Str.ofString "bring"),.str (Str.ofString "a"),.str x,.ref p36]) = H37 at *
  have j195:JdV ps H37 (.ref p37) false:=b_form (hf4 (bm:=false) (b:=false) ((Same.refl _) _ _ g37) (by decide +kernel) (wd_str (by decide +kernel)) (wd_str lx) (ms_two (b:=false) ((t37) _ _ g36) (by decide) (by decide) (by decide +kernel)) (by rw [if_pos rfl,show nmV (.str (Str.ofString "a")) = true from by decide +kernel]; rfl))
  refine ⟨_,rfl,sz (by simp),fun p38 q38=>?_⟩
  have t38:=Same.upd (o:=.tup [.str (Str.ofString "bring"),.str (Str.ofString "a"),.str x,.int 1]) q38
  have g38:upd H37 p38 (.tup [.str (Str.ofString "bring"),.str (Str.ofString "a"),.str x,.int 1]) p38 = some (.tup [.str (Str.ofString "bring"),.str (Str.ofString "a"),.str x,.int 1]):=upd_same
  generalize upd H37 p38 (.tup [.str (Str.ofString "bring"),.str (Str.ofString "a"),.str x,.int 1]) = H38 at *
  have j200:JdV ps H38 (.ref p38) false:=b_form (hf4 (bm:=false) (b:=false) ((Same.refl _) _ _ g38) (by decide +kernel) (wd_str (by decide +kernel)) (wd_str lx) (ms_ty (show tyS _ _ = some "int" from rfl) (by decide)) (by rw [if_pos rfl,show nmV (.str (Str.ofString "a")) = true from by decide +kernel]; rfl))
  refine ⟨sz (by simp),fun p39 q39=>?_⟩
  have t39:=Same.upd (o:=.lst [.ref p35,.ref p37,.ref p38]) q39
  have g39:upd H38 p39 (.lst [.ref p35,.ref p37,.ref p38]) p39 = some (.lst [.ref p35,.ref p37,.ref p38]):=upd_same
  generalize upd H38 p39 (.lst [.ref p35,.ref p37,.ref p38]) = H39 at *
  refine ⟨p33,p39,xs,_,rfl,rfl,(t34.trans (t35.trans (t36.trans (t37.trans (t38.trans (t39)))))) _ _ hl,g39,sz (by rw [hn]; show 24 + 3 <= 1000; decide),fun p40 q40=>?_⟩
  have t40:=Same.upd (o:=.lst (xs ++ [.ref p35,.ref p37,.ref p38])) q40
  have hlo:H p40 = none:=(sb.trans (t34.trans (t35.trans (t36.trans (t37.trans (t38.trans (t39))))))).free q40
  have A:∃ ys,upd H39 p40 (.lst (xs ++ [.ref p35,.ref p37,.ref p38])) p40 = some (.lst ys) /\ ys.length = 27 /\ ∀ v ∈ ys,JdV ps (upd H39 p40 (.lst (xs ++ [.ref p35,.ref p37,.ref p38]))) v false:=⟨_,upd_same,by rw [List.length_append,hn]; rfl,fun v hv=>(List.mem_append.mp hv).elim (fun h=>(hall v h).same (t34.trans (t35.trans (t36.trans (t37.trans (t38.trans (t39.trans (t40)))))))) (fun h=>(allc (j186.same (t36.trans (t37.trans (t38.trans (t39.trans (t40)))))) (allc (j195.same (t38.trans (t39.trans (t40)))) (allc (j200.same (t39.trans (t40))) (alln)))) v h)⟩
  have g1:=(t34.trans (t35.trans (t36.trans (t37.trans (t38.trans (t39.trans (t40))))))) _ _ g1
  have sb:=sb.trans (t34.trans (t35.trans (t36.trans (t37.trans (t38.trans (t39.trans (t40)))))))
  clear hl hall hn
  generalize upd H39 p40 (.lst (xs ++ [.ref p35,.ref p37,.ref p38])) = H40 at *
  clear xs
  obtain ⟨xs,hl,hn,hall⟩:=A
  refine ⟨_,rfl,.inl ⟨rfl,_,SqL.of hl⟩,_,rfl,sz (by simp),fun p41 q41=>?_⟩
  have t41:=Same.upd (o:=.lst [.int 1,.int 1]) q41
  have g41:upd H40 p41 (.lst [.int 1,.int 1]) p41 = some (.lst [.int 1,.int 1]):=upd_same
  generalize upd H40 p41 (.lst [.int 1,.int 1]) = H41 at *
  refine ⟨sz (by simp),fun p42 q42=>?_⟩
  have t42:=Same.upd (o:=.tup [.str (Str.ofString "bring"),.str (Str.ofString "a"),.str x,.ref p41]) q42
  have g42:upd H41 p42 (.tup [.str (Str.ofString "bring"),.str (Str.ofString "a"),.str x,.ref p41]) p42 = some (.tup [.str (Str.ofString "bring"),.str (Str.ofString "a"),.str x,.ref p41]):=upd_same
  generalize upd H41 p42 (.tup [.str (Str.ofString "bring"),.str (Str.ofString "a"),.str x,.ref p41]) = H42 at *
  have j223:JdV ps H42 (.ref p42) false:=b_form (hf4 (bm:=false) (b:=false) ((Same.refl _) _ _ g42) (by decide +kernel) (wd_str (by decide +kernel)) (wd_str lx) (ms_ty (show tyS _ _ = some "list" from ty_of ((t42) _ _ g41) rfl) (by decide)) (by rw [if_pos rfl,show nmV (.str (Str.ofString "a")) = true from by decide +kernel]; rfl))
  have hl9:=(t41.trans (t42)) _ _ hl
  refine ⟨p40,xs,_,rfl,rfl,hl9,sz (by rw [hn]; decide),?_⟩
  have u43:Same H (upd H42 p40 (.lst (xs ++ [.ref p42]))):=fun b ob e=>by rw [upd_ne (fun z=>by subst z; rw [hlo] at e; cases e)]; exact (sb.trans (t41.trans (t42))) _ _ e
  have tu:∀ v,JdV ps H42 v false->JdV ps (upd H42 p40 (.lst (xs ++ [.ref p42]))) v false:=fun v h=>jd_keep hl9 h
  have A:∃ ys,upd H42 p40 (.lst (xs ++ [.ref p42])) p40 = some (.lst ys) /\ ys.length = 28 /\ ∀ v ∈ ys,JdV ps (upd H42 p40 (.lst (xs ++ [.ref p42]))) v false:=⟨_,upd_same,by rw [List.length_append,hn]; rfl,fun v hv=>(List.mem_append.mp hv).elim (fun h=>tu v ((hall v h).same (t41.trans (t42)))) (fun h=>tu v ((allc (j223.same (Same.refl _)) (alln)) v h))⟩
  have g1n:upd H42 p40 (.lst (xs ++ [.ref p42])) p1 = some (.tup [.int 1,.int 1]):=by rw [upd_ne (ne_of ((t41.trans (t42)) _ _ g1) hl9 (by intro z; cases z))]; exact (t41.trans (t42)) _ _ g1
  clear hl hall hn sb tu g1
  generalize upd H42 p40 (.lst (xs ++ [.ref p42])) = H43 at *
  have g1:=g1n
  clear hl9 xs
  obtain ⟨xs,hl,hn,hall⟩:=A
  have sb:=u43
  refine ⟨_,rfl,_,rfl,_,rfl,_,rfl,sz (by simp),fun p44 q44=>?_⟩
  have t44:=Same.upd (o:=.tup [.str (Str.ofString "move"),.str x,.str x,.ref p1]) q44
  have g44:upd H43 p44 (.tup [.str (Str.ofString "move"),.str x,.str x,.ref p1]) p44 = some (.tup [.str (Str.ofString "move"),.str x,.str x,.ref p1]):=upd_same
  generalize upd H43 p44 (.tup [.str (Str.ofString "move"),.str x,.str x,.ref p1]) = H44 at *
  have j240:JdV ps H44 (.ref p44) false:=b_plc (hf4 (bm:=true) (b:=true) ((Same.refl _) _ _ g44) (by decide +kernel) (wd_str lx) (wd_str lx) (ms_two (b:=true) ((t44) _ _ g1) (by decide) (by decide) (by decide +kernel)) (by rw [if_neg (by decide +kernel)]; rfl)) (p_two ((Same.refl _) _ _ g44) wk_move) (sh2 lx lx) (j_cc kx _)
  refine ⟨_,rfl,_,rfl,_,rfl,sz (by simp),fun p45 q45=>?_⟩
  have t45:=Same.upd (o:=.tup [.str (Str.ofString "move"),.str s,.str x,.ref p1]) q45
  have g45:upd H44 p45 (.tup [.str (Str.ofString "move"),.str s,.str x,.ref p1]) p45 = some (.tup [.str (Str.ofString "move"),.str s,.str x,.ref p1]):=upd_same
  generalize upd H44 p45 (.tup [.str (Str.ofString "move"),.str s,.str x,.ref p1]) = H45 at *
  have j245:JdV ps H45 (.ref p45) false:=b_plc (hf4 (bm:=true) (b:=true) ((Same.refl _) _ _ g45) (by decide +kernel) (wd_str ls) (wd_str lx) (ms_two (b:=true) ((t44.trans (t45)) _ _ g1) (by decide) (by decide) (by decide +kernel)) (by rw [if_neg (by decide +kernel)]; rfl)) (p_two ((Same.refl _) _ _ g45) wk_move) (sh2 ls lx) (j_sk ks _)
  refine ⟨_,rfl,_,rfl,_,rfl,sz (by simp),fun p46 q46=>?_⟩
  have t46:=Same.upd (o:=.tup [.int (-1),.int 1]) q46
  have g46:upd H45 p46 (.tup [.int (-1),.int 1]) p46 = some (.tup [.int (-1),.int 1]):=upd_same
  generalize upd H45 p46 (.tup [.int (-1),.int 1]) = H46 at *
  refine ⟨sz (by simp),fun p47 q47=>?_⟩
  have t47:=Same.upd (o:=.tup [.str (Str.ofString "move"),.str x,.str y,.ref p46]) q47
  have g47:upd H46 p47 (.tup [.str (Str.ofString "move"),.str x,.str y,.ref p46]) p47 = some (.tup [.str (Str.ofString "move"),.str x,.str y,.ref p46]):=upd_same
  generalize upd H46 p47 (.tup [.str (Str.ofString "move"),.str x,.str y,.ref p46]) = H47 at *
  have j254:JdV ps H47 (.ref p47) false:=b_form (hf4 (bm:=false) (b:=false) ((Same.refl _) _ _ g47) (by decide +kernel) (wd_str lx) (wd_str ly) (ms_two (b:=false) ((t47) _ _ g46) (by decide) (by decide) (by decide +kernel)) (by rw [if_neg (by decide +kernel)]; rfl))
  refine ⟨_,rfl,_,rfl,sz (by simp),fun p48 q48=>?_⟩
  have t48:=Same.upd (o:=.tup [.int 1,.int 0]) q48
  have g48:upd H47 p48 (.tup [.int 1,.int 0]) p48 = some (.tup [.int 1,.int 0]):=upd_same
  generalize upd H47 p48 (.tup [.int 1,.int 0]) = H48 at *
  refine ⟨sz (by simp),fun p49 q49=>?_⟩
  have t49:=Same.upd (o:=.tup [.str (Str.ofString "move"),.str x,.str y,.ref p48]) q49
  have g49:upd H48 p49 (.tup [.str (Str.ofString "move"),.str x,.str y,.ref p48]) p49 = some (.tup [.str (Str.ofString "move"),.str x,.str y,.ref p48]):=upd_same
  generalize upd H48 p49 (.tup [.str (Str.ofString "move"),.str x,.str y,.ref p48]) = H49 at *
  have j263:JdV ps H49 (.ref p49) false:=b_form (hf4 (bm:=false) (b:=false) ((Same.refl _) _ _ g49) (by decide +kernel) (wd_str lx) (wd_str ly) (ms_two (b:=false) ((t49) _ _ g48) (by decide) (by decide) (by decide +kernel)) (by rw [if_neg (by decide +kernel)]; rfl))
  refine ⟨sz (by simp),fun p50 q50=>?_⟩
  have t50:=Same.upd (o:=.lst [.ref p44,.ref p45,.ref p47,.ref p49]) q50
  have g50:upd H49 p50 (.lst [.ref p44,.ref p45,.ref p47,.ref p49]) p50 = some (.lst [.ref p44,.ref p45,.ref p47,.ref p49]):=upd_same
  generalize upd H49 p50 (.lst [.ref p44,.ref p45,.ref p47,.ref p49]) = H50 at *
  refine ⟨p40,p50,xs,_,rfl,rfl,(t44.trans (t45.trans (t46.trans (t47.trans (t48.trans (t49.trans (t50))))))) _ _ hl,g50,sz (by rw [hn]; show 28 + 4 <= 1000; decide),fun p51 q51=>?_⟩
  have t51:=Same.upd (o:=.lst (xs ++ [.ref p44,.ref p45,.ref p47,.ref p49])) q51
  have hlo:H p51 = none:=(sb.trans (t44.trans (t45.trans (t46.trans (t47.trans (t48.trans (t49.trans (t50)))))))).free q51
  have A:∃ ys,upd H50 p51 (.lst (xs ++ [.ref p44,.ref p45,.ref p47,.ref p49])) p51 = some (.lst ys) /\ ys.length = 32 /\ ∀ v ∈ ys,JdV ps (upd H50 p51 (.lst (xs ++ [.ref p44,.ref p45,.ref p47,.ref p49]))) v false:=⟨_,upd_same,by rw [List.length_append,hn]; rfl,fun v hv=>(List.mem_append.mp hv).elim (fun h=>(hall v h).same (t44.trans (t45.trans (t46.trans (t47.trans (t48.trans (t49.trans (t50.trans (t51))))))))) (fun h=>(allc (j240.same (t45.trans (t46.trans (t47.trans (t48.trans (t49.trans (t50.trans (t51)))))))) (allc (j245.same (t46.trans (t47.trans (t48.trans (t49.trans (t50.trans (t51))))))) (allc (j254.same (t48.trans (t49.trans (t50.trans (t51))))) (allc (j263.same (t50.trans (t51))) (alln))))) v h)⟩
  have g1:=(t44.trans (t45.trans (t46.trans (t47.trans (t48.trans (t49.trans (t50.trans (t51)))))))) _ _ g1
  have sb:=sb.trans (t44.trans (t45.trans (t46.trans (t47.trans (t48.trans (t49.trans (t50.trans (t51))))))))
  clear hl hall hn
  generalize upd H50 p51 (.lst (xs ++ [.ref p44,.ref p45,.ref p47,.ref p49])) = H51 at *
  clear xs
  obtain ⟨xs,hl,hn,hall⟩:=A
  refine ⟨_,rfl,_,rfl,_,rfl,sz (by simp),fun p52 q52=>?_⟩
  have t52:=Same.upd (o:=.tup [.int 3,.int 2]) q52
  have g52:upd H51 p52 (.tup [.int 3,.int 2]) p52 = some (.tup [.int 3,.int 2]):=upd_same
  generalize upd H51 p52 (.tup [.int 3,.int 2]) = H52 at *
  refine ⟨sz (by simp),fun p53 q53=>?_⟩
  have t53:=Same.upd (o:=.tup [.str (Str.ofString "part"),.str x,.str y,.ref p52]) q53
  have g53:upd H52 p53 (.tup [.str (Str.ofString "part"),.str x,.str y,.ref p52]) p53 = some (.tup [.str (Str.ofString "part"),.str x,.str y,.ref p52]):=upd_same
  generalize upd H52 p53 (.tup [.str (Str.ofString "part"),.str x,.str y,.ref p52]) = H53 at *
  have j286:JdV ps H53 (.ref p53) false:=b_form (hf4 (bm:=false) (b:=false) ((Same.refl _) _ _ g53) (by decide +kernel) (wd_str lx) (wd_str ly) (ms_two (b:=false) ((t53) _ _ g52) (by decide) (by decide) (by decide +kernel)) (by rw [if_neg (by decide +kernel)]; rfl))
  refine ⟨_,rfl,_,rfl,_,rfl,sz (by simp),fun p54 q54=>?_⟩
  have t54:=Same.upd (o:=.tup [.int (-1),.int 2]) q54
  have g54:upd H53 p54 (.tup [.int (-1),.int 2]) p54 = some (.tup [.int (-1),.int 2]):=upd_same
  generalize upd H53 p54 (.tup [.int (-1),.int 2]) = H54 at *
  refine ⟨sz (by simp),fun p55 q55=>?_⟩
  have t55:=Same.upd (o:=.tup [.str (Str.ofString "part"),.str x,.str y,.ref p54]) q55
  have g55:upd H54 p55 (.tup [.str (Str.ofString "part"),.str x,.str y,.ref p54]) p55 = some (.tup [.str (Str.ofString "part"),.str x,.str y,.ref p54]):=upd_same
  generalize upd H54 p55 (.tup [.str (Str.ofString "part"),.str x,.str y,.ref p54]) = H55 at *
  have j295:JdV ps H55 (.ref p55) false:=b_form (hf4 (bm:=false) (b:=false) ((Same.refl _) _ _ g55) (by decide +kernel) (wd_str lx) (wd_str ly) (ms_two (b:=false) ((t55) _ _ g54) (by decide) (by decide) (by decide +kernel)) (by rw [if_neg (by decide +kernel)]; rfl))
  refine ⟨_,rfl,_,rfl,sz (by simp),fun p56 q56=>?_⟩
  have t56:=Same.upd (o:=.tup [.str (Str.ofString "part"),.str x,.str y,.non]) q56
  have g56:upd H55 p56 (.tup [.str (Str.ofString "part"),.str x,.str y,.non]) p56 = some (.tup [.str (Str.ofString "part"),.str x,.str y,.non]):=upd_same
  generalize upd H55 p56 (.tup [.str (Str.ofString "part"),.str x,.str y,.non]) = H56 at *
  have j300:JdV ps H56 (.ref p56) false:=b_form (hf4 (bm:=false) (b:=false) ((Same.refl _) _ _ g56) (by decide +kernel) (wd_str lx) (wd_str ly) (ms_ty (show tyS _ _ = some "NoneType" from rfl) (by decide)) (by rw [if_neg (by decide +kernel)]; rfl))
  refine ⟨_,rfl,_,rfl,sz (by simp),fun p57 q57=>?_⟩
  have t57:=Same.upd (o:=.tup [.bl true,.int 1]) q57
  have g57:upd H56 p57 (.tup [.bl true,.int 1]) p57 = some (.tup [.bl true,.int 1]):=upd_same
  generalize upd H56 p57 (.tup [.bl true,.int 1]) = H57 at *
  refine ⟨sz (by simp),fun p58 q58=>?_⟩
  have t58:=Same.upd (o:=.tup [.str (Str.ofString "part"),.str x,.str y,.ref p57]) q58
  have g58:upd H57 p58 (.tup [.str (Str.ofString "part"),.str x,.str y,.ref p57]) p58 = some (.tup [.str (Str.ofString "part"),.str x,.str y,.ref p57]):=upd_same
  generalize upd H57 p58 (.tup [.str (Str.ofString "part"),.str x,.str y,.ref p57]) = H58 at *
  have j309:JdV ps H58 (.ref p58) false:=b_form (hf4 (bm:=false) (b:=false) ((Same.refl _) _ _ g58) (by decide +kernel) (wd_str lx) (wd_str ly) (ms_bl ((t58) _ _ g57)) (by rw [if_neg (by decide +kernel)]; rfl))
  refine ⟨sz (by simp),fun p59 q59=>?_⟩
  have t59:=Same.upd (o:=.lst [.ref p53,.ref p55,.ref p56,.ref p58]) q59
  have g59:upd H58 p59 (.lst [.ref p53,.ref p55,.ref p56,.ref p58]) p59 = some (.lst [.ref p53,.ref p55,.ref p56,.ref p58]):=upd_same
  generalize upd H58 p59 (.lst [.ref p53,.ref p55,.ref p56,.ref p58]) = H59 at *
  refine ⟨p51,p59,xs,_,rfl,rfl,(t52.trans (t53.trans (t54.trans (t55.trans (t56.trans (t57.trans (t58.trans (t59)))))))) _ _ hl,g59,sz (by rw [hn]; show 32 + 4 <= 1000; decide),fun p60 q60=>?_⟩
  have t60:=Same.upd (o:=.lst (xs ++ [.ref p53,.ref p55,.ref p56,.ref p58])) q60
  have hlo:H p60 = none:=(sb.trans (t52.trans (t53.trans (t54.trans (t55.trans (t56.trans (t57.trans (t58.trans (t59))))))))).free q60
  have A:∃ ys,upd H59 p60 (.lst (xs ++ [.ref p53,.ref p55,.ref p56,.ref p58])) p60 = some (.lst ys) /\ ys.length = 36 /\ ∀ v ∈ ys,JdV ps (upd H59 p60 (.lst (xs ++ [.ref p53,.ref p55,.ref p56,.ref p58]))) v false:=⟨_,upd_same,by rw [List.length_append,hn]; rfl,fun v hv=>(List.mem_append.mp hv).elim (fun h=>(hall v h).same (t52.trans (t53.trans (t54.trans (t55.trans (t56.trans (t57.trans (t58.trans (t59.trans (t60)))))))))) (fun h=>(allc (j286.same (t54.trans (t55.trans (t56.trans (t57.trans (t58.trans (t59.trans (t60)))))))) (allc (j295.same (t56.trans (t57.trans (t58.trans (t59.trans (t60)))))) (allc (j300.same (t57.trans (t58.trans (t59.trans (t60))))) (allc (j309.same (t59.trans (t60))) (alln))))) v h)⟩
  have g1:=(t52.trans (t53.trans (t54.trans (t55.trans (t56.trans (t57.trans (t58.trans (t59.trans (t60))))))))) _ _ g1
  have sb:=sb.trans (t52.trans (t53.trans (t54.trans (t55.trans (t56.trans (t57.trans (t58.trans (t59.trans (t60)))))))))
  clear hl hall hn
  generalize upd H59 p60 (.lst (xs ++ [.ref p53,.ref p55,.ref p56,.ref p58])) = H60 at *
  clear xs
  obtain ⟨xs,hl,hn,hall⟩:=A
  refine ⟨_,rfl,_,rfl,sz (by simp),fun p61 q61=>?_⟩
  have t61:=Same.upd (o:=.tup [.str (Str.ofString "all"),.str x]) q61
  have g61:upd H60 p61 (.tup [.str (Str.ofString "all"),.str x]) p61 = some (.tup [.str (Str.ofString "all"),.str x]):=upd_same
  generalize upd H60 p61 (.tup [.str (Str.ofString "all"),.str x]) = H61 at *
  have j328:JdV ps H61 (.ref p61) false:=b_len 1 ((Same.refl _) _ _ g61) rfl (by decide) (by decide +kernel)
  refine ⟨_,rfl,_,rfl,_,rfl,sz (by simp),fun p62 q62=>?_⟩
  have t62:=Same.upd (o:=.tup [.str (Str.ofString "all"),.str x,.str y,.ref p1]) q62
  have g62:upd H61 p62 (.tup [.str (Str.ofString "all"),.str x,.str y,.ref p1]) p62 = some (.tup [.str (Str.ofString "all"),.str x,.str y,.ref p1]):=upd_same
  generalize upd H61 p62 (.tup [.str (Str.ofString "all"),.str x,.str y,.ref p1]) = H62 at *
  have j333:JdV ps H62 (.ref p62) false:=b_len 3 ((Same.refl _) _ _ g62) rfl (by decide) (by decide +kernel)
  refine ⟨_,rfl,_,rfl,sz (by simp),fun p63 q63=>?_⟩
  have t63:=Same.upd (o:=.tup [.str (Str.ofString "fill"),.str x,.str s]) q63
  have g63:upd H62 p63 (.tup [.str (Str.ofString "fill"),.str x,.str s]) p63 = some (.tup [.str (Str.ofString "fill"),.str x,.str s]):=upd_same
  generalize upd H62 p63 (.tup [.str (Str.ofString "fill"),.str x,.str s]) = H63 at *
  have j338:JdV ps H63 (.ref p63) false:=b_plc (hf3 (b:=true) ((Same.refl _) _ _ g63) (by decide +kernel) (by decide +kernel) (wd_str lx) (wd_str ls) rfl) (p_two ((Same.refl _) _ _ g63) wk_fill) (sh2 lx ls) (j_cs kx ks (by decide))
  refine ⟨_,rfl,_,rfl,sz (by simp),fun p64 q64=>?_⟩
  have t64:=Same.upd (o:=.tup [.str (Str.ofString "fill"),.str x,.str (Str.ofString "A"),.ref p1]) q64
  have g64:upd H63 p64 (.tup [.str (Str.ofString "fill"),.str x,.str (Str.ofString "A"),.ref p1]) p64 = some (.tup [.str (Str.ofString "fill"),.str x,.str (Str.ofString "A"),.ref p1]):=upd_same
  generalize upd H63 p64 (.tup [.str (Str.ofString "fill"),.str x,.str (Str.ofString "A"),.ref p1]) = H64 at *
  have j343:JdV ps H64 (.ref p64) false:=b_len 3 ((Same.refl _) _ _ g64) rfl (by decide) (by decide +kernel)
  refine ⟨sz (by simp),fun p65 q65=>?_⟩
  have t65:=Same.upd (o:=.lst [.ref p61,.ref p62,.ref p63,.ref p64]) q65
  have g65:upd H64 p65 (.lst [.ref p61,.ref p62,.ref p63,.ref p64]) p65 = some (.lst [.ref p61,.ref p62,.ref p63,.ref p64]):=upd_same
  generalize upd H64 p65 (.lst [.ref p61,.ref p62,.ref p63,.ref p64]) = H65 at *
  refine ⟨p60,p65,xs,_,rfl,rfl,(t61.trans (t62.trans (t63.trans (t64.trans (t65))))) _ _ hl,g65,sz (by rw [hn]; show 36 + 4 <= 1000; decide),fun p66 q66=>?_⟩
  have t66:=Same.upd (o:=.lst (xs ++ [.ref p61,.ref p62,.ref p63,.ref p64])) q66
  have hlo:H p66 = none:=(sb.trans (t61.trans (t62.trans (t63.trans (t64.trans (t65)))))).free q66
  have A:∃ ys,upd H65 p66 (.lst (xs ++ [.ref p61,.ref p62,.ref p63,.ref p64])) p66 = some (.lst ys) /\ ys.length = 40 /\ ∀ v ∈ ys,JdV ps (upd H65 p66 (.lst (xs ++ [.ref p61,.ref p62,.ref p63,.ref p64]))) v false:=⟨_,upd_same,by rw [List.length_append,hn]; rfl,fun v hv=>(List.mem_append.mp hv).elim (fun h=>(hall v h).same (t61.trans (t62.trans (t63.trans (t64.trans (t65.trans (t66))))))) (fun h=>(allc (j328.same (t62.trans (t63.trans (t64.trans (t65.trans (t66)))))) (allc (j333.same (t63.trans (t64.trans (t65.trans (t66))))) (allc (j338.same (t64.trans (t65.trans (t66)))) (allc (j343.same (t65.trans (t66))) (alln))))) v h)⟩
  have g1:=(t61.trans (t62.trans (t63.trans (t64.trans (t65.trans (t66)))))) _ _ g1
  have sb:=sb.trans (t61.trans (t62.trans (t63.trans (t64.trans (t65.trans (t66))))))
  clear hl hall hn
  generalize upd H65 p66 (.lst (xs ++ [.ref p61,.ref p62,.ref p63,.ref p64])) = H66 at *
  clear xs
  obtain ⟨xs,hl,hn,hall⟩:=A
  refine ⟨_,rfl,_,rfl,_,rfl,sz (by simp),fun p67 q67=>?_⟩
  have t67:=Same.upd (o:=.tup [.int 1,.int 2]) q67
  have g67:upd H66 p67 (.tup [.int 1,.int 2]) p67 = some (.tup [.int 1,.int 2]):=upd_same
  generalize upd H66 p67 (.tup [.int 1,.int 2]) = H67 at *
  refine ⟨sz (by simp),fun p68 q68=>?_⟩
  have t68:=Same.upd (o:=.tup [.str (Str.ofString "part"),.str x,.str x,.ref p67]) q68
  have g68:upd H67 p68 (.tup [.str (Str.ofString "part"),.str x,.str x,.ref p67]) p68 = some (.tup [.str (Str.ofString "part"),.str x,.str x,.ref p67]):=upd_same
  generalize upd H67 p68 (.tup [.str (Str.ofString "part"),.str x,.str x,.ref p67]) = H68 at *
  have j366:JdV ps H68 (.ref p68) false:=b_plc (hf4 (bm:=true) (b:=true) ((Same.refl _) _ _ g68) (by decide +kernel) (wd_str lx) (wd_str lx) (ms_two (b:=true) ((t68) _ _ g67) (by decide) (by decide) (by decide +kernel)) (by rw [if_neg (by decide +kernel)]; rfl)) (p_two ((Same.refl _) _ _ g68) wk_part) (sh2 lx lx) (j_cc kx _)
  refine ⟨_,rfl,_,rfl,sz (by simp),fun p69 q69=>?_⟩
  have t69:=Same.upd (o:=.tup [.str (Str.ofString "all"),.str x,.str x]) q69
  have g69:upd H68 p69 (.tup [.str (Str.ofString "all"),.str x,.str x]) p69 = some (.tup [.str (Str.ofString "all"),.str x,.str x]):=upd_same
  generalize upd H68 p69 (.tup [.str (Str.ofString "all"),.str x,.str x]) = H69 at *
  have j371:JdV ps H69 (.ref p69) false:=b_plc (hf3 (b:=true) ((Same.refl _) _ _ g69) (by decide +kernel) (by decide +kernel) (wd_str lx) (wd_str lx) rfl) (p_two ((Same.refl _) _ _ g69) wk_all) (sh2 lx lx) (j_cc kx _)
  refine ⟨_,rfl,_,rfl,sz (by simp),fun p70 q70=>?_⟩
  have t70:=Same.upd (o:=.tup [.str (Str.ofString "fill"),.str x,.str x]) q70
  have g70:upd H69 p70 (.tup [.str (Str.ofString "fill"),.str x,.str x]) p70 = some (.tup [.str (Str.ofString "fill"),.str x,.str x]):=upd_same
  generalize upd H69 p70 (.tup [.str (Str.ofString "fill"),.str x,.str x]) = H70 at *
  have j376:JdV ps H70 (.ref p70) false:=b_plc (hf3 (b:=true) ((Same.refl _) _ _ g70) (by decide +kernel) (by decide +kernel) (wd_str lx) (wd_str lx) rfl) (p_two ((Same.refl _) _ _ g70) wk_fill) (sh2 lx lx) (j_cc kx _)
  refine ⟨_,rfl,_,rfl,sz (by simp),fun p71 q71=>?_⟩
  have t71:=Same.upd (o:=.tup [.int 1,.int 2]) q71
  have g71:upd H70 p71 (.tup [.int 1,.int 2]) p71 = some (.tup [.int 1,.int 2]):=upd_same
  generalize upd H70 p71 (.tup [.int 1,.int 2]) = H71 at *
  refine ⟨sz (by simp),fun p72 q72=>?_⟩
  have t72:=Same.upd (o:=.tup [.str (Str.ofString "part"),.str s,.str x,.ref p71]) q72
  have g72:upd H71 p72 (.tup [.str (Str.ofString "part"),.str s,.str x,.ref p71]) p72 = some (.tup [.str (Str.ofString "part"),.str s,.str x,.ref p71]):=upd_same
  generalize upd H71 p72 (.tup [.str (Str.ofString "part"),.str s,.str x,.ref p71]) = H72 at *
  have j385:JdV ps H72 (.ref p72) false:=b_plc (hf4 (bm:=true) (b:=true) ((Same.refl _) _ _ g72) (by decide +kernel) (wd_str ls) (wd_str lx) (ms_two (b:=true) ((t72) _ _ g71) (by decide) (by decide) (by decide +kernel)) (by rw [if_neg (by decide +kernel)]; rfl)) (p_two ((Same.refl _) _ _ g72) wk_part) (sh2 ls lx) (j_sk ks _)
  refine ⟨sz (by simp),fun p73 q73=>?_⟩
  have t73:=Same.upd (o:=.lst [.ref p68,.ref p69,.ref p70,.ref p72]) q73
  have g73:upd H72 p73 (.lst [.ref p68,.ref p69,.ref p70,.ref p72]) p73 = some (.lst [.ref p68,.ref p69,.ref p70,.ref p72]):=upd_same
  generalize upd H72 p73 (.lst [.ref p68,.ref p69,.ref p70,.ref p72]) = H73 at *
  refine ⟨p66,p73,xs,_,rfl,rfl,(t67.trans (t68.trans (t69.trans (t70.trans (t71.trans (t72.trans (t73))))))) _ _ hl,g73,sz (by rw [hn]; show 40 + 4 <= 1000; decide),fun p74 q74=>?_⟩
  have t74:=Same.upd (o:=.lst (xs ++ [.ref p68,.ref p69,.ref p70,.ref p72])) q74
  have hlo:H p74 = none:=(sb.trans (t67.trans (t68.trans (t69.trans (t70.trans (t71.trans (t72.trans (t73)))))))).free q74
  have A:∃ ys,upd H73 p74 (.lst (xs ++ [.ref p68,.ref p69,.ref p70,.ref p72])) p74 = some (.lst ys) /\ ys.length = 44 /\ ∀ v ∈ ys,JdV ps (upd H73 p74 (.lst (xs ++ [.ref p68,.ref p69,.ref p70,.ref p72]))) v false:=⟨_,upd_same,by rw [List.length_append,hn]; rfl,fun v hv=>(List.mem_append.mp hv).elim (fun h=>(hall v h).same (t67.trans (t68.trans (t69.trans (t70.trans (t71.trans (t72.trans (t73.trans (t74))))))))) (fun h=>(allc (j366.same (t69.trans (t70.trans (t71.trans (t72.trans (t73.trans (t74))))))) (allc (j371.same (t70.trans (t71.trans (t72.trans (t73.trans (t74)))))) (allc (j376.same (t71.trans (t72.trans (t73.trans (t74))))) (allc (j385.same (t73.trans (t74))) (alln))))) v h)⟩
  have g1:=(t67.trans (t68.trans (t69.trans (t70.trans (t71.trans (t72.trans (t73.trans (t74)))))))) _ _ g1
  have sb:=sb.trans (t67.trans (t68.trans (t69.trans (t70.trans (t71.trans (t72.trans (t73.trans (t74))))))))
  clear hl hall hn
  generalize upd H73 p74 (.lst (xs ++ [.ref p68,.ref p69,.ref p70,.ref p72])) = H74 at *
  clear xs
  obtain ⟨xs,hl,hn,hall⟩:=A
  refine ⟨_,rfl,_,rfl,_,rfl,sz (by simp),fun p75 q75=>?_⟩
  have t75:=Same.upd (o:=.tup [.str (Str.ofString "all"),.str s,.str x]) q75
  have g75:upd H74 p75 (.tup [.str (Str.ofString "all"),.str s,.str x]) p75 = some (.tup [.str (Str.ofString "all"),.str s,.str x]):=upd_same
  generalize upd H74 p75 (.tup [.str (Str.ofString "all"),.str s,.str x]) = H75 at *
  have j404:JdV ps H75 (.ref p75) false:=b_plc (hf3 (b:=true) ((Same.refl _) _ _ g75) (by decide +kernel) (by decide +kernel) (wd_str ls) (wd_str lx) rfl) (p_two ((Same.refl _) _ _ g75) wk_all) (sh2 ls lx) (j_sk ks _)
  refine ⟨_,rfl,_,rfl,sz (by simp),fun p76 q76=>?_⟩
  have t76:=Same.upd (o:=.tup [.str (Str.ofString "fill"),.str s,.str x]) q76
  have g76:upd H75 p76 (.tup [.str (Str.ofString "fill"),.str s,.str x]) p76 = some (.tup [.str (Str.ofString "fill"),.str s,.str x]):=upd_same
  generalize upd H75 p76 (.tup [.str (Str.ofString "fill"),.str s,.str x]) = H76 at *
  have j409:JdV ps H76 (.ref p76) false:=b_plc (hf3 (b:=true) ((Same.refl _) _ _ g76) (by decide +kernel) (by decide +kernel) (wd_str ls) (wd_str lx) rfl) (p_two ((Same.refl _) _ _ g76) wk_fill) (sh2 ls lx) (j_sk ks _)
  refine ⟨_,rfl,_,rfl,sz (by simp),fun p77 q77=>?_⟩
  have t77:=Same.upd (o:=.tup [.str (Str.ofString "move"),.int 5,.str x,.ref p1]) q77
  have g77:upd H76 p77 (.tup [.str (Str.ofString "move"),.int 5,.str x,.ref p1]) p77 = some (.tup [.str (Str.ofString "move"),.int 5,.str x,.ref p1]):=upd_same
  generalize upd H76 p77 (.tup [.str (Str.ofString "move"),.int 5,.str x,.ref p1]) = H77 at *
  have j414:JdV ps H77 (.ref p77) false:=b_form (hf4 (bm:=true) (b:=false) ((Same.refl _) _ _ g77) (by decide +kernel) (wd_no (show tyS _ _ = some "int" from rfl) rfl) (wd_str lx) (ms_two (b:=true) ((t75.trans (t76.trans (t77))) _ _ g1) (by decide) (by decide) (by decide +kernel)) (by rw [if_neg (by decide +kernel)]; rfl))
  refine ⟨_,rfl,sz (by simp),fun p78 q78=>?_⟩
  have t78:=Same.upd (o:=.tup [.int 1,.int 2]) q78
  have g78:upd H77 p78 (.tup [.int 1,.int 2]) p78 = some (.tup [.int 1,.int 2]):=upd_same
  generalize upd H77 p78 (.tup [.int 1,.int 2]) = H78 at *
  refine ⟨sz (by simp),fun p79 q79=>?_⟩
  have t79:=Same.upd (o:=.tup [.str (Str.ofString "part"),.str x,.non,.ref p78]) q79
  have g79:upd H78 p79 (.tup [.str (Str.ofString "part"),.str x,.non,.ref p78]) p79 = some (.tup [.str (Str.ofString "part"),.str x,.non,.ref p78]):=upd_same
  generalize upd H78 p79 (.tup [.str (Str.ofString "part"),.str x,.non,.ref p78]) = H79 at *
  have j423:JdV ps H79 (.ref p79) false:=b_form (hf4 (bm:=true) (b:=false) ((Same.refl _) _ _ g79) (by decide +kernel) (wd_str lx) (wd_no (show tyS _ _ = some "NoneType" from rfl) rfl) (ms_two (b:=true) ((t79) _ _ g78) (by decide) (by decide) (by decide +kernel)) (by rw [if_neg (by decide +kernel)]; rfl))
  refine ⟨sz (by simp),fun p80 q80=>?_⟩
  have t80:=Same.upd (o:=.lst [.ref p75,.ref p76,.ref p77,.ref p79]) q80
  have g80:upd H79 p80 (.lst [.ref p75,.ref p76,.ref p77,.ref p79]) p80 = some (.lst [.ref p75,.ref p76,.ref p77,.ref p79]):=upd_same
  generalize upd H79 p80 (.lst [.ref p75,.ref p76,.ref p77,.ref p79]) = H80 at *
  refine ⟨p74,p80,xs,_,rfl,rfl,(t75.trans (t76.trans (t77.trans (t78.trans (t79.trans (t80)))))) _ _ hl,g80,sz (by rw [hn]; show 44 + 4 <= 1000; decide),fun p81 q81=>?_⟩
  have t81:=Same.upd (o:=.lst (xs ++ [.ref p75,.ref p76,.ref p77,.ref p79])) q81
  have hlo:H p81 = none:=(sb.trans (t75.trans (t76.trans (t77.trans (t78.trans (t79.trans (t80))))))).free q81
  have A:∃ ys,upd H80 p81 (.lst (xs ++ [.ref p75,.ref p76,.ref p77,.ref p79])) p81 = some (.lst ys) /\ ys.length = 48 /\ ∀ v ∈ ys,JdV ps (upd H80 p81 (.lst (xs ++ [.ref p75,.ref p76,.ref p77,.ref p79]))) v false:=⟨_,upd_same,by rw [List.length_append,hn]; rfl,fun v hv=>(List.mem_append.mp hv).elim (fun h=>(hall v h).same (t75.trans (t76.trans (t77.trans (t78.trans (t79.trans (t80.trans (t81)))))))) (fun h=>(allc (j404.same (t76.trans (t77.trans (t78.trans (t79.trans (t80.trans (t81))))))) (allc (j409.same (t77.trans (t78.trans (t79.trans (t80.trans (t81)))))) (allc (j414.same (t78.trans (t79.trans (t80.trans (t81))))) (allc (j423.same (t80.trans (t81))) (alln))))) v h)⟩
  have g1:=(t75.trans (t76.trans (t77.trans (t78.trans (t79.trans (t80.trans (t81))))))) _ _ g1
  have sb:=sb.trans (t75.trans (t76.trans (t77.trans (t78.trans (t79.trans (t80.trans (t81)))))))
  clear hl hall hn
  generalize upd H80 p81 (.lst (xs ++ [.ref p75,.ref p76,.ref p77,.ref p79])) = H81 at *
  clear xs
  obtain ⟨xs,hl,hn,hall⟩:=A
  refine ⟨_,rfl,_,rfl,sz (by simp),fun p82 q82=>?_⟩
  have t82:=Same.upd (o:=.lst [.str x]) q82
  have g82:upd H81 p82 (.lst [.str x]) p82 = some (.lst [.str x]):=upd_same
  generalize upd H81 p82 (.lst [.str x]) = H82 at *
  refine ⟨_,rfl,sz (by simp),fun p83 q83=>?_⟩
  have t83:=Same.upd (o:=.tup [.str (Str.ofString "all"),.ref p82,.str y]) q83
  have g83:upd H82 p83 (.tup [.str (Str.ofString "all"),.ref p82,.str y]) p83 = some (.tup [.str (Str.ofString "all"),.ref p82,.str y]):=upd_same
  generalize upd H82 p83 (.tup [.str (Str.ofString "all"),.ref p82,.str y]) = H83 at *
  have j446:JdV ps H83 (.ref p83) false:=b_form (hf3 (b:=false) ((Same.refl _) _ _ g83) (by decide +kernel) (by decide +kernel) (wd_no (show tyS _ _ = some "list" from ty_of ((t83) _ _ g82) rfl) rfl) (wd_str ly) rfl)
  refine ⟨_,rfl,_,rfl,_,rfl,_,rfl,sz (by simp),fun p84 q84=>?_⟩
  have t84:=Same.upd (o:=.tup [.int (-1),.int (-1)]) q84
  have g84:upd H83 p84 (.tup [.int (-1),.int (-1)]) p84 = some (.tup [.int (-1),.int (-1)]):=upd_same
  generalize upd H83 p84 (.tup [.int (-1),.int (-1)]) = H84 at *
  refine ⟨sz (by simp),fun p85 q85=>?_⟩
  have t85:=Same.upd (o:=.tup [.str (Str.ofString "move"),.str x,.str y,.ref p84]) q85
  have g85:upd H84 p85 (.tup [.str (Str.ofString "move"),.str x,.str y,.ref p84]) p85 = some (.tup [.str (Str.ofString "move"),.str x,.str y,.ref p84]):=upd_same
  generalize upd H84 p85 (.tup [.str (Str.ofString "move"),.str x,.str y,.ref p84]) = H85 at *
  have j455:JdV ps H85 (.ref p85) false:=b_form (hf4 (bm:=false) (b:=false) ((Same.refl _) _ _ g85) (by decide +kernel) (wd_str lx) (wd_str ly) (ms_two (b:=false) ((t85) _ _ g84) (by decide) (by decide) (by decide +kernel)) (by rw [if_neg (by decide +kernel)]; rfl))
  refine ⟨_,rfl,_,rfl,sz (by simp),fun p86 q86=>?_⟩
  have t86:=Same.upd (o:=.tup [.int 2,.int 4]) q86
  have g86:upd H85 p86 (.tup [.int 2,.int 4]) p86 = some (.tup [.int 2,.int 4]):=upd_same
  generalize upd H85 p86 (.tup [.int 2,.int 4]) = H86 at *
  refine ⟨sz (by simp),fun p87 q87=>?_⟩
  have t87:=Same.upd (o:=.tup [.str (Str.ofString "part"),.str x,.str y,.ref p86]) q87
  have g87:upd H86 p87 (.tup [.str (Str.ofString "part"),.str x,.str y,.ref p86]) p87 = some (.tup [.str (Str.ofString "part"),.str x,.str y,.ref p86]):=upd_same
  generalize upd H86 p87 (.tup [.str (Str.ofString "part"),.str x,.str y,.ref p86]) = H87 at *
  have j464:JdV ps H87 (.ref p87) false:=b_form (hf4 (bm:=false) (b:=false) ((Same.refl _) _ _ g87) (by decide +kernel) (wd_str lx) (wd_str ly) (ms_two (b:=false) ((t87) _ _ g86) (by decide) (by decide) (by decide +kernel)) (by rw [if_neg (by decide +kernel)]; rfl))
  refine ⟨_,rfl,_,rfl,sz (by simp),fun p88 q88=>?_⟩
  have t88:=Same.upd (o:=.tup [.int 1,.int (-2)]) q88
  have g88:upd H87 p88 (.tup [.int 1,.int (-2)]) p88 = some (.tup [.int 1,.int (-2)]):=upd_same
  generalize upd H87 p88 (.tup [.int 1,.int (-2)]) = H88 at *
  refine ⟨sz (by simp),fun p89 q89=>?_⟩
  have t89:=Same.upd (o:=.tup [.str (Str.ofString "bring"),.str (Str.ofString "a"),.str x,.ref p88]) q89
  have g89:upd H88 p89 (.tup [.str (Str.ofString "bring"),.str (Str.ofString "a"),.str x,.ref p88]) p89 = some (.tup [.str (Str.ofString "bring"),.str (Str.ofString "a"),.str x,.ref p88]):=upd_same
  generalize upd H88 p89 (.tup [.str (Str.ofString "bring"),.str (Str.ofString "a"),.str x,.ref p88]) = H89 at *
  have j473:JdV ps H89 (.ref p89) false:=b_form (hf4 (bm:=false) (b:=false) ((Same.refl _) _ _ g89) (by decide +kernel) (wd_str (by decide +kernel)) (wd_str lx) (ms_two (b:=false) ((t89) _ _ g88) (by decide) (by decide) (by decide +kernel)) (by rw [if_pos rfl,show nmV (.str (Str.ofString "a")) = true from by decide +kernel]; rfl))
  refine ⟨sz (by simp),fun p90 q90=>?_⟩
  have t90:=Same.upd (o:=.lst [.ref p83,.ref p85,.ref p87,.ref p89]) q90
  have g90:upd H89 p90 (.lst [.ref p83,.ref p85,.ref p87,.ref p89]) p90 = some (.lst [.ref p83,.ref p85,.ref p87,.ref p89]):=upd_same
  generalize upd H89 p90 (.lst [.ref p83,.ref p85,.ref p87,.ref p89]) = H90 at *
  refine ⟨p81,p90,xs,_,rfl,rfl,(t82.trans (t83.trans (t84.trans (t85.trans (t86.trans (t87.trans (t88.trans (t89.trans (t90))))))))) _ _ hl,g90,sz (by rw [hn]; show 48 + 4 <= 1000; decide),fun p91 q91=>?_⟩
  have t91:=Same.upd (o:=.lst (xs ++ [.ref p83,.ref p85,.ref p87,.ref p89])) q91
  have hlo:H p91 = none:=(sb.trans (t82.trans (t83.trans (t84.trans (t85.trans (t86.trans (t87.trans (t88.trans (t89.trans (t90)))))))))).free q91
  have A:∃ ys,upd H90 p91 (.lst (xs ++ [.ref p83,.ref p85,.ref p87,.ref p89])) p91 = some (.lst ys) /\ ys.length = 52 /\ ∀ v ∈ ys,JdV ps (upd H90 p91 (.lst (xs ++ [.ref p83,.ref p85,.ref p87,.ref p89]))) v false:=⟨_,upd_same,by rw [List.length_append,hn]; rfl,fun v hv=>(List.mem_append.mp hv).elim (fun h=>(hall v h).same (t82.trans (t83.trans (t84.trans (t85.trans (t86.trans (t87.trans (t88.trans (t89.trans (t90.trans (t91))))))))))) (fun h=>(allc (j446.same (t84.trans (t85.trans (t86.trans (t87.trans (t88.trans (t89.trans (t90.trans (t91))))))))) (allc (j455.same (t86.trans (t87.trans (t88.trans (t89.trans (t90.trans (t91))))))) (allc (j464.same (t88.trans (t89.trans (t90.trans (t91))))) (allc (j473.same (t90.trans (t91))) (alln))))) v h)⟩
  have g1:=(t82.trans (t83.trans (t84.trans (t85.trans (t86.trans (t87.trans (t88.trans (t89.trans (t90.trans (t91)))))))))) _ _ g1
  have sb:=sb.trans (t82.trans (t83.trans (t84.trans (t85.trans (t86.trans (t87.trans (t88.trans (t89.trans (t90.trans (t91))))))))))
  clear hl hall hn
  generalize upd H90 p91 (.lst (xs ++ [.ref p83,.ref p85,.ref p87,.ref p89])) = H91 at *
  clear xs
  obtain ⟨xs,hl,hn,hall⟩:=A
  exact k p91 _ xs sb hl hn hall
noncomputable abbrev s__law_no_number:Stmt:=top 67
theorem sc__law_no_number:FnScope ["_law_cell","_law_many","_law_large","_law_some"] ["_law_cell","_law_many"] (defScope s__law_no_number):=scF
theorem ok__law_no_number {ca:Ca} (D:DefAt K mg "_law_no_number" s__law_no_number) (T:Txt K mg w ca):FnAt P w K mg base CX0 1 "_law_no_number" ["_law_cell","_law_many"] (spNoNum):=by
 refine D.ok sc__law_no_number (fun vs H Q E h=>?_) (fun _ _ _ _ _ _ us hl=>match us,hl with | [_,_],_=>rfl) (fun f cdv A outer s H vs Q E hr h=>?_)
 ·obtain ⟨c,m,rfl,hm,hm2,k⟩:=h; rfl
 ·obtain ⟨c,m,rfl,hm,hm2,k⟩:=h
  have nd:=sc__law_no_number.nd
  refine ⟨_,(pss_cons (ps_set (i:=2) nd rfl (Or.inl rfl) (pe_op op_modN (pe_op op_fdivB (pv 0) pe_int) (pe_op op_pow pe_int pe_int)))
   (pss_cons (ps_set (i:=3) nd rfl (Or.inl rfl) (pe_lst (pa_cons (pv 1) (pa_cons (pe_un un_neg pe_int) (pa_cons (pe_op op_sub (pe_un un_neg pe_int) (pv 2)) (pa_cons (pe_op op_add (pv 1) (pv 2)) (pa_cons pe_bl (pa_cons pe_non (pa_cons pe_str (pa_cons (pe_tup (pa_cons pe_int pa_nil)) (pa_cons (pe_lst (pa_cons pe_int pa_nil)) (pa_cons pe_dnewT pa_nil))))))))))))
   (pss_one (ps_ret (pixL (pv 3) (pe_op op_modN (pv 0) pe_int)))))),?_⟩
  refine ⟨_,rfl,_,_,rfl,rfl,ddv (by decide) (by decide),_,_,rfl,rfl,⟨by decide,by decide,by decide⟩,_,_,rfl,rfl,(show ((10:Int) ^ (30:Int).toNat) ≠ 0 by decide),?_⟩
  have ql:=fmod_lt (c:=c.fdiv 10) (m:=(10:Int) ^ (30:Int).toNat) (by decide)
  let lg:Int:=(c.fdiv 10).fmod ((10:Int) ^ (30:Int).toNat)
  refine ⟨_,rfl,_,rfl,_,rfl,_,rfl,_,_,rfl,rfl,_,rfl,_,rfl,_,_,rfl,rfl,sz (by simp),fun p1 h1=>⟨sz (by simp),fun p2 h2=>?_⟩⟩
  have t1:=Same.upd (o:=.tup [.int 0]) h1
  have t2:=Same.upd (o:=.lst [.int 0]) h2
  intro p3 h3
  have t3:=Same.upd (o:=.dT []) h3
  refine ⟨sz (by simp),fun l hl=>?_⟩
  have t4:=Same.upd (o:=.lst [.int m,.int (-1),.int (-1 - lg),.int (m + lg),.bl true,.non,.str (Str.ofString "0"),.ref p1,.ref p2,.ref p3]) hl
  have s4:=t1.trans (t2.trans (t3.trans t4))
  have f1:tyS (upd (upd (upd (upd H p1 (.tup [.int 0])) p2 (.lst [.int 0])) p3 (.dT [])) l (.lst [.int m,.int (-1),.int (-1 - lg),.int (m + lg),.bl true,.non,.str (Str.ofString "0"),.ref p1,.ref p2,.ref p3])) (.ref p1) = some "tuple":=ty_of ((t2.trans (t3.trans t4)) _ _ upd_same) rfl
  have f2:tyS (upd (upd (upd (upd H p1 (.tup [.int 0])) p2 (.lst [.int 0])) p3 (.dT [])) l (.lst [.int m,.int (-1),.int (-1 - lg),.int (m + lg),.bl true,.non,.str (Str.ofString "0"),.ref p1,.ref p2,.ref p3])) (.ref p2) = some "list":=ty_of ((t3.trans t4) _ _ upd_same) rfl
  have f3:tyS (upd (upd (upd (upd H p1 (.tup [.int 0])) p2 (.lst [.int 0])) p3 (.dT [])) l (.lst [.int m,.int (-1),.int (-1 - lg),.int (m + lg),.bl true,.non,.str (Str.ofString "0"),.ref p1,.ref p2,.ref p3])) (.ref p3) = some "dict":=ty_of (t4 _ _ upd_same) rfl
  have q10:=fmod_lt (c:=c) (m:=10) (by decide)
  have lg0:0 <= lg:=ql.1
  obtain ⟨j,ej⟩:=Int.eq_ofNat_of_zero_le q10.1
  have hj:j < 10:=by lia
  obtain ⟨v,n,hv,ht,hi⟩:∃ v n,([.int m,.int (-1),.int (-1 - lg),.int (m + lg),.bl true,.non,.str (Str.ofString "0"),.ref p1,.ref p2,.ref p3]:List V)[j]? = some v /\ tyS (upd (upd (upd (upd H p1 (.tup [.int 0])) p2 (.lst [.int 0])) p3 (.dT [])) l (.lst [.int m,.int (-1),.int (-1 - lg),.int (m + lg),.bl true,.non,.str (Str.ofString "0"),.ref p1,.ref p2,.ref p3])) v = some n /\ ∀ i,v = .int i->i < 0 \/ m <= i:=by
   match j,hj with
   | 0,_=>exact ⟨_,"int",rfl,rfl,fun i e=>by cases e; lia⟩
   | 1,_=>exact ⟨_,"int",rfl,rfl,fun i e=>by cases e; lia⟩
   | 2,_=>exact ⟨_,"int",rfl,rfl,fun i e=>by have:=V.int.inj e; lia⟩
   | 3,_=>exact ⟨_,"int",rfl,rfl,fun i e=>by have:=V.int.inj e; lia⟩
   | 4,_=>exact ⟨_,"bool",rfl,rfl,fun i e=>nomatch e⟩
   | 5,_=>exact ⟨_,"NoneType",rfl,rfl,fun i e=>nomatch e⟩
   | 6,_=>exact ⟨_,"str",rfl,rfl,fun i e=>nomatch e⟩
   | 7,_=>exact ⟨_,"tuple",rfl,f1,fun i e=>nomatch e⟩
   | 8,_=>exact ⟨_,"list",rfl,f2,fun i e=>nomatch e⟩
   | 9,_=>exact ⟨_,"dict",rfl,f3,fun i e=>nomatch e⟩
  have hat:atI ([.int m,.int (-1),.int (-1 - lg),.int (m + lg),.bl true,.non,.str (Str.ofString "0"),.ref p1,.ref p2,.ref p3]:List V) (c.fmod 10) = some v:=by rw [ej]; exact atI_nat hv
  exact ⟨_,rfl,_,rfl,_,_,rfl,rfl,(show (10:Int) ≠ 0 by decide),l,[.int m,.int (-1),.int (-1 - lg),.int (m + lg),.bl true,.non,.str (Str.ofString "0"),.ref p1,.ref p2,.ref p3],c.fmod 10,v,rfl,rfl,SqL.of upd_same,hat,k v _ n s4 ht hi⟩
noncomputable abbrev s_Book___init__:Stmt:=clsFn (top 50) 0
theorem sc_Book___init__:FnScope ["self","house","year"] ["self","house","year"] (defScope s_Book___init__):=scF
theorem ok_Book___init__ {ca:Ca} (D:MakeDef K ca.Book "Book.__init__" s_Book___init__) (T:Txt K mg w ca) (G_empty:FnAt P w K mg base CX0 1 "empty" ["house"] (spEmp K)):MakeAt P w K mg base 2 ca.Book ["self","house","year"] (spIni52 K ca.Book):=by
 refine D.ok sc_Book___init__ (fun vs H Q E h=>?_) (fun _ _ _ _ _ _ _ _ us hl=>match us,hl with | [_,_,_],_=>⟨_,rfl,rfl⟩) (fun f cdv A outer s H vs Q E hr h=>?_)
 ·obtain ⟨bk,dx,hs,xs,ps,rfl,hb,hS,hP,hH,k⟩:=h; rfl
 ·obtain ⟨bk,dx,hs,xs,ps,rfl,hb,hS,hP,hH,k⟩:=h
  have nd:=sc_Book___init__.nd
  refine ⟨_,(pss_cons (ps_fld' (K:=K) rfl (pv 0) (pe_callTy (call_list_of' (K:=K) rfl) (by rfl) T.z_list bt_list (pa_cons (pv 1) pa_nil)))
   (pss_cons (ps_fld' (K:=K) rfl (pv 0) (pe_lst pa_nil))
   (pss_cons (ps_fld' (K:=K) rfl (pv 0) (pe_lst pa_nil))
   (pss_cons (ps_fld' (K:=K) rfl (pv 0) (pfn G_empty hr (pa_cons (pv 1) pa_nil)))
   (pss_cons (ps_fld' (K:=K) rfl (pv 0) (pv 2))
   (pss_cons (ps_fld' (K:=K) rfl (pv 0) (pv 2))
   (pss_one (ps_fld' (K:=K) rfl (pv 0) (pe_lst pa_nil))))))))),?_⟩
  refine ⟨_,rfl,hs,xs,rfl,.inl (SqL.of hS),fun pl hpl=>?_⟩
  have t1:=Same.upd (o:=.lst xs) hpl
  refine ⟨_,rfl,bk,_,dx,_,rfl,t1 _ _ hb,T.k_Book,T.n_Book_places,(by show 0 < 1000; decide),?_⟩
  have k1:=t1.kb (bk:=bk) |>.trans (Kb.up bk _ (.ins ca.Book dx (putF (Str.ofString "places") (.ref pl) [])))
  have npl:pl ≠ bk:=(ne_of_none hb hpl).symm
  have hpl1:=Kb.up bk (upd H pl (.lst xs)) (.ins ca.Book dx (putF (Str.ofString "places") (.ref pl) [])) pl _ upd_same npl
  have hb1:upd (upd H pl (.lst xs)) bk (.ins ca.Book dx (putF (Str.ofString "places") (.ref pl) [])) bk = some (.ins ca.Book dx (putF (Str.ofString "places") (.ref pl) [])):=upd_same
  generalize upd (upd H pl (.lst xs)) bk (.ins ca.Book dx (putF (Str.ofString "places") (.ref pl) [])) = H1 at *
  refine ⟨sz (by simp),fun rw hrw=>?_⟩
  have t2:=Same.upd (o:=.lst []) hrw
  refine ⟨_,rfl,bk,_,dx,_,rfl,t2 _ _ hb1,T.k_Book,T.n_Book_row,(by show 1 < 1000; decide),?_⟩
  have nrw:rw ≠ bk:=(ne_of_none hb1 hrw).symm
  have k2:=t2.kb (bk:=bk) |>.trans (Kb.up bk _ (.ins ca.Book dx (putF (Str.ofString "row") (.ref rw) (putF (Str.ofString "places") (.ref pl) []))))
  have hrw2:=Kb.up bk (upd H1 rw (.lst [])) (.ins ca.Book dx (putF (Str.ofString "row") (.ref rw) (putF (Str.ofString "places") (.ref pl) []))) rw _ upd_same nrw
  have hb2:upd (upd H1 rw (.lst [])) bk (.ins ca.Book dx (putF (Str.ofString "row") (.ref rw) (putF (Str.ofString "places") (.ref pl) []))) bk = some (.ins ca.Book dx (putF (Str.ofString "row") (.ref rw) (putF (Str.ofString "places") (.ref pl) []))):=upd_same
  generalize upd (upd H1 rw (.lst [])) bk (.ins ca.Book dx (putF (Str.ofString "row") (.ref rw) (putF (Str.ofString "places") (.ref pl) []))) = H2 at *
  refine ⟨sz (by simp),fun tk htk=>?_⟩
  have t3:=Same.upd (o:=.lst []) htk
  refine ⟨_,rfl,bk,_,dx,_,rfl,t3 _ _ hb2,T.k_Book,T.n_Book_taken,(by show 2 < 1000; decide),?_⟩
  have ntk:tk ≠ bk:=(ne_of_none hb2 htk).symm
  have k3:=t3.kb (bk:=bk) |>.trans (Kb.up bk _ (.ins ca.Book dx (putF (Str.ofString "taken") (.ref tk) (putF (Str.ofString "row") (.ref rw) (putF (Str.ofString "places") (.ref pl) [])))))
  have htk3:=Kb.up bk (upd H2 tk (.lst [])) (.ins ca.Book dx (putF (Str.ofString "taken") (.ref tk) (putF (Str.ofString "row") (.ref rw) (putF (Str.ofString "places") (.ref pl) [])))) tk _ upd_same ntk
  have hb3:upd (upd H2 tk (.lst [])) bk (.ins ca.Book dx (putF (Str.ofString "taken") (.ref tk) (putF (Str.ofString "row") (.ref rw) (putF (Str.ofString "places") (.ref pl) [])))) bk = some (.ins ca.Book dx (putF (Str.ofString "taken") (.ref tk) (putF (Str.ofString "row") (.ref rw) (putF (Str.ofString "places") (.ref pl) [])))):=upd_same
  generalize upd (upd H2 tk (.lst [])) bk (.ins ca.Book dx (putF (Str.ofString "taken") (.ref tk) (putF (Str.ofString "row") (.ref rw) (putF (Str.ofString "places") (.ref pl) [])))) = H3 at *
  have k13:=k1.trans (k2.trans k3)
  refine ⟨_,rfl,hs,xs,ps,rfl,SqL.of (kbL hb k13 hS),Paired.mapP hP (fun _ _ f=>f.tup (kbT hb k13)),hH,fun wn H4 kvw hwn s4 hwn4 w4=>?_⟩
  have hb4:=s4 _ _ hb3
  refine ⟨_,rfl,bk,_,dx,_,rfl,hb4,T.k_Book,T.n_Book_wines,(by show 3 < 1000; decide),?_⟩
  have k5:=s4.kb (bk:=bk) |>.trans (Kb.up bk _ (.ins ca.Book dx (putF (Str.ofString "wines") (.ref wn) (putF (Str.ofString "taken") (.ref tk) (putF (Str.ofString "row") (.ref rw) (putF (Str.ofString "places") (.ref pl) []))))))
  have hwn5:=kbK hb4 (Kb.up bk _ (.ins ca.Book dx (putF (Str.ofString "wines") (.ref wn) (putF (Str.ofString "taken") (.ref tk) (putF (Str.ofString "row") (.ref rw) (putF (Str.ofString "places") (.ref pl) [])))))) hwn4
  have w5:=w4.kp (kbD hb4 (Kb.up bk _ (.ins ca.Book dx (putF (Str.ofString "wines") (.ref wn) (putF (Str.ofString "taken") (.ref tk) (putF (Str.ofString "row") (.ref rw) (putF (Str.ofString "places") (.ref pl) [])))))))
  have hb5:upd H4 bk (.ins ca.Book dx (putF (Str.ofString "wines") (.ref wn) (putF (Str.ofString "taken") (.ref tk) (putF (Str.ofString "row") (.ref rw) (putF (Str.ofString "places") (.ref pl) []))))) bk = some (.ins ca.Book dx (putF (Str.ofString "wines") (.ref wn) (putF (Str.ofString "taken") (.ref tk) (putF (Str.ofString "row") (.ref rw) (putF (Str.ofString "places") (.ref pl) []))))):=upd_same
  generalize upd H4 bk (.ins ca.Book dx (putF (Str.ofString "wines") (.ref wn) (putF (Str.ofString "taken") (.ref tk) (putF (Str.ofString "row") (.ref rw) (putF (Str.ofString "places") (.ref pl) []))))) = H5 at *
  refine ⟨_,rfl,_,rfl,bk,_,dx,_,rfl,hb5,T.k_Book,T.n_Book_now,(by show 4 < 1000; decide),?_⟩
  refine ⟨_,rfl,_,rfl,bk,_,dx,_,rfl,upd_same,T.k_Book,T.n_Book_first,(by show 5 < 1000; decide),?_⟩
  rw [upd_upd]
  have k6:=Kb.up bk H5 (.ins ca.Book dx (putF (Str.ofString "first") (.int 3) (putF (Str.ofString "now") (.int 3) (putF (Str.ofString "wines") (.ref wn) (putF (Str.ofString "taken") (.ref tk) (putF (Str.ofString "row") (.ref rw) (putF (Str.ofString "places") (.ref pl) [])))))))
  have hwn6:=kbK hb5 k6 hwn5
  have w6:=w5.kp (kbD hb5 k6)
  have hb6:upd H5 bk (.ins ca.Book dx (putF (Str.ofString "first") (.int 3) (putF (Str.ofString "now") (.int 3) (putF (Str.ofString "wines") (.ref wn) (putF (Str.ofString "taken") (.ref tk) (putF (Str.ofString "row") (.ref rw) (putF (Str.ofString "places") (.ref pl) []))))))) bk = some (.ins ca.Book dx (putF (Str.ofString "first") (.int 3) (putF (Str.ofString "now") (.int 3) (putF (Str.ofString "wines") (.ref wn) (putF (Str.ofString "taken") (.ref tk) (putF (Str.ofString "row") (.ref rw) (putF (Str.ofString "places") (.ref pl) []))))))):=upd_same
  generalize upd H5 bk (.ins ca.Book dx (putF (Str.ofString "first") (.int 3) (putF (Str.ofString "now") (.int 3) (putF (Str.ofString "wines") (.ref wn) (putF (Str.ofString "taken") (.ref tk) (putF (Str.ofString "row") (.ref rw) (putF (Str.ofString "places") (.ref pl) []))))))) = H6 at *
  have k36:=k5.trans k6
  have hpl6:=kbL hb1 (k2.trans (k3.trans k36)) hpl1
  have hrw6:=kbL hb2 (k3.trans k36) hrw2
  have htk6:=kbL hb3 k36 htk3
  refine ⟨sz (by simp),fun pt hpt=>?_⟩
  have t7:=Same.upd (o:=.lst []) hpt
  have hb7:=t7 _ _ hb6
  refine ⟨_,rfl,bk,_,dx,_,rfl,hb7,T.k_Book,T.n_Book_past,(by show 6 < 1000; decide),?_⟩
  have k8:=Kb.up bk (upd H6 pt (.lst [])) (.ins ca.Book dx (putF (Str.ofString "past") (.ref pt) (putF (Str.ofString "first") (.int 3) (putF (Str.ofString "now") (.int 3) (putF (Str.ofString "wines") (.ref wn) (putF (Str.ofString "taken") (.ref tk) (putF (Str.ofString "row") (.ref rw) (putF (Str.ofString "places") (.ref pl) []))))))))
  refine k pl rw tk wn pt kvw _ (k13.trans (k36.trans (t7.kb.trans k8))) upd_same (kbL hb7 k8 (t7 _ _ hpl6)) (kbL hb7 k8 (t7 _ _ hrw6)) (kbL hb7 k8 (t7 _ _ htk6)) (kbK hb7 k8 (t7 _ _ hwn6)) ((w6.kp t7.kpd).kp (kbD hb7 k8)) (kbL hb7 k8 upd_same) (ne_of_none hpl6 hpt).symm (ne_of_none hrw6 hpt).symm (ne_of_none htk6 hpt).symm ⟨(ne_of_none hb6 hpt).symm,?_⟩
  cases e:H pt with
  | none=>rfl
  | some ob=>rw [(k13.trans k36) _ _ e (ne_of_none hb6 hpt).symm] at hpt; cases hpt
noncomputable abbrev s_Book_deeds:Stmt:=clsFn (top 50) 5
theorem sc_Book_deeds:FnScope ["self"] ["self"] (defScope s_Book_deeds):=scF
theorem ok_Book_deeds {ca:Ca} (D:MethDef K ca.Book "deeds" "Book.deeds" s_Book_deeds) (T:Txt K mg w ca):MethAt P w K mg base CX0 1 ca.Book "deeds" ["self"] (spDeeds ca.Book):=by
 refine D.ok T.k_Book sc_Book_deeds (fun vs H Q E h=>?_) (fun _ _ _ _ _ _ us hl=>match us,hl with | [_],_=>rfl) (fun f cdv A outer s H vs Q E hr h=>?_)
 ·obtain ⟨bk,dx,rw,pl,tk,wn,pt,now,row,rfl,hb,hr0,k⟩:=h; rfl
 ·obtain ⟨bk,dx,rw,pl,tk,wn,pt,now,row,rfl,hb,hr0,k⟩:=h
  have nd:=sc_Book_deeds.nd
  refine ⟨_,(pss_one (ps_ret (pe_callTy (call_list_of' (K:=K) rfl) (by rfl) T.z_list bt_list (pa_cons (pe_fld' (K:=K) rfl (pv 0)) pa_nil)))),?_⟩
  exact ⟨_,rfl,bk,_,dx,_,_,rfl,hb,T.k_Book,T.n_Book_row,b_rw,rw,row,rfl,.inl (SqL.of hr0),k⟩
noncomputable abbrev s_Book_year:Stmt:=clsFn (top 50) 7
theorem sc_Book_year:FnScope ["self"] ["self"] (defScope s_Book_year):=scF
theorem ok_Book_year {ca:Ca} (D:MethDef K ca.Book "year" "Book.year" s_Book_year) (T:Txt K mg w ca):MethAt P w K mg base CX0 1 ca.Book "year" ["self"] (spYear ca.Book):=by
 refine D.ok T.k_Book sc_Book_year (fun vs H Q E h=>?_) (fun _ _ _ _ _ _ us hl=>match us,hl with | [_],_=>rfl) (fun f cdv A outer s H vs Q E hr h=>?_)
 ·obtain ⟨bk,dx,pl,rw,tk,wn,pt,now,rfl,hb,k⟩:=h; rfl
 ·obtain ⟨bk,dx,pl,rw,tk,wn,pt,now,rfl,hb,k⟩:=h
  have nd:=sc_Book_year.nd
  refine ⟨_,(pss_one (ps_ret (pe_fld' (K:=K) rfl (pv 0)))),?_⟩
  exact ⟨_,rfl,bk,_,dx,_,_,rfl,hb,T.k_Book,T.n_Book_now,b_now,k⟩
noncomputable abbrev s_law:Stmt:=top 68
theorem sc_law:FnScope ["_law_script","_law_house_here","_law_casks","_law_sinks","_law_book","_law_good","_law_row","_law_some","_law_late","_law_cell","_law_thing","_law_way","_law_deeds"] ["_law_script"] (defScope s_law):=scF
theorem ok_law {ca:Ca} {f:Addr} {fd:FuncData} (D:Fun K "law" "law" s_law f fd) (T:Txt K mg w ca) (G__law_house:FnAt P w K mg base CX0 3 "_law_house" ["_law_cell"] (spHouse)) (G__law_cell_at:FnAt P w K mg base CX0 1 "_law_cell_at" ["_law_script","_law_k"] (spCell K)) (G_Book___init__:MakeAt P w K mg base 2 ca.Book ["self","house","year"] (spIni52 K ca.Book)) (G_Book_put:MethAt P w K mg base (CXE P w) 7 ca.Book "put" ["self","deeds"] (spPut K ca.Book ca.NoDeed)) (G__law_things:FnAt P w K mg base CX0 1 "_law_things" ["_law_x","_law_y","_law_sink"] (spTh)) (G__law_mixed:FnAt P w K mg base CX0 1 "_law_mixed" ["_law_cell","_law_k"] (spMixed2)) (G_Book_deeds:MethAt P w K mg base CX0 1 ca.Book "deeds" ["self"] (spDeeds ca.Book)) (G__law_put_in:FnAt P w K mg base CX0 8 "_law_put_in" ["_law_book","_law_deeds"] (spPutIn K ca.Book)) (G__law_struck:FnAt P w K mg base CX0 3 "_law_struck" ["_law_book","_law_k"] (spStruck ca.Book)) (G__law_no_number:FnAt P w K mg base CX0 1 "_law_no_number" ["_law_cell","_law_many"] (spNoNum)) (G_Book_year:MethAt P w K mg base CX0 1 ca.Book "year" ["self"] (spYear ca.Book)) (G_Book_undo:MethAt P w K mg base (CXE P w) 1 ca.Book "undo" ["self"] (spUndo ca.Book ca.NoChange)) (G__law_undone:FnAt P w K mg base CX0 2 "_law_undone" ["_law_book"] (spUndone ca.Book)):FnOk P w K mg base CX0 9 f fd ["_law_script"] (spLaw K):=by
 refine D.ok sc_law (fun vs H Q E h=>?_) (fun cdv A outer s H vs Q E hr h=>?_)
 ·obtain ⟨a,ns,rfl,hS,hlen,k⟩:=h; rfl
 ·obtain ⟨a,ns,rfl,hS,hlen,k⟩:=h
  have nd:=sc_law.nd
  refine ⟨_,(pss_cons (ps_set (i:=1) nd rfl (Or.inl rfl) (pfn G__law_house hr (pa_cons (pfn G__law_cell_at hr (pa_cons (pv 0) (pa_cons pe_int pa_nil))) pa_nil)))
   (pss_cons (ps_setcomp ["_law_place"] [] [] (i:=2) nd rfl rfl rfl (by rfl) (pi_list' (K:=K) rfl (pv 1)) (fun _ _ _ _=>(pg_name (i:=0) (show List.Nodup (["_law_place"]:List Str) from by decide) rfl (Or.inl rfl))) (fun _ _ _ _=>(pif_one (pt_cmpR op_eq (pixT (pv 0) pe_int) pe_str (nomark _)))) (fun _ _ _ _=>(pixT (pv 0) pe_int)))
   (pss_cons (ps_setcomp ["_law_place"] [] [] (i:=3) nd rfl rfl rfl (by rfl) (pi_list' (K:=K) rfl (pv 1)) (fun _ _ _ _=>(pg_name (i:=0) (show List.Nodup (["_law_place"]:List Str) from by decide) rfl (Or.inl rfl))) (fun _ _ _ _=>(pif_one (pt_cmpR op_eq (pixT (pv 0) pe_int) pe_str (nomark _)))) (fun _ _ _ _=>(pixT (pv 0) pe_int)))
   (pss_cons (ps_set (i:=4) nd rfl (Or.inl rfl) (pmake G_Book___init__ hr (by rfl) T.c_Book (pa_cons (pv 1) (pa_cons pe_int pa_nil))))
   (pss_cons (ps_set (i:=5) nd rfl (Or.inl rfl) (pe_tup (pa_cons pe_str (pa_cons pe_str (pa_cons (pixL (pv 2) pe_int) (pa_cons (pe_tup (pa_cons pe_int (pa_cons pe_int pa_nil))) pa_nil))))))
   (pss_cons (ps_set (i:=6) nd rfl (Or.inl rfl) (pe_op op_rep (pe_lst (pa_cons (pv 5) pa_nil)) (pe_op op_modN (pfn G__law_cell_at hr (pa_cons (pv 0) (pa_cons pe_int pa_nil))) pe_int)))
   (pss_cons (ps_expr (pmeth G_Book_put hr pass00 (pv 4) (pa_cons (pv 6) pa_nil)))
   (pss_cons (ps_set (i:=7) nd rfl (Or.inl rfl) (pfn G__law_things hr (pa_cons (pixL (pv 2) pe_int) (pa_cons (pixL (pv 2) pe_int) (pa_cons (pixL (pv 3) pe_int) pa_nil)))))
   (pss_cons (ps_set (i:=8) nd rfl (Or.inl rfl) (pe_tup (pa_cons pe_str (pa_cons (pixL (pv 2) pe_int) (pa_cons (pixL (pv 2) pe_int) (pa_cons (pe_tup (pa_cons (pe_op op_pow pe_int pe_int) (pa_cons pe_int pa_nil))) pa_nil))))))
   (pss_cons (ps_for PassesOwn.never rfl (pi_list' (K:=K) rfl (pe_slice (sl_list' (K:=K) rfl) (pv 0) (po_some pe_int) (po_some pe_int))) (pg_name (i:=9) nd rfl (Or.inl rfl)) (pss_cons (ps_set (i:=10) nd rfl (Or.inl rfl) (pixL (pv 7) (pe_op op_modN (pfn G__law_mixed hr (pa_cons (pv 9) (pa_cons pe_int pa_nil))) (pe_callB (call_len' (K:=K) rfl) (by rfl) T.z_len PySem.boot_len (pa_cons (pv 7) pa_nil)))))
   (pss_cons (ps_set (i:=11) nd rfl (Or.inl rfl) (pe_op op_modN (pfn G__law_mixed hr (pa_cons (pv 9) (pa_cons pe_int pa_nil))) pe_int))
   (pss_cons (ps_set (i:=12) nd rfl (Or.inl rfl) (pixL (pe_lst (pa_cons (pe_lst (pa_cons (pv 10) pa_nil)) (pa_cons (pe_lst (pa_cons (pv 10) (pa_cons (pv 5) pa_nil))) (pa_cons (pe_lst (pa_cons (pv 5) (pa_cons (pv 10) (pa_cons (pv 5) pa_nil)))) (pa_cons (pe_lst (pa_cons (pv 8) (pa_cons (pv 10) pa_nil))) pa_nil))))) (pv 11)))
   (pss_cons (ps_if (PW.pt (pw_or (pt_cmpR (op_neD' (K:=K) rfl hr) (pfn G__law_put_in hr (pa_cons (pv 4) (pa_cons (pe_callTy (call_list_of' (K:=K) rfl) (by rfl) T.z_list bt_list (pa_cons (pv 12) pa_nil)) pa_nil))) (pe_tup (pa_cons pe_str (pa_cons (pe_un un_neg pe_int) pa_nil))) (nomark _)) (pw_or1 (pt_cmpR (op_neD' (K:=K) rfl hr) (pmeth0 G_Book_deeds hr pass0 (pv 4)) (pv 6) (nomark _))))) (pss_one (ps_ret pe_bl)) pss_nil)
   (pss_one (ps_if (PW.pt (pw_or (pt_cmpR (op_neD' (K:=K) rfl hr) (pfn G__law_struck hr (pa_cons (pv 4) (pa_cons (pfn G__law_no_number hr (pa_cons (pv 9) (pa_cons (pe_callB (call_len' (K:=K) rfl) (by rfl) T.z_len PySem.boot_len (pa_cons (pv 6) pa_nil)) pa_nil))) pa_nil))) (pe_tup (pa_cons pe_str (pa_cons (pe_un un_neg pe_int) pa_nil))) (nomark _)) (pw_or1 (pt_cmpR (op_neD' (K:=K) rfl hr) (pmeth0 G_Book_deeds hr pass0 (pv 4)) (pv 6) (nomark _))))) (pss_one (ps_ret pe_bl)) pss_nil)))))))
   (pss_cons (ps_if (PW.pt (pw_or (pt_cmpR (op_neD' (K:=K) rfl hr) (pfn G__law_put_in hr (pa_cons (pv 4) (pa_cons (pe_lst (pa_cons (pv 5) (pa_cons (pe_tup (pa_cons pe_str pa_nil)) pa_nil))) pa_nil))) (pe_tup (pa_cons pe_str (pa_cons (pe_un un_neg pe_int) pa_nil))) (nomark _)) (pw_or1 (pt_cmpR (op_neD' (K:=K) rfl hr) (pfn G__law_put_in hr (pa_cons (pv 4) (pa_cons (pe_lst (pa_cons pe_non pa_nil)) pa_nil))) (pe_tup (pa_cons pe_str (pa_cons (pe_un un_neg pe_int) pa_nil))) (nomark _))))) (pss_one (ps_ret pe_bl)) pss_nil)
   (pss_cons (ps_if (PW.pt (pw_or (pt_cmpR (op_neD' (K:=K) rfl hr) (pmeth0 G_Book_deeds hr pass0 (pv 4)) (pe_op op_cat (pv 6) (pe_lst (pa_cons (pv 5) (pa_cons (pe_tup (pa_cons pe_str pa_nil)) pa_nil)))) (nomark _)) (pw_or1 (pt_cmpR op_ne (pmeth0 G_Book_year hr pass0 (pv 4)) pe_int (nomark _))))) (pss_one (ps_ret pe_bl)) pss_nil)
   (pss_cons (ps_expr (pmeth0 G_Book_undo hr pass00 (pv 4)))
   (pss_cons (ps_if (pt_cmpR (op_neD' (K:=K) rfl hr) (pmeth0 G_Book_deeds hr pass0 (pv 4)) (pv 6) (nomark _)) (pss_one (ps_ret pe_bl)) pss_nil)
   (pss_cons (ps_expr (pmeth0 G_Book_undo hr pass00 (pv 4)))
   (pss_one (ps_ret (pe_and (pe_cmpR (op_eqD' (K:=K) rfl hr) (pmeth0 G_Book_deeds hr pass0 (pv 4)) (pe_lst pa_nil) (nomark _)) (pe_one (pe_cmpR op_eq (pfn G__law_undone hr (pa_cons (pv 4) pa_nil)) pe_str (nomark _))))))))))))))))))))),?_⟩
  refine ⟨_,rfl,a,ns,0,rfl,hS,by decide,fun c0=>⟨c0,rfl,fun ph H1 xs ps hph s1 hX1 hP1 hH hro h2c hnm h1s=>?_⟩⟩
  have hlenX:xs.length = ps.length:=hP1.length
  have h8:=hH.len
  refine ⟨_,rfl,ph,rfl,⟨_,SqL.of hX1⟩,fun D hD=>?_⟩
  refine block_list (xs:=xs) (fun j σ' H'=>∃ (v:Option V),σ' = [v] /\ Same H1 H' /\ H' D = some (.lst ((ckN (ps.take j)).map V.str))) ⟨none,rfl,Same.upd hD,upd_same⟩ ?_ ?_ ?_
  ·rintro j σ' H' hj ⟨v,rfl,s2,hd⟩
   exact s2.seq (SqL.of hX1)
  ·rintro j y σ' H' hy ⟨v,rfl,s2,hd⟩
   obtain ⟨p,hp,pv⟩:=paired_get hP1 hy
   obtain ⟨b,ys,rfl,hb,e0,e1⟩:=pv.at
   refine ⟨_,rfl,b,_,_,_,rfl,rfl,SqT.of (s2 _ _ hb),e0,rfl,_,rfl,?_⟩
   cases hc:isC p with
   | true =>
    refine dec_true rfl ?_
    refine ⟨_,rfl,b,_,_,_,rfl,rfl,SqT.of (s2 _ _ hb),e1,_,hd,?_,_,rfl,s2.updD hD,?_⟩
    ·have h1:=ck_len (ps:=ps.take j)
     rw [List.length_take] at h1
     rw [List.length_map]
     exact sz (by lia)
    ·unfold ckN
     rw [upd_same,take_one hp,List.filter_append,List.map_append,List.map_append]
     simp [hc]
   | false =>
    refine dec_false (by decide +kernel) ?_
    refine ⟨_,rfl,s2,?_⟩
    rw [hd]
    unfold ckN
    rw [take_one hp,List.filter_append,List.map_append,List.map_append]
    simp [hc]
  rintro σ' H2 ⟨v,rfl,s2,hd⟩
  rw [hlenX,List.take_length] at hd
  have hX2:=s2 _ _ hX1
  have hP2:=house_same hP1 s2
  refine ⟨_,rfl,ph,rfl,⟨_,SqL.of hX2⟩,fun G hG=>?_⟩
  refine block_list (xs:=xs) (fun j σ' H'=>∃ (v:Option V),σ' = [v] /\ Same H2 H' /\ H' G = some (.lst ((skN (ps.take j)).map V.str))) ⟨none,rfl,Same.upd hG,upd_same⟩ ?_ ?_ ?_
  ·rintro j σ' H' hj ⟨v,rfl,s3,hd⟩
   exact s3.seq (SqL.of hX2)
  ·rintro j y σ' H' hy ⟨v,rfl,s3,hd⟩
   obtain ⟨p,hp,pv⟩:=paired_get hP2 hy
   obtain ⟨b,ys,rfl,hb,e0,e1⟩:=pv.at
   refine ⟨_,rfl,b,_,_,_,rfl,rfl,SqT.of (s3 _ _ hb),e0,rfl,_,rfl,?_⟩
   cases hc:isC p with
   | false =>
    refine dec_true rfl ?_
    refine ⟨_,rfl,b,_,_,_,rfl,rfl,SqT.of (s3 _ _ hb),e1,_,hd,?_,_,rfl,s3.updD hG,?_⟩
    ·have h1:(skN (ps.take j)).length <= 8:=by
      unfold skN
      rw [List.length_map]
      have:=List.length_filter_le (fun p=>isC p == false) (ps.take j)
      rw [List.length_take] at this
      lia
     rw [List.length_map]
     exact sz (by lia)
    ·unfold skN
     rw [upd_same,take_one hp,List.filter_append,List.map_append,List.map_append]
     simp [hc]
   | true =>
    refine dec_false (by decide +kernel) ?_
    refine ⟨_,rfl,s3,?_⟩
    rw [hd]
    unfold skN
    rw [take_one hp,List.filter_append,List.map_append,List.map_append]
    simp [hc]
  rintro σ' H3 ⟨v,rfl,s3,hg⟩
  rw [hlenX,List.take_length] at hg
  have hd3:=s3 _ _ hd
  have hX3:=s3 _ _ hX2
  have hP3:=house_same hP2 s3
  have s03:=s1.trans (s2.trans s3)
  obtain ⟨x,y,hx0,hy1,nyx,hx,hy⟩:=two_of h2c hH.ck
  obtain ⟨z,hz0,hz⟩:∃ z,(skN ps)[0]? = some z /\ z ∈ skN ps:=⟨_,List.getElem?_eq_getElem h1s,List.getElem_mem _⟩
  have lx:=(hnm x (ck_sub hx)).1
  have ly:=(hnm y (ck_sub hy)).1
  have lz:=(hnm z (sk_sub hz)).1
  refine ⟨_,rfl,fun bk dx hbk hdx hne=>?_⟩
  refine ⟨bk,dx,ph,xs,ps,rfl,upd_same,?_,?_,hH,fun pl rw tk wn pt kv H4 kb4 hb4 hpl4 hrw4 htk4 hwn4 w4 hpt4 n1 n2 n3 npt=>⟨rfl,?_⟩⟩
  ·rw [upd_ne (ne_of_none hX3 hbk),upd_ne (ne_of_none hX3 hdx)]; exact hX3
  ·exact Paired.mapP hP3 fun _ _ f=>f.tup fun c zs e=>by rw [upd_ne (ne_of_none e hbk),upd_ne (ne_of_none e hdx)]; exact e
  have s4:Same H3 H4:=fun c ob e=>kb4 c ob (by rw [upd_ne (ne_of_none e hbk),upd_ne (ne_of_none e hdx)]; exact e) (ne_of_none e hbk)
  have hd4:=s4 _ _ hd3
  refine ⟨_,rfl,D,_,0,_,rfl,rfl,SqL.of hd4,str_at (j:=0) hx0,sz (by simp),fun pf hpf=>⟨sz (by simp),fun ga hga=>?_⟩⟩
  have t5:=Same.upd (o:=.tup [.int 1,.int 10000]) hpf
  have t6:=Same.upd (o:=.tup [.str (Str.ofString "bring"),.str (Str.ofString "grape"),.str x,.ref pf]) hga
  have hga6:upd (upd H4 pf (.tup [.int 1,.int 10000])) ga (.tup [.str (Str.ofString "bring"),.str (Str.ofString "grape"),.str x,.ref pf]) ga = some (.tup [.str (Str.ofString "bring"),.str (Str.ofString "grape"),.str x,.ref pf]):=upd_same
  have hpf6:=t6 _ _ (upd_same (H:=H4) (a:=pf) (o:=.tup [.int 1,.int 10000]))
  have s46:=t5.trans t6
  generalize upd (upd H4 pf (.tup [.int 1,.int 10000])) ga (.tup [.str (Str.ofString "bring"),.str (Str.ofString "grape"),.str x,.ref pf]) = H6 at *
  refine ⟨_,rfl,sz (by simp),fun l0 hl0=>?_⟩
  have t7:=Same.upd (o:=.lst [.ref ga]) hl0
  have s07:=s03.trans (s4.trans (s46.trans t7))
  refine ⟨_,rfl,a,ns,1,rfl,s07.seq hS,by decide,fun c1=>?_⟩
  have q3:=fmod_lt (c:=c1) (m:=3) (by decide)
  refine ⟨_,_,rfl,rfl,(show (3:Int) ≠ 0 by decide),l0,_,_,rfl,rfl,upd_same,by lia,by lia,sz (by simp; lia),fun R hR=>?_⟩
  rw [rep_same] at *
  obtain ⟨n,en⟩:∃ n,(c1.fmod 3).toNat = n:=⟨_,rfl⟩
  have hn2:n <= 2:=by lia
  rw [en]
  have t8:=Same.upd (o:=.lst (List.replicate n (.ref ga))) hR
  have hR8:upd (upd H6 l0 (.lst [.ref ga])) R (.lst (List.replicate n (.ref ga))) R = some (.lst (List.replicate n (.ref ga))):=upd_same
  have s68:=t7.trans t8
  have s48:=s46.trans s68
  have npR:pt ≠ R:=fun e=>by subst e; rw [(s46.trans t7) _ _ hpt4] at hR; cases hR
  generalize upd (upd H6 l0 (.lst [.ref ga])) R (.lst (List.replicate n (.ref ga))) = H8 at *
  have hga8:=s68 _ _ hga6
  have hpf8:=s68 _ _ hpf6
  have hb8:=s48 _ _ hb4
  have s38:=s4.trans s48
  have efq:fq (1 / 10000) = [.int 1,.int 10000]:=by decide +kernel
  have fr8:FrV H8 (.ref pf) (1 / 10000):=⟨pf,rfl,by rw [efq]; exact hpf8⟩
  refine ⟨_,rfl,bk,dx,_,rfl,hb8,m_put,_,rfl,bk,dx,pl,rw,tk,wn,pt,R,3,xs,_,ps,rfl,hb8,s48 _ _ hpl4,house_same hP3 s38,hH,hR8,.inr ⟨fun u hu=>?_,rfl,hro,n1,n2,n3,npR,[],[],[],kv,x,0,n,0,s48 _ _ hrw4,s48 _ _ htk4,s48 _ _ hwn4,s48 _ _ hpt4,Nat.zero_le _,Nat.zero_le _,Nat.zero_le _,?_,hx,by lia,by lia,?_,fun rw1 tk1 wn1 t1 tv1 kv1 H9 kq9 hb9 hrw9 htk9 ltv9 hwn9 w9 ht9 hpt9 m1 m2=>?_⟩⟩
  ·rw [(List.mem_replicate.mp hu).2]
   exact jd_good hH hx lx hga8 hpf8
  ·exact (w4.kp s48.kpd).congr fun z _=>by unfold atK; split <;> rfl
  ·rw [List.replicate_zero,List.append_nil]
   have key:∀ m:Nat,Paired (DdV H8) (List.replicate m (.ref ga)) (List.replicate m (brD x)):=by
    intro m
    induction m with
    | zero=>exact .nil
    | succ m ih=>exact .cons ⟨ga,_,rfl,hga8,fr8⟩ ih
   exact key n
  have ke9:∀ {c:Addr} {o:HO},H8 c = some o->(∀ C d f,o ≠ .ins C d f)->c ≠ pt->H9 c = some o:=fun {c o} e n1 n2=>kq9 c o e (fun z=>by subst z; rw [hb8] at e; cases e; exact n1 _ _ _ rfl) n2
  have hpt3:H3 pt = none:=by
   have h:=npt.2
   rw [upd_ne npt.1] at h
   by_cases e:pt = dx
   ·rw [e,upd_same] at h; cases h
   ·rw [upd_ne e] at h; exact h
  have s39:Same H3 H9:=fun c ob e=>kq9 c ob (s38 _ _ e) (ne_of_none e hbk) (ne_of_none e hpt3)
  have hd9:=s39 _ _ hd3
  have hg9:=s39 _ _ hg
  have hS9:=(s03.trans s39).seq hS
  have hP9:=house_same hP3 s39
  have hga9:=ke9 hga8 (fun _ _ _ z=>nomatch z) (ne_of hga8 (s48 _ _ hpt4) (by intro z; cases z))
  have hpf9:=ke9 hpf8 (fun _ _ _ z=>nomatch z) (ne_of hpf8 (s48 _ _ hpt4) (by intro z; cases z))
  have hR9:=ke9 hR8 (fun _ _ _ z=>nomatch z) (Ne.symm npR)
  have hpl9:=ke9 (s48 _ _ hpl4) (fun _ _ _ z=>nomatch z) (Ne.symm n1)
  have hrw09:=ke9 (s48 _ _ hrw4) (fun _ _ _ z=>nomatch z) (Ne.symm n2)
  refine ⟨_,rfl,D,_,0,_,rfl,rfl,SqL.of hd9,str_at (j:=0) hx0,_,rfl,D,_,1,_,rfl,rfl,SqL.of hd9,str_at (j:=1) hy1,_,rfl,G,_,0,_,rfl,rfl,SqL.of hg9,str_at (j:=0) hz0,x,y,z,ps,rfl,ok_ck hH hx,ok_ck hH hy,lk_sk hH hz,lk_A hnm,lx,ly,lz,fun L H10 us s10 hL10 lus hall=>?_⟩
  have hd10:=s10 _ _ hd9
  refine ⟨_,rfl,D,_,1,_,rfl,rfl,SqL.of hd10,str_at (j:=1) hy1,_,rfl,D,_,0,_,rfl,rfl,SqL.of hd10,str_at (j:=0) hx0,_,_,rfl,rfl,⟨by decide,by decide,by decide⟩,sz (by simp),fun pm hpm=>⟨sz (by simp),fun la hla=>?_⟩⟩
  have t11:=Same.upd (o:=.tup [.int ((10:Int) ^ (12:Int).toNat),.int 1]) hpm
  have t12:=Same.upd (o:=.tup [.str (Str.ofString "move"),.str y,.str x,.ref pm]) hla
  have hla12:upd (upd H10 pm (.tup [.int ((10:Int) ^ (12:Int).toNat),.int 1])) la (.tup [.str (Str.ofString "move"),.str y,.str x,.ref pm]) la = some (.tup [.str (Str.ofString "move"),.str y,.str x,.ref pm]):=upd_same
  have hpm12:=t12 _ _ (upd_same (H:=H10) (a:=pm) (o:=.tup [.int ((10:Int) ^ (12:Int).toNat),.int 1]))
  have s12:=t11.trans t12
  have s912:=s10.trans s12
  generalize upd (upd H10 pm (.tup [.int ((10:Int) ^ (12:Int).toNat),.int 1])) la (.tup [.str (Str.ofString "move"),.str y,.str x,.ref pm]) = H12 at *
  have jL:JdV ps H12 (.ref la) true:=jd_late hH hx hy nyx lx ly pow12 hla12 hpm12
  have jG:JdV ps H12 (.ref ga) true:=jd_good hH hx lx (s912 _ _ hga9) (s912 _ _ hpf9)
  have hL12:=s12 _ _ hL10
  have jU12:∀ v ∈ us,JdV ps H12 v false:=fun v hv=>(hall v hv).same s12
  have hb12:=s912 _ _ hb9
  have hrw12:=s912 _ _ hrw9
  have hR12:=s912 _ _ hR9
  have hpl12:=s912 _ _ hpl9
  have hP12:=house_same hP9 s912
  have hS12:=s912.seq hS9
  refine ⟨_,rfl,_,rfl,_,rfl,a,_,rfl,hS12,fun q hq=>?_⟩
  obtain ⟨ms,ems⟩:=cut_map ns (some 2) (some 62)
  rw [ems]
  have hq13:upd H12 q (.lst (ms.map V.int)) q = some (.lst (ms.map V.int)):=upd_same
  have s13:=Same.upd (o:=.lst (ms.map V.int)) hq
  generalize upd H12 q (.lst (ms.map V.int)) = H13 at *
  have hlay:Lay x:=hH.lay x (ck_sub hx)
  refine ⟨q,rfl,⟨_,SqL.of hq13⟩,?_⟩
  refine for_list (xs:=ms.map V.int) (fun i σ H2=>∃ v9 v10 v11 v12:Option V,σ = [some (.ref a),some (.ref ph),some (.ref D),some (.ref G),some (.ref bk),some (.ref ga),some (.ref R),some (.ref L),some (.ref la),v9,v10,v11,v12] /\ Same H13 H2) ⟨none,none,none,none,rfl,Same.refl _⟩ ?_ ?_ ?_
  ·rintro i σ H2 hi ⟨v9,v10,v11,v12,rfl,s2⟩
   exact SqL.of (s2 _ _ hq13)
  ·rintro i u σ H2 hu ⟨v9,v10,v11,v12,rfl,s2⟩
   rw [List.getElem?_map] at hu
   obtain ⟨c,hc,rfl⟩:=Option.map_eq_some_iff.mp hu
   have sA:=s13.trans s2
   have hL2:=sA _ _ hL12
   refine ⟨_,rfl,_,rfl,c,1,rfl,⟨by decide,by decide⟩,fun m1 hm1=>?_⟩
   obtain ⟨hne1,v,hv,hat⟩:=pick_us lus m1
   refine ⟨_,rfl,_,_,rfl,.inl ⟨_,SqL.of hL2,rfl⟩,_,_,rfl,rfl,hne1,L,us,_,v,rfl,rfl,SqL.of hL2,hat,?_⟩
   refine ⟨_,rfl,c,2,rfl,⟨by decide,by decide⟩,fun m2 hm2=>⟨_,_,rfl,rfl,(show (4:Int) ≠ 0 by decide),?_⟩⟩
   refine ⟨_,rfl,sz (by simp),fun l1 h1=>⟨_,rfl,_,rfl,sz (by simp),fun l2 h2=>⟨_,rfl,_,rfl,_,rfl,sz (by simp),fun l3 h3=>⟨_,rfl,_,rfl,sz (by simp),fun l4 h4=>⟨sz (by simp),fun l5 h5=>?_⟩⟩⟩⟩⟩
   have k1:=Same.upd (o:=.lst [v]) h1
   have k2:=Same.upd (o:=.lst [v,.ref ga]) h2
   have k3:=Same.upd (o:=.lst [.ref ga,v,.ref ga]) h3
   have k4:=Same.upd (o:=.lst [.ref la,v]) h4
   have k5:=Same.upd (o:=.lst [.ref l1,.ref l2,.ref l3,.ref l4]) h5
   have g1:=(k2.trans (k3.trans (k4.trans k5))) _ _ (upd_same (H:=H2) (a:=l1) (o:=.lst [v]))
   have g2:=(k3.trans (k4.trans k5)) _ _ (upd_same (H:=upd H2 l1 (.lst [v])) (a:=l2) (o:=.lst [v,.ref ga]))
   have g3:=(k4.trans k5) _ _ (upd_same (H:=upd (upd H2 l1 (.lst [v])) l2 (.lst [v,.ref ga])) (a:=l3) (o:=.lst [.ref ga,v,.ref ga]))
   have g4:=k5 _ _ (upd_same (H:=upd (upd (upd H2 l1 (.lst [v])) l2 (.lst [v,.ref ga])) l3 (.lst [.ref ga,v,.ref ga])) (a:=l4) (o:=.lst [.ref la,v]))
   have g5:upd (upd (upd (upd (upd H2 l1 (.lst [v])) l2 (.lst [v,.ref ga])) l3 (.lst [.ref ga,v,.ref ga])) l4 (.lst [.ref la,v])) l5 (.lst [.ref l1,.ref l2,.ref l3,.ref l4]) l5 = some (.lst [.ref l1,.ref l2,.ref l3,.ref l4]):=upd_same
   have sB:=sA.trans (k1.trans (k2.trans (k3.trans (k4.trans k5))))
   have sB2:=k1.trans (k2.trans (k3.trans (k4.trans k5)))
   generalize upd (upd (upd (upd (upd H2 l1 (.lst [v])) l2 (.lst [v,.ref ga])) l3 (.lst [.ref ga,v,.ref ga])) l4 (.lst [.ref la,v])) l5 (.lst [.ref l1,.ref l2,.ref l3,.ref l4]) = H5 at *
   obtain ⟨l,ys,j,hatl,hly,hyj,hgd⟩:=four g1 g2 g3 g4 (jG.same sB) (jL.same sB) m2
   refine ⟨_,rfl,l5,_,_,_,rfl,rfl,SqL.of g5,hatl,?_⟩
   refine ⟨_,rfl,_,rfl,l,ys,rfl,.inl (SqL.of hly),fun dl hdl=>?_⟩
   have k6:=Same.upd (o:=.lst ys) hdl
   have sC:=sB.trans k6
   refine ⟨bk,dx,pl,rw1,tk1,wn1,pt,dl,_,xs,ys,ps,rfl,sC _ _ hb12,sC _ _ hpl12,house_same hP12 sC,hH,upd_same,.inl ⟨j,v,hyj,(jU12 v hv).same sC,fun i u hi hu=>(hgd i u hi hu).same k6,fun H6 s6 p H7 s7 hp7=>?_⟩⟩
   have sD:=sC.trans (s6.trans s7)
   have s25:=sB2.trans (k6.trans (s6.trans s7))
   refine ⟨_,rfl,sz (by simp),fun p2 hp2=>?_⟩
   have k7:=Same.upd (o:=.tup NDD) hp2
   refine ⟨dN,dN,repN (k7 _ _ hp7),repN upd_same,dpN,_,rfl,?_⟩
   rw [neN]
   refine iteF ?_
   have sE:=sD.trans k7
   have s2E:=s25.trans k7
   generalize upd H7 p2 (.tup NDD) = H8' at *
   refine ⟨_,rfl,bk,dx,_,rfl,sE _ _ hb12,m_deeds,bk,dx,rw1,_,_,_,_,_,_,rfl,sE _ _ hb12,sE _ _ hrw12,fun lr hlr=>?_⟩
   have k8:=Same.upd (o:=.lst ([] ++ List.replicate n (.ref ga))) hlr
   have sF:=sE.trans k8
   have s2F:=s2E.trans k8
   refine ⟨_,rfl,.list (List.replicate n (dG x)),.list (List.replicate n (dG x)),repL (SqL.of (upd_same (o:=.lst (List.replicate n (.ref ga))))) (repsR (repG hlay ((s912.trans sF) _ _ hga9) ((s912.trans sF) _ _ hpf9)) n),repL (SqL.of (sF _ _ hR12)) (repsR (repG hlay ((s912.trans sF) _ _ hga9) ((s912.trans sF) _ _ hpf9)) n),(okList (okR (okG x) n)).1,_,rfl,?_⟩
   rw [neL (okR (okG x) n)]
   refine iteF ?_
   generalize upd H8' lr (.lst ([] ++ List.replicate n (.ref ga))) = H9' at *
   have lrep:(List.replicate n (V.ref ga)).length = n:=List.length_replicate
   refine ⟨_,rfl,_,rfl,_,rfl,_,_,rfl,.inl ⟨_,SqL.of (sF _ _ hR12),rfl⟩,c,_,rfl,by lia,by rw [lrep]; lia,fun kq' H10' ty s10' hty hik=>?_⟩
   have sG:=sF.trans s10'
   refine ⟨bk,dx,rw1,_,_,_,_,_,_,kq',ty,rfl,sG _ _ hb12,sG _ _ hrw12,hty,fun i e=>hik i e,fun p H11' s11' hp11=>?_⟩
   refine ⟨_,rfl,sz (by simp),fun p3 hp3=>?_⟩
   have k9:=Same.upd (o:=.tup NDD) hp3
   refine ⟨dN,dN,repN (k9 _ _ hp11),repN upd_same,dpN,_,rfl,?_⟩
   rw [neN]
   refine iteF ?_
   have sI:=sG.trans (s11'.trans k9)
   have s2I:=s2F.trans (s10'.trans (s11'.trans k9))
   generalize upd H11' p3 (.tup NDD) = H12' at *
   refine ⟨_,rfl,bk,dx,_,rfl,sI _ _ hb12,m_deeds,bk,dx,rw1,_,_,_,_,_,_,rfl,sI _ _ hb12,sI _ _ hrw12,fun lr2 hlr2=>?_⟩
   have k10:=Same.upd (o:=.lst ([] ++ List.replicate n (.ref ga))) hlr2
   have sJ:=sI.trans k10
   refine ⟨_,rfl,.list (List.replicate n (dG x)),.list (List.replicate n (dG x)),repL (SqL.of (upd_same (o:=.lst (List.replicate n (.ref ga))))) (repsR (repG hlay ((s912.trans sJ) _ _ hga9) ((s912.trans sJ) _ _ hpf9)) n),repL (SqL.of (sJ _ _ hR12)) (repsR (repG hlay ((s912.trans sJ) _ _ hga9) ((s912.trans sJ) _ _ hpf9)) n),(okList (okR (okG x) n)).1,_,rfl,?_⟩
   rw [neL (okR (okG x) n)]
   exact ⟨_,_,_,_,rfl,s2.trans (s2I.trans k10)⟩
  ·rintro σ H2 ⟨v9,v10,v11,v12,rfl,s2⟩
   have sA:=s13.trans s2
   have s9A:=s912.trans sA
   refine ⟨_,rfl,_,rfl,sz (by simp),fun ya hya=>⟨sz (by simp),fun ld hld=>?_⟩⟩
   have k1:=Same.upd (o:=.tup [.str (Str.ofString "year")]) hya
   have k2:=Same.upd (o:=.lst [.ref ga,.ref ya]) hld
   have hya2:=k2 _ _ (upd_same (H:=H2) (a:=ya) (o:=.tup [.str (Str.ofString "year")]))
   have hld2:upd (upd H2 ya (.tup [.str (Str.ofString "year")])) ld (.lst [.ref ga,.ref ya]) ld = some (.lst [.ref ga,.ref ya]):=upd_same
   have sB:=s9A.trans (k1.trans k2)
   have npl:pt ≠ ld:=fun e=>by subst e; rw [(s9A.trans k1) _ _ hpt9] at hld; cases hld
   generalize upd (upd H2 ya (.tup [.str (Str.ofString "year")])) ld (.lst [.ref ga,.ref ya]) = H14 at *
   have hga14:=sB _ _ hga9
   have hpf14:=sB _ _ hpf9
   have fr14:FrV H14 (.ref pf) (1 / 10000):=⟨pf,rfl,by rw [efq]; exact hpf14⟩
   have hb14:=sB _ _ hb9
   have hpt14:=sB _ _ hpt9
   refine ⟨bk,dx,pl,rw1,tk1,wn1,pt,ld,_,xs,[.ref ga,.ref ya],ps,rfl,hb14,sB _ _ hpl9,house_same hP9 sB,hH,hld2,.inr ⟨fun u hu=>?_,rfl,hro,n1,m1,m2,npl,_,tv1,_,kv1,x,0 + n,1,1,sB _ _ hrw9,sB _ _ htk9,sB _ _ hwn9,hpt14,?_,?_,?_,w9.kp sB.kpd,hx,by lia,by lia,.cons ⟨ga,_,rfl,hga14,fr14⟩ (.cons ⟨ya,rfl,hya2⟩ .nil),fun rw2 tk2 wn2 t2 tv2 kv2 H20 kq20 hb20 hrw20 htk20 ltv20 hwn20 w20 ht20 hpt20 m3 m4 p hp=>?_⟩⟩
   ·rcases List.mem_cons.mp hu with rfl | hu
    ·exact jd_good hH hx lx hga14 hpf14
    ·rw [List.mem_singleton.mp hu]; exact jd_year hya2
   ·show (List.replicate n (V.ref ga)).length <= 50
    rw [List.length_replicate]; lia
   ·rw [ltv9]; show 0 + n <= 50; lia
   ·show 1 <= 50; decide
   have ke:∀ {c:Addr} {o:HO},H14 c = some o->(∀ C d f,o ≠ .ins C d f)->c ≠ pt->H20 c = some o:=fun {c o} e n1 n2=>kq20 c o e (fun z=>by subst z; rw [hb14] at e; cases e; exact n1 _ _ _ rfl) n2
   have kt:∀ c zs,H14 c = some (.tup zs)->H20 c = some (.tup zs):=fun c zs e=>ke e (fun _ _ _ z=>nomatch z) (ne_of e hpt14 (by intro z; cases z))
   have hga20:=kt _ _ hga14
   have hpf20:=kt _ _ hpf14
   have hya20:=kt _ _ hya2
   have hR20:=ke (sB _ _ hR9) (fun _ _ _ z=>nomatch z) (Ne.symm npR)
   have hpl20:=ke (sB _ _ hpl9) (fun _ _ _ z=>nomatch z) (Ne.symm n1)
   have hrw1:=ke (sB _ _ hrw9) (fun _ _ _ z=>nomatch z) (Ne.symm m1)
   have hrw0:=ke (sB _ _ hrw09) (fun _ _ _ z=>nomatch z) (Ne.symm n2)
   have ht1:=kt _ _ (sB _ _ ht9)
   have hP20:=Paired.mapP (house_same hP9 sB) fun _ _ f=>f.tup kt
   have k3:=Same.upd (o:=.tup GOES) hp
   refine ⟨_,rfl,sz (by simp),fun p2 hp2=>?_⟩
   have k4:=Same.upd (o:=.tup GOES) hp2
   refine ⟨dGo,dGo,repGo (k4 _ _ upd_same),repGo upd_same,dpGo,_,rfl,?_⟩
   rw [neGo]
   refine iteF ?_
   have sC:=k3.trans k4
   generalize upd (upd H20 p (.tup GOES)) p2 (.tup GOES) = H22 at *
   refine ⟨_,rfl,sz (by simp),fun l2 hl2=>?_⟩
   have sC2:=sC.trans (Same.upd (o:=.lst [.non]) hl2)
   refine ⟨bk,dx,pl,rw2,tk2,wn2,pt,l2,_,xs,[.non],ps,rfl,sC2 _ _ hb20,sC2 _ _ hpl20,house_same hP20 sC2,hH,upd_same,.inl ⟨0,.non,rfl,b_ty (show tyS _ V.non = some "NoneType" from rfl) (by decide),(fun i u hi=>by lia),fun H23 s23 p3 H24 s24 hp24=>?_⟩⟩
   refine ⟨_,rfl,sz (by simp),fun p4 hp4=>?_⟩
   have k5:=Same.upd (o:=.tup NDD) hp4
   refine ⟨dN,dN,repN (k5 _ _ hp24),repN upd_same,dpN,_,rfl,?_⟩
   rw [neN]
   refine iteF ?_
   have sD:=sC2.trans (s23.trans (s24.trans k5))
   generalize upd H24 p4 (.tup NDD) = H25 at *
   refine ⟨_,rfl,bk,dx,_,rfl,sD _ _ hb20,m_deeds,bk,dx,rw2,_,_,_,_,_,_,rfl,sD _ _ hb20,sD _ _ hrw20,fun lr hlr=>?_⟩
   have k6:=Same.upd (o:=.lst (([] ++ List.replicate n (.ref ga)) ++ [.ref ga,.ref ya])) hlr
   have hlr26:upd H25 lr (.lst (([] ++ List.replicate n (.ref ga)) ++ [.ref ga,.ref ya])) lr = some (.lst (List.replicate n (.ref ga) ++ [.ref ga,.ref ya])):=upd_same
   have sE:=sD.trans k6
   generalize upd H25 lr (.lst (([] ++ List.replicate n (.ref ga)) ++ [.ref ga,.ref ya])) = H26 at *
   refine ⟨_,rfl,_,rfl,sz (by simp),fun yb hyb=>⟨sz (by simp),fun l6 hl6=>?_⟩⟩
   have k7:=Same.upd (o:=.tup [.str (Str.ofString "year")]) hyb
   have k8:=Same.upd (o:=.lst [.ref ga,.ref yb]) hl6
   have hyb28:=k8 _ _ (upd_same (H:=H26) (a:=yb) (o:=.tup [.str (Str.ofString "year")]))
   have hl628:upd (upd H26 yb (.tup [.str (Str.ofString "year")])) l6 (.lst [.ref ga,.ref yb]) l6 = some (.lst [.ref ga,.ref yb]):=upd_same
   have k78:=k7.trans k8
   generalize upd (upd H26 yb (.tup [.str (Str.ofString "year")])) l6 (.lst [.ref ga,.ref yb]) = H28 at *
   have sF:=sE.trans k78
   refine ⟨R,l6,List.replicate n (.ref ga),[.ref ga,.ref yb],rfl,rfl,sF _ _ hR20,hl628,sz (by rw [List.length_replicate]; show n + 2 <= 1000; lia),fun l7 hl7=>?_⟩
   have k9:=Same.upd (o:=.lst (List.replicate n (.ref ga) ++ [.ref ga,.ref yb])) hl7
   have sG:=sF.trans k9
   have rg:=repG (K:=K) hlay (sG _ _ hga20) (sG _ _ hpf20)
   refine ⟨.list (List.replicate n (dG x) ++ [dG x,dY]),.list (List.replicate n (dG x) ++ [dG x,dY]),repL (SqL.of ((k78.trans k9) _ _ hlr26)) (repsA (repsR rg n) (repsC rg (repsC (repY (sG _ _ hya20)) reps0))),repL (SqL.of upd_same) (repsA (repsR rg n) (repsC rg (repsC (repY (k9 _ _ hyb28)) reps0))),(okList (okA n)).1,_,rfl,?_⟩
   rw [neL (okA n)]
   refine iteF ?_
   generalize upd H28 l7 (.lst (List.replicate n (.ref ga) ++ [.ref ga,.ref yb])) = H29 at *
   have hb29:=sG _ _ hb20
   refine ⟨_,rfl,bk,dx,_,rfl,hb29,m_year,bk,dx,_,_,_,_,_,_,rfl,hb29,rfl,_,rfl,?_⟩
   refine iteF ?_
   have hpt29:=sG _ _ hpt20
   have ht29:=sG _ _ ht20
   refine ⟨_,rfl,bk,dx,_,rfl,hb29,m_undo,bk,dx,pt,_,_,_,_,_,_,rfl,hb29,hpt29,(by show 2 <= 100; decide),.inr ⟨[.ref t1],t2,_,_,_,3,rfl,ht29,?_⟩⟩
   have nbp:bk ≠ pt:=ne_of hb29 hpt29 (by intro z; cases z)
   have ku:∀ {c:Addr} {o:HO},H29 c = some o->c ≠ pt->c ≠ bk->upd (upd H29 pt (.lst [.ref t1])) bk (.ins ca.Book dx (bfs (.ref pl) (.ref rw1) (.ref tk1) (.ref wn1) 3 (.ref pt))) c = some o:=fun {c o} e n1 n2=>by rw [upd_ne n2,upd_ne n1]; exact e
   have hb30:upd (upd H29 pt (.lst [.ref t1])) bk (.ins ca.Book dx (bfs (.ref pl) (.ref rw1) (.ref tk1) (.ref wn1) 3 (.ref pt))) bk = some (.ins ca.Book dx (bfs (.ref pl) (.ref rw1) (.ref tk1) (.ref wn1) 3 (.ref pt))):=upd_same
   have hpt30:upd (upd H29 pt (.lst [.ref t1])) bk (.ins ca.Book dx (bfs (.ref pl) (.ref rw1) (.ref tk1) (.ref wn1) 3 (.ref pt))) pt = some (.lst [.ref t1]):=by rw [upd_ne (Ne.symm nbp)]; exact upd_same
   have hrw130:=ku (sG _ _ hrw1) (Ne.symm m1) (ne_of (sG _ _ hrw1) hb29 (by intro z; cases z))
   have hrw030:=ku (sG _ _ hrw0) (Ne.symm n2) (ne_of (sG _ _ hrw0) hb29 (by intro z; cases z))
   have hR30:=ku (sG _ _ hR20) (Ne.symm npR) (ne_of (sG _ _ hR20) hb29 (by intro z; cases z))
   have hga30:=ku (sG _ _ hga20) (ne_of (sG _ _ hga20) hpt29 (by intro z; cases z)) (ne_of (sG _ _ hga20) hb29 (by intro z; cases z))
   have hpf30:=ku (sG _ _ hpf20) (ne_of (sG _ _ hpf20) hpt29 (by intro z; cases z)) (ne_of (sG _ _ hpf20) hb29 (by intro z; cases z))
   have ht130:=ku (sG _ _ ht1) (ne_of (sG _ _ ht1) hpt29 (by intro z; cases z)) (ne_of (sG _ _ ht1) hb29 (by intro z; cases z))
   generalize upd (upd H29 pt (.lst [.ref t1])) bk (.ins ca.Book dx (bfs (.ref pl) (.ref rw1) (.ref tk1) (.ref wn1) 3 (.ref pt))) = H30 at *
   refine ⟨_,rfl,bk,dx,_,rfl,hb30,m_deeds,bk,dx,rw1,_,_,_,_,_,_,rfl,hb30,hrw130,fun lq hlq=>?_⟩
   have kA:=Same.upd (o:=.lst ([] ++ List.replicate n (.ref ga))) hlq
   have rg2:=repG (K:=K) hlay (kA _ _ hga30) (kA _ _ hpf30)
   refine ⟨_,rfl,.list (List.replicate n (dG x)),.list (List.replicate n (dG x)),repL (SqL.of (upd_same (o:=.lst (List.replicate n (.ref ga))))) (repsR rg2 n),repL (SqL.of (kA _ _ hR30)) (repsR rg2 n),(okList (okR (okG x) n)).1,_,rfl,?_⟩
   rw [neL (okR (okG x) n)]
   refine iteF ?_
   generalize upd H30 lq (.lst ([] ++ List.replicate n (.ref ga))) = H31 at *
   have hb31:=kA _ _ hb30
   have hpt31:=kA _ _ hpt30
   refine ⟨_,rfl,bk,dx,_,rfl,hb31,m_undo,bk,dx,pt,_,_,_,_,_,_,rfl,hb31,hpt31,(by show 1 <= 100; decide),.inr ⟨[],t1,_,_,_,3,rfl,kA _ _ ht130,?_⟩⟩
   have hb32:upd (upd H31 pt (.lst [])) bk (.ins ca.Book dx (bfs (.ref pl) (.ref rw) (.ref tk) (.ref wn) 3 (.ref pt))) bk = some (.ins ca.Book dx (bfs (.ref pl) (.ref rw) (.ref tk) (.ref wn) 3 (.ref pt))):=upd_same
   have hpt32:upd (upd H31 pt (.lst [])) bk (.ins ca.Book dx (bfs (.ref pl) (.ref rw) (.ref tk) (.ref wn) 3 (.ref pt))) pt = some (.lst []):=by rw [upd_ne (Ne.symm nbp)]; exact upd_same
   have hrw32:upd (upd H31 pt (.lst [])) bk (.ins ca.Book dx (bfs (.ref pl) (.ref rw) (.ref tk) (.ref wn) 3 (.ref pt))) rw = some (.lst []):=by rw [upd_ne (ne_of hrw030 hb30 (by intro z; cases z)),upd_ne (Ne.symm n2)]; exact kA _ _ hrw030
   generalize upd (upd H31 pt (.lst [])) bk (.ins ca.Book dx (bfs (.ref pl) (.ref rw) (.ref tk) (.ref wn) 3 (.ref pt))) = H32 at *
   refine ⟨_,rfl,bk,dx,_,rfl,hb32,m_deeds,bk,dx,rw,_,_,_,_,_,_,rfl,hb32,hrw32,fun lz1 hlz1=>?_⟩
   have kB:=Same.upd (o:=.lst []) hlz1
   have hlzz:upd H32 lz1 (.lst []) lz1 = some (.lst []):=upd_same
   generalize upd H32 lz1 (.lst []) = H33 at *
   refine ⟨sz (by simp),fun lz2 hlz2=>?_⟩
   have kC:=Same.upd (o:=.lst []) hlz2
   refine ⟨.list [],.list [],repL (SqL.of (kC _ _ hlzz)) reps0,repL (SqL.of upd_same) reps0,(okList (l:=[]) (fun _ z=>nomatch z)).1,_,rfl,?_⟩
   rw [(okList (l:=[]) (fun _ z=>nomatch z)).2]
   refine iteT ?_
   refine ⟨_,rfl,bk,dx,pt,_,_,_,_,_,rfl,(kB.trans kC) _ _ hb32,(kB.trans kC) _ _ hpt32,fun H34 s34=>⟨rfl,?_⟩⟩
   have e:decide (V.str (Str.ofString "nochange") = V.str (Str.ofString "nochange")) = true:=decide_eq_true rfl
   rw [e]
   exact k H34
end
end T52
namespace T52
open PySem L2 Tc
theorem topd_mk {K:PySem.W.Frag} {w:World} {a:Addr} {ob:Obj} {es:Array DictEntry} {n:Nat} {kvs:List (Str × Int)} (l:K.lookup a = some ob) (c:ob = ⟨.type "dict",none,.dict es n,#[]⟩) (k:KeysAre w.params es.toList kvs) (o:(a == sysModules) = false):TopD K w a kvs:=⟨⟨es,n,c ▸ l,k⟩,o⟩
theorem all_mk {l:PySem.W.OpenLaw} {w:World} {K:PySem.W.Frag} {h:Heap} {mg:Str->Option Value} {fa:Addr} (X:K.In h) (G:h.Ns mainGlobals mg) (hfa:mg "law" = some (.ref fa))
  {k_Book:Addr}
  {k_Full:Addr}
  {k_Lacking:Addr}
  {k_NoCask:Addr}
  {k_NoChange:Addr}
  {k_NoDeed:Addr}
  {k_NoNumber:Addr}
  {k_NoPlace:Addr}
  {k_NotSteady:Addr}
  {k_Tied:Addr}
  {k_TierError:Addr}
  {k_LENGTHS:Addr}
  {f48:Addr} {oc48 kV48 dc48 pm48 cd48 ct48:Value} {od48 an48:Option Addr} {sl48:Array (Option Value)}
  (D_is_name:DefAt K mg "is_name" s_is_name)
  (D_kinds_of:DefAt K mg "kinds_of" s_kinds_of)
  (D_wanted:DefAt K mg "wanted" s_wanted)
  (D_check_place:DefAt K mg "check_place" s_check_place)
  (D_check_plain:DefAt K mg "check_plain" s_check_plain)
  (D_is_whole:DefAt K mg "is_whole" s_is_whole)
  (D_common_divisor:DefAt K mg "common_divisor" s_common_divisor)
  (D_is_fraction:DefAt K mg "is_fraction" s_is_fraction)
  (D_plus:DefAt K mg "plus" s_plus)
  (D_minus:DefAt K mg "minus" s_minus)
  (D_times:DefAt K mg "times" s_times)
  (D_over:DefAt K mg "over" s_over)
  (D_under:DefAt K mg "under" s_under)
  (D_sum_of:DefAt K mg "sum_of" s_sum_of)
  (D_poured:DefAt K mg "poured" s_poured)
  (D_total:DefAt K mg "total" s_total)
  (D_copied:DefAt K mg "copied" s_copied)
  (D_totals_of:DefAt K mg "totals_of" s_totals_of)
  (D_rooms_of:DefAt K mg "rooms_of" s_rooms_of)
  (D_check_room:DefAt K mg "check_room" s_check_room)
  (D_share_of:DefAt K mg "share_of" s_share_of)
  (D_step_of:DefAt K mg "step_of" s_step_of)
  (D_add_step:DefAt K mg "add_step" s_add_step)
  (D_pour_step:DefAt K mg "pour_step" s_pour_step)
  (D_steps_of:DefAt K mg "steps_of" s_steps_of)
  (D_gone:DefAt K mg "gone" s_gone)
  (D_empty:DefAt K mg "empty" s_empty)
  (D_is_measure:DefAt K mg "is_measure" s_is_measure)
  (D_has_form:DefAt K mg "has_form" s_has_form)
  (D_check_deed:DefAt K mg "check_deed" s_check_deed)
  (D__law_cell_at:DefAt K mg "_law_cell_at" s__law_cell_at)
  (D__law_mixed:DefAt K mg "_law_mixed" s__law_mixed)
  (D__law_names:DefAt K mg "_law_names" s__law_names)
  (D__law_low:DefAt K mg "_law_low" s__law_low)
  (D__law_house:DefAt K mg "_law_house" s__law_house)
  (D__law_kind:DefAt K mg "_law_kind" s__law_kind)
  (D_Book_keep:MethDef K k_Book "keep" "Book.keep" s_Book_keep)
  (D_Book_put:MethDef K k_Book "put" "Book.put" s_Book_put)
  (D__law_put_in:DefAt K mg "_law_put_in" s__law_put_in)
  (D_Book_strike:MethDef K k_Book "strike" "Book.strike" s_Book_strike)
  (D__law_struck:DefAt K mg "_law_struck" s__law_struck)
  (D_Book_undo:MethDef K k_Book "undo" "Book.undo" s_Book_undo)
  (D__law_undone:DefAt K mg "_law_undone" s__law_undone)
  (D__law_things:DefAt K mg "_law_things" s__law_things)
  (D__law_no_number:DefAt K mg "_law_no_number" s__law_no_number)
  (D_Book___init__:MakeDef K k_Book "Book.__init__" s_Book___init__)
  (D_Book_deeds:MethDef K k_Book "deeds" "Book.deeds" s_Book_deeds)
  (D_Book_year:MethDef K k_Book "year" "Book.year" s_Book_year)
  (a48:PySem.W.nsIn K mainGlobals "law" = some (some (.ref f48))) (l48:K.lookup f48 = some ⟨oc48,od48,.func (PySem.W.fnOf "law" "law" (defArgs s_law) (defBody s_law) (defScope s_law) .none kV48 dc48 pm48 an48 cd48 ct48),sl48⟩) (c48:PySem.W.codeIn K cd48 "law" = true) (k48:PySem.W.keepIn K (.ref f48) = true)
  (z_ValueError:PySem.W.nsIn K mainGlobals "ValueError" = some none)
  (z_abs:PySem.W.nsIn K mainGlobals "abs" = some none)
  (z_all:PySem.W.nsIn K mainGlobals "all" = some none)
  (z_bool:PySem.W.nsIn K mainGlobals "bool" = some none)
  (z_dict:PySem.W.nsIn K mainGlobals "dict" = some none)
  (z_enumerate:PySem.W.nsIn K mainGlobals "enumerate" = some none)
  (z_int:PySem.W.nsIn K mainGlobals "int" = some none)
  (z_isinstance:PySem.W.nsIn K mainGlobals "isinstance" = some none)
  (z_len:PySem.W.nsIn K mainGlobals "len" = some none)
  (z_list:PySem.W.nsIn K mainGlobals "list" = some none)
  (z_range:PySem.W.nsIn K mainGlobals "range" = some none)
  (z_str:PySem.W.nsIn K mainGlobals "str" = some none)
  (z_tuple:PySem.W.nsIn K mainGlobals "tuple" = some none)
  {t_LETTERS:Tok} (w_LETTERS:PySem.W.nsIn K mainGlobals "LETTERS" = some (some (.str "abcdefghijklmnopqrstuvwxyz" t_LETTERS)))
  (y_Book:PySem.W.nsIn K mainGlobals "Book" = some (some (.ref k_Book)))
  (y_Full:PySem.W.nsIn K mainGlobals "Full" = some (some (.ref k_Full)))
  (y_Lacking:PySem.W.nsIn K mainGlobals "Lacking" = some (some (.ref k_Lacking)))
  (y_NoCask:PySem.W.nsIn K mainGlobals "NoCask" = some (some (.ref k_NoCask)))
  (y_NoChange:PySem.W.nsIn K mainGlobals "NoChange" = some (some (.ref k_NoChange)))
  (y_NoDeed:PySem.W.nsIn K mainGlobals "NoDeed" = some (some (.ref k_NoDeed)))
  (y_NoNumber:PySem.W.nsIn K mainGlobals "NoNumber" = some (some (.ref k_NoNumber)))
  (y_NoPlace:PySem.W.nsIn K mainGlobals "NoPlace" = some (some (.ref k_NoPlace)))
  (y_NotSteady:PySem.W.nsIn K mainGlobals "NotSteady" = some (some (.ref k_NotSteady)))
  (y_Tied:PySem.W.nsIn K mainGlobals "Tied" = some (some (.ref k_Tied)))
  (y_TierError:PySem.W.nsIn K mainGlobals "TierError" = some (some (.ref k_TierError)))
  (y_LENGTHS:PySem.W.nsIn K mainGlobals "LENGTHS" = some (some (.ref k_LENGTHS)))
  (hk_Book:Cls K k_Book)
  (n_Book_first:NoAttr K k_Book "first")
  (n_Book_now:NoAttr K k_Book "now")
  (n_Book_past:NoAttr K k_Book "past")
  (n_Book_places:NoAttr K k_Book "places")
  (n_Book_row:NoAttr K k_Book "row")
  (n_Book_taken:NoAttr K k_Book "taken")
  (n_Book_wines:NoAttr K k_Book "wines")
  (d_LENGTHS:TopD K w k_LENGTHS [("bring",4),("move",4),("part",4),("all",3),("fill",3),("year",1)])
  (e_NoCask:PySem.W.excIn K k_NoCask [.type "ValueError",.type "Exception",.type "BaseException",.type "object"] "ValueError.__new__" = true)
  (x_NoCask:ExcK K k_NoCask)
  (i_NoCask_Full:PySem.W.kitOne K (.ref k_NoCask) (.ref k_Full) = some false)
  (m_NoCask_Full:PySem.W.exmOne K (.ref k_NoCask) (.ref k_Full) = some false)
  (i_NoCask_Lacking:PySem.W.kitOne K (.ref k_NoCask) (.ref k_Lacking) = some false)
  (m_NoCask_Lacking:PySem.W.exmOne K (.ref k_NoCask) (.ref k_Lacking) = some false)
  (i_NoCask_NoCask:PySem.W.kitOne K (.ref k_NoCask) (.ref k_NoCask) = some true)
  (m_NoCask_NoCask:PySem.W.exmOne K (.ref k_NoCask) (.ref k_NoCask) = some true)
  (i_NoCask_NoChange:PySem.W.kitOne K (.ref k_NoCask) (.ref k_NoChange) = some false)
  (m_NoCask_NoChange:PySem.W.exmOne K (.ref k_NoCask) (.ref k_NoChange) = some false)
  (i_NoCask_NoDeed:PySem.W.kitOne K (.ref k_NoCask) (.ref k_NoDeed) = some false)
  (m_NoCask_NoDeed:PySem.W.exmOne K (.ref k_NoCask) (.ref k_NoDeed) = some false)
  (i_NoCask_NoNumber:PySem.W.kitOne K (.ref k_NoCask) (.ref k_NoNumber) = some false)
  (m_NoCask_NoNumber:PySem.W.exmOne K (.ref k_NoCask) (.ref k_NoNumber) = some false)
  (i_NoCask_NoPlace:PySem.W.kitOne K (.ref k_NoCask) (.ref k_NoPlace) = some false)
  (m_NoCask_NoPlace:PySem.W.exmOne K (.ref k_NoCask) (.ref k_NoPlace) = some false)
  (i_NoCask_NotSteady:PySem.W.kitOne K (.ref k_NoCask) (.ref k_NotSteady) = some false)
  (m_NoCask_NotSteady:PySem.W.exmOne K (.ref k_NoCask) (.ref k_NotSteady) = some false)
  (i_NoCask_Tied:PySem.W.kitOne K (.ref k_NoCask) (.ref k_Tied) = some false)
  (m_NoCask_Tied:PySem.W.exmOne K (.ref k_NoCask) (.ref k_Tied) = some false)
  (i_NoCask_TierError:PySem.W.kitOne K (.ref k_NoCask) (.ref k_TierError) = some true)
  (m_NoCask_TierError:PySem.W.exmOne K (.ref k_NoCask) (.ref k_TierError) = some true)
  (v_NoCask:PySem.W.kitOne K (.ref k_NoCask) (.type "ValueError") = some true)
  (e_NoChange:PySem.W.excIn K k_NoChange [.type "ValueError",.type "Exception",.type "BaseException",.type "object"] "ValueError.__new__" = true)
  (x_NoChange:ExcK K k_NoChange)
  (i_NoChange_Full:PySem.W.kitOne K (.ref k_NoChange) (.ref k_Full) = some false)
  (m_NoChange_Full:PySem.W.exmOne K (.ref k_NoChange) (.ref k_Full) = some false)
  (i_NoChange_Lacking:PySem.W.kitOne K (.ref k_NoChange) (.ref k_Lacking) = some false)
  (m_NoChange_Lacking:PySem.W.exmOne K (.ref k_NoChange) (.ref k_Lacking) = some false)
  (i_NoChange_NoCask:PySem.W.kitOne K (.ref k_NoChange) (.ref k_NoCask) = some false)
  (m_NoChange_NoCask:PySem.W.exmOne K (.ref k_NoChange) (.ref k_NoCask) = some false)
  (i_NoChange_NoChange:PySem.W.kitOne K (.ref k_NoChange) (.ref k_NoChange) = some true)
  (m_NoChange_NoChange:PySem.W.exmOne K (.ref k_NoChange) (.ref k_NoChange) = some true)
  (i_NoChange_NoDeed:PySem.W.kitOne K (.ref k_NoChange) (.ref k_NoDeed) = some false)
  (m_NoChange_NoDeed:PySem.W.exmOne K (.ref k_NoChange) (.ref k_NoDeed) = some false)
  (i_NoChange_NoNumber:PySem.W.kitOne K (.ref k_NoChange) (.ref k_NoNumber) = some false)
  (m_NoChange_NoNumber:PySem.W.exmOne K (.ref k_NoChange) (.ref k_NoNumber) = some false)
  (i_NoChange_NoPlace:PySem.W.kitOne K (.ref k_NoChange) (.ref k_NoPlace) = some false)
  (m_NoChange_NoPlace:PySem.W.exmOne K (.ref k_NoChange) (.ref k_NoPlace) = some false)
  (i_NoChange_NotSteady:PySem.W.kitOne K (.ref k_NoChange) (.ref k_NotSteady) = some false)
  (m_NoChange_NotSteady:PySem.W.exmOne K (.ref k_NoChange) (.ref k_NotSteady) = some false)
  (i_NoChange_Tied:PySem.W.kitOne K (.ref k_NoChange) (.ref k_Tied) = some false)
  (m_NoChange_Tied:PySem.W.exmOne K (.ref k_NoChange) (.ref k_Tied) = some false)
  (i_NoChange_TierError:PySem.W.kitOne K (.ref k_NoChange) (.ref k_TierError) = some true)
  (m_NoChange_TierError:PySem.W.exmOne K (.ref k_NoChange) (.ref k_TierError) = some true)
  (v_NoChange:PySem.W.kitOne K (.ref k_NoChange) (.type "ValueError") = some true)
  (e_NoDeed:PySem.W.excIn K k_NoDeed [.type "ValueError",.type "Exception",.type "BaseException",.type "object"] "ValueError.__new__" = true)
  (x_NoDeed:ExcK K k_NoDeed)
  (i_NoDeed_Full:PySem.W.kitOne K (.ref k_NoDeed) (.ref k_Full) = some false)
  (m_NoDeed_Full:PySem.W.exmOne K (.ref k_NoDeed) (.ref k_Full) = some false)
  (i_NoDeed_Lacking:PySem.W.kitOne K (.ref k_NoDeed) (.ref k_Lacking) = some false)
  (m_NoDeed_Lacking:PySem.W.exmOne K (.ref k_NoDeed) (.ref k_Lacking) = some false)
  (i_NoDeed_NoCask:PySem.W.kitOne K (.ref k_NoDeed) (.ref k_NoCask) = some false)
  (m_NoDeed_NoCask:PySem.W.exmOne K (.ref k_NoDeed) (.ref k_NoCask) = some false)
  (i_NoDeed_NoChange:PySem.W.kitOne K (.ref k_NoDeed) (.ref k_NoChange) = some false)
  (m_NoDeed_NoChange:PySem.W.exmOne K (.ref k_NoDeed) (.ref k_NoChange) = some false)
  (i_NoDeed_NoDeed:PySem.W.kitOne K (.ref k_NoDeed) (.ref k_NoDeed) = some true)
  (m_NoDeed_NoDeed:PySem.W.exmOne K (.ref k_NoDeed) (.ref k_NoDeed) = some true)
  (i_NoDeed_NoNumber:PySem.W.kitOne K (.ref k_NoDeed) (.ref k_NoNumber) = some false)
  (m_NoDeed_NoNumber:PySem.W.exmOne K (.ref k_NoDeed) (.ref k_NoNumber) = some false)
  (i_NoDeed_NoPlace:PySem.W.kitOne K (.ref k_NoDeed) (.ref k_NoPlace) = some false)
  (m_NoDeed_NoPlace:PySem.W.exmOne K (.ref k_NoDeed) (.ref k_NoPlace) = some false)
  (i_NoDeed_NotSteady:PySem.W.kitOne K (.ref k_NoDeed) (.ref k_NotSteady) = some false)
  (m_NoDeed_NotSteady:PySem.W.exmOne K (.ref k_NoDeed) (.ref k_NotSteady) = some false)
  (i_NoDeed_Tied:PySem.W.kitOne K (.ref k_NoDeed) (.ref k_Tied) = some false)
  (m_NoDeed_Tied:PySem.W.exmOne K (.ref k_NoDeed) (.ref k_Tied) = some false)
  (i_NoDeed_TierError:PySem.W.kitOne K (.ref k_NoDeed) (.ref k_TierError) = some true)
  (m_NoDeed_TierError:PySem.W.exmOne K (.ref k_NoDeed) (.ref k_TierError) = some true)
  (v_NoDeed:PySem.W.kitOne K (.ref k_NoDeed) (.type "ValueError") = some true)
  (e_NoNumber:PySem.W.excIn K k_NoNumber [.type "ValueError",.type "Exception",.type "BaseException",.type "object"] "ValueError.__new__" = true)
  (x_NoNumber:ExcK K k_NoNumber)
  (i_NoNumber_Full:PySem.W.kitOne K (.ref k_NoNumber) (.ref k_Full) = some false)
  (m_NoNumber_Full:PySem.W.exmOne K (.ref k_NoNumber) (.ref k_Full) = some false)
  (i_NoNumber_Lacking:PySem.W.kitOne K (.ref k_NoNumber) (.ref k_Lacking) = some false)
  (m_NoNumber_Lacking:PySem.W.exmOne K (.ref k_NoNumber) (.ref k_Lacking) = some false)
  (i_NoNumber_NoCask:PySem.W.kitOne K (.ref k_NoNumber) (.ref k_NoCask) = some false)
  (m_NoNumber_NoCask:PySem.W.exmOne K (.ref k_NoNumber) (.ref k_NoCask) = some false)
  (i_NoNumber_NoChange:PySem.W.kitOne K (.ref k_NoNumber) (.ref k_NoChange) = some false)
  (m_NoNumber_NoChange:PySem.W.exmOne K (.ref k_NoNumber) (.ref k_NoChange) = some false)
  (i_NoNumber_NoDeed:PySem.W.kitOne K (.ref k_NoNumber) (.ref k_NoDeed) = some false)
  (m_NoNumber_NoDeed:PySem.W.exmOne K (.ref k_NoNumber) (.ref k_NoDeed) = some false)
  (i_NoNumber_NoNumber:PySem.W.kitOne K (.ref k_NoNumber) (.ref k_NoNumber) = some true)
  (m_NoNumber_NoNumber:PySem.W.exmOne K (.ref k_NoNumber) (.ref k_NoNumber) = some true)
  (i_NoNumber_NoPlace:PySem.W.kitOne K (.ref k_NoNumber) (.ref k_NoPlace) = some false)
  (m_NoNumber_NoPlace:PySem.W.exmOne K (.ref k_NoNumber) (.ref k_NoPlace) = some false)
  (i_NoNumber_NotSteady:PySem.W.kitOne K (.ref k_NoNumber) (.ref k_NotSteady) = some false)
  (m_NoNumber_NotSteady:PySem.W.exmOne K (.ref k_NoNumber) (.ref k_NotSteady) = some false)
  (i_NoNumber_Tied:PySem.W.kitOne K (.ref k_NoNumber) (.ref k_Tied) = some false)
  (m_NoNumber_Tied:PySem.W.exmOne K (.ref k_NoNumber) (.ref k_Tied) = some false)
  (i_NoNumber_TierError:PySem.W.kitOne K (.ref k_NoNumber) (.ref k_TierError) = some true)
  (m_NoNumber_TierError:PySem.W.exmOne K (.ref k_NoNumber) (.ref k_TierError) = some true)
  (v_NoNumber:PySem.W.kitOne K (.ref k_NoNumber) (.type "ValueError") = some true)
  (e_NoPlace:PySem.W.excIn K k_NoPlace [.type "ValueError",.type "Exception",.type "BaseException",.type "object"] "ValueError.__new__" = true)
  (x_NoPlace:ExcK K k_NoPlace)
  (i_NoPlace_Full:PySem.W.kitOne K (.ref k_NoPlace) (.ref k_Full) = some false)
  (m_NoPlace_Full:PySem.W.exmOne K (.ref k_NoPlace) (.ref k_Full) = some false)
  (i_NoPlace_Lacking:PySem.W.kitOne K (.ref k_NoPlace) (.ref k_Lacking) = some false)
  (m_NoPlace_Lacking:PySem.W.exmOne K (.ref k_NoPlace) (.ref k_Lacking) = some false)
  (i_NoPlace_NoCask:PySem.W.kitOne K (.ref k_NoPlace) (.ref k_NoCask) = some false)
  (m_NoPlace_NoCask:PySem.W.exmOne K (.ref k_NoPlace) (.ref k_NoCask) = some false)
  (i_NoPlace_NoChange:PySem.W.kitOne K (.ref k_NoPlace) (.ref k_NoChange) = some false)
  (m_NoPlace_NoChange:PySem.W.exmOne K (.ref k_NoPlace) (.ref k_NoChange) = some false)
  (i_NoPlace_NoDeed:PySem.W.kitOne K (.ref k_NoPlace) (.ref k_NoDeed) = some false)
  (m_NoPlace_NoDeed:PySem.W.exmOne K (.ref k_NoPlace) (.ref k_NoDeed) = some false)
  (i_NoPlace_NoNumber:PySem.W.kitOne K (.ref k_NoPlace) (.ref k_NoNumber) = some false)
  (m_NoPlace_NoNumber:PySem.W.exmOne K (.ref k_NoPlace) (.ref k_NoNumber) = some false)
  (i_NoPlace_NoPlace:PySem.W.kitOne K (.ref k_NoPlace) (.ref k_NoPlace) = some true)
  (m_NoPlace_NoPlace:PySem.W.exmOne K (.ref k_NoPlace) (.ref k_NoPlace) = some true)
  (i_NoPlace_NotSteady:PySem.W.kitOne K (.ref k_NoPlace) (.ref k_NotSteady) = some false)
  (m_NoPlace_NotSteady:PySem.W.exmOne K (.ref k_NoPlace) (.ref k_NotSteady) = some false)
  (i_NoPlace_Tied:PySem.W.kitOne K (.ref k_NoPlace) (.ref k_Tied) = some false)
  (m_NoPlace_Tied:PySem.W.exmOne K (.ref k_NoPlace) (.ref k_Tied) = some false)
  (i_NoPlace_TierError:PySem.W.kitOne K (.ref k_NoPlace) (.ref k_TierError) = some true)
  (m_NoPlace_TierError:PySem.W.exmOne K (.ref k_NoPlace) (.ref k_TierError) = some true)
  (v_NoPlace:PySem.W.kitOne K (.ref k_NoPlace) (.type "ValueError") = some true)
 :∃ fd:FuncData,(∀ (s:Shared) (v:Value),BindsTo s fd ⟨[v],[]⟩ [("_law_script",v)]) /\ ∀ base:Heap,K.In base->base.Ns mainGlobals mg->FnOk l.prog w K mg base CX0 9 fa fd ["_law_script"] (spLaw K):=by
 have T:Txt K mg w (⟨k_Book,k_Full,k_Lacking,k_NoCask,k_NoChange,k_NoDeed,k_NoNumber,k_NoPlace,k_NotSteady,k_Tied,k_TierError,k_LENGTHS⟩:Ca):=⟨PySem.W.mg_none_of X G z_ValueError,PySem.W.mg_none_of X G z_abs,PySem.W.mg_none_of X G z_all,PySem.W.mg_none_of X G z_bool,PySem.W.mg_none_of X G z_dict,PySem.W.mg_none_of X G z_enumerate,PySem.W.mg_none_of X G z_int,PySem.W.mg_none_of X G z_isinstance,PySem.W.mg_none_of X G z_len,PySem.W.mg_none_of X G z_list,PySem.W.mg_none_of X G z_range,PySem.W.mg_none_of X G z_str,PySem.W.mg_none_of X G z_tuple,PySem.W.mg_of X G y_Book,PySem.W.mg_of X G y_Full,PySem.W.mg_of X G y_Lacking,PySem.W.mg_of X G y_NoCask,PySem.W.mg_of X G y_NoChange,PySem.W.mg_of X G y_NoDeed,PySem.W.mg_of X G y_NoNumber,PySem.W.mg_of X G y_NoPlace,PySem.W.mg_of X G y_NotSteady,PySem.W.mg_of X G y_Tied,PySem.W.mg_of X G y_TierError,PySem.W.mg_of X G y_LENGTHS,⟨_,PySem.W.mg_of X G w_LETTERS⟩,hk_Book,n_Book_first,n_Book_now,n_Book_past,n_Book_places,n_Book_row,n_Book_taken,n_Book_wines,d_LENGTHS,e_NoCask,x_NoCask,i_NoCask_Full,m_NoCask_Full,i_NoCask_Lacking,m_NoCask_Lacking,i_NoCask_NoCask,m_NoCask_NoCask,i_NoCask_NoChange,m_NoCask_NoChange,i_NoCask_NoDeed,m_NoCask_NoDeed,i_NoCask_NoNumber,m_NoCask_NoNumber,i_NoCask_NoPlace,m_NoCask_NoPlace,i_NoCask_NotSteady,m_NoCask_NotSteady,i_NoCask_Tied,m_NoCask_Tied,i_NoCask_TierError,m_NoCask_TierError,v_NoCask,e_NoChange,x_NoChange,i_NoChange_Full,m_NoChange_Full,i_NoChange_Lacking,m_NoChange_Lacking,i_NoChange_NoCask,m_NoChange_NoCask,i_NoChange_NoChange,m_NoChange_NoChange,i_NoChange_NoDeed,m_NoChange_NoDeed,i_NoChange_NoNumber,m_NoChange_NoNumber,i_NoChange_NoPlace,m_NoChange_NoPlace,i_NoChange_NotSteady,m_NoChange_NotSteady,i_NoChange_Tied,m_NoChange_Tied,i_NoChange_TierError,m_NoChange_TierError,v_NoChange,e_NoDeed,x_NoDeed,i_NoDeed_Full,m_NoDeed_Full,i_NoDeed_Lacking,m_NoDeed_Lacking,i_NoDeed_NoCask,m_NoDeed_NoCask,i_NoDeed_NoChange,m_NoDeed_NoChange,i_NoDeed_NoDeed,m_NoDeed_NoDeed,i_NoDeed_NoNumber,m_NoDeed_NoNumber,i_NoDeed_NoPlace,m_NoDeed_NoPlace,i_NoDeed_NotSteady,m_NoDeed_NotSteady,i_NoDeed_Tied,m_NoDeed_Tied,i_NoDeed_TierError,m_NoDeed_TierError,v_NoDeed,e_NoNumber,x_NoNumber,i_NoNumber_Full,m_NoNumber_Full,i_NoNumber_Lacking,m_NoNumber_Lacking,i_NoNumber_NoCask,m_NoNumber_NoCask,i_NoNumber_NoChange,m_NoNumber_NoChange,i_NoNumber_NoDeed,m_NoNumber_NoDeed,i_NoNumber_NoNumber,m_NoNumber_NoNumber,i_NoNumber_NoPlace,m_NoNumber_NoPlace,i_NoNumber_NotSteady,m_NoNumber_NotSteady,i_NoNumber_Tied,m_NoNumber_Tied,i_NoNumber_TierError,m_NoNumber_TierError,v_NoNumber,e_NoPlace,x_NoPlace,i_NoPlace_Full,m_NoPlace_Full,i_NoPlace_Lacking,m_NoPlace_Lacking,i_NoPlace_NoCask,m_NoPlace_NoCask,i_NoPlace_NoChange,m_NoPlace_NoChange,i_NoPlace_NoDeed,m_NoPlace_NoDeed,i_NoPlace_NoNumber,m_NoPlace_NoNumber,i_NoPlace_NoPlace,m_NoPlace_NoPlace,i_NoPlace_NotSteady,m_NoPlace_NotSteady,i_NoPlace_Tied,m_NoPlace_Tied,i_NoPlace_TierError,m_NoPlace_TierError,v_NoPlace⟩
 have e:=hfa.symm.trans (PySem.W.mg_of X G a48)
 cases e
 refine ⟨PySem.W.fnOf "law" "law" (defArgs s_law) (defBody s_law) (defScope s_law) .none kV48 dc48 pm48 an48 cd48 ct48,fun s v=>.of_eq rfl,fun base _ _=>?_⟩
 have G_is_name:=ok_is_name (P:=l.prog) (w:=w) (base:=base) D_is_name T
 have G_kinds_of:=ok_kinds_of (P:=l.prog) (w:=w) (base:=base) D_kinds_of T
 have G_wanted:=ok_wanted (P:=l.prog) (w:=w) (base:=base) D_wanted T
 have G_check_place:=ok_check_place (P:=l.prog) (w:=w) (base:=base) D_check_place T
 have G_check_plain:=ok_check_plain (P:=l.prog) (w:=w) (base:=base) D_check_plain T G_wanted G_check_place
 have G_is_whole:=ok_is_whole (P:=l.prog) (w:=w) (base:=base) D_is_whole T
 have G_common_divisor:=ok_common_divisor (P:=l.prog) (w:=w) (base:=base) D_common_divisor T
 have G_is_fraction:=ok_is_fraction (P:=l.prog) (w:=w) (base:=base) D_is_fraction T G_is_whole G_common_divisor
 have G_plus:=ok_plus (P:=l.prog) (w:=w) (base:=base) D_plus T G_common_divisor
 have G_minus:=ok_minus (P:=l.prog) (w:=w) (base:=base) D_minus T G_plus
 have G_times:=ok_times (P:=l.prog) (w:=w) (base:=base) D_times T G_common_divisor
 have G_over:=ok_over (P:=l.prog) (w:=w) (base:=base) D_over T G_times
 have G_under:=ok_under (P:=l.prog) (w:=w) (base:=base) D_under T
 have G_sum_of:=ok_sum_of (P:=l.prog) (w:=w) (base:=base) D_sum_of T G_plus
 have G_poured:=ok_poured (P:=l.prog) (w:=w) (base:=base) D_poured T G_plus
 have G_total:=ok_total (P:=l.prog) (w:=w) (base:=base) D_total T G_sum_of
 have G_copied:=ok_copied (P:=l.prog) (w:=w) (base:=base) D_copied T
 have G_totals_of:=ok_totals_of (P:=l.prog) (w:=w) (base:=base) D_totals_of T G_total
 have G_rooms_of:=ok_rooms_of (P:=l.prog) (w:=w) (base:=base) D_rooms_of T
 have G_check_room:=ok_check_room (P:=l.prog) (w:=w) (base:=base) D_check_room T G_under G_plus
 have G_share_of:=ok_share_of (P:=l.prog) (w:=w) (base:=base) D_share_of T G_minus G_under G_over
 have G_step_of:=ok_step_of (P:=l.prog) (w:=w) (base:=base) D_step_of T G_check_room G_share_of G_times
 have G_add_step:=ok_add_step (P:=l.prog) (w:=w) (base:=base) D_add_step T G_plus G_times G_minus
 have G_pour_step:=ok_pour_step (P:=l.prog) (w:=w) (base:=base) D_pour_step T G_poured
 have G_steps_of:=ok_steps_of (P:=l.prog) (w:=w) (base:=base) D_steps_of T G_rooms_of G_step_of G_add_step
 have G_gone:=ok_gone (P:=l.prog) (w:=w) (base:=base) D_gone T G_copied G_pour_step
 have G_empty:=ok_empty (P:=l.prog) (w:=w) (base:=base) D_empty T
 have G_is_measure:=ok_is_measure (P:=l.prog) (w:=w) (base:=base) D_is_measure T G_is_fraction G_under
 have G_has_form:=ok_has_form (P:=l.prog) (w:=w) (base:=base) D_has_form T G_is_name G_is_measure
 have G_check_deed:=ok_check_deed (P:=l.prog) (w:=w) (base:=base) D_check_deed T G_has_form G_check_plain
 have G__law_cell_at:=ok__law_cell_at (P:=l.prog) (w:=w) (base:=base) D__law_cell_at T
 have G__law_mixed:=ok__law_mixed (P:=l.prog) (w:=w) (base:=base) D__law_mixed T
 have G__law_names:=ok__law_names (P:=l.prog) (w:=w) (base:=base) D__law_names T G__law_mixed
 have G__law_low:=ok__law_low (P:=l.prog) (w:=w) (base:=base) D__law_low T
 have G__law_house:=ok__law_house (P:=l.prog) (w:=w) (base:=base) D__law_house T G__law_names G__law_mixed G__law_low
 have G__law_kind:=ok__law_kind (P:=l.prog) (w:=w) (base:=base) D__law_kind T
 have G_Book_keep:=ok_Book_keep (P:=l.prog) (w:=w) (base:=base) D_Book_keep T
 have G_Book_put:=ok_Book_put (P:=l.prog) (w:=w) (base:=base) D_Book_put T G_kinds_of G_check_deed G_steps_of G_totals_of G_Book_keep G_gone
 have G__law_put_in:=ok__law_put_in (P:=l.prog) (w:=w) (base:=base) D__law_put_in T G_Book_put G__law_kind
 have G_Book_strike:=ok_Book_strike (P:=l.prog) (w:=w) (base:=base) D_Book_strike T G_is_whole
 have G__law_struck:=ok__law_struck (P:=l.prog) (w:=w) (base:=base) D__law_struck T G_Book_strike G__law_kind
 have G_Book_undo:=ok_Book_undo (P:=l.prog) (w:=w) (base:=base) D_Book_undo T
 have G__law_undone:=ok__law_undone (P:=l.prog) (w:=w) (base:=base) D__law_undone T G_Book_undo G__law_kind
 have G__law_things:=ok__law_things (P:=l.prog) (w:=w) (base:=base) D__law_things T
 have G__law_no_number:=ok__law_no_number (P:=l.prog) (w:=w) (base:=base) D__law_no_number T
 have G_Book___init__:=ok_Book___init__ (P:=l.prog) (w:=w) (base:=base) D_Book___init__ T G_empty
 have G_Book_deeds:=ok_Book_deeds (P:=l.prog) (w:=w) (base:=base) D_Book_deeds T
 have G_Book_year:=ok_Book_year (P:=l.prog) (w:=w) (base:=base) D_Book_year T
 exact ok_law (fun_mk (st:=s_law) l48 c48 k48) T G__law_house G__law_cell_at G_Book___init__ G_Book_put G__law_things G__law_mixed G_Book_deeds G__law_put_in G__law_struck G__law_no_number G_Book_year G_Book_undo G__law_undone
end T52
namespace PySem.W.Fast
def tw10231314859065838453:=0
def tw6466799699769543618:=0
def tw15773677127106270912:=0
def tw13572953505102873288:=0
def tw9043246081835588711:=0
def tw14566687074162564254:=0
def tw1138335802179088618:=0
def tw17620473869459105924:=0
def tw11717300022602401177:=0
def tw3052571850358859811:=0
def tw17297794709806820266:=0
def tw1908925946024273162:=0
def tw11132596161839196284:=0
def tw4281696305741201993:=0
def tw6136554692321507903:=0
def tw14321964823095601076:=0
def tw8666511639116103208:=0
def tw8617113093807864440:=0
def tw8801478295765586471:=0
def tw4826664212802084695:=0
def tw4088890913971885419:=0
def tw17720288051943553506:=0
def tw4605388960634175568:=0
def tw5509161309468128968:=0
def tw16521723283930137915:=0
def tw8019322974751816674:=0
def tw15997162076951357026:=0
def tw15719382621995235471:=0
def tw4387773035490519618:=0
def tw3777403071319322600:=0
def tw9839550528418531281:=0
def tw15783760743023536010:=0
def tw6441798462371542706:=0
def tw11708507240520662188:=0
def tw12483845731078682738:=0
def tw162890850926386593:=0
def tw12183296044357201887:=0
def tw16984213861717073863:=0
def tw397101020288446691:=0
def tw17664913223009850381:=0
def tw5123412649548630096:=0
def tw14055162423051280828:=0
def tw10331842710905648135:=0
def tw2727311605956562448:=0
def tw10146473589647272522:=0
def tw14235794079277942082:=0
def tw16800283611509560460:=0
def tw1210251046509147541:=0
def tw918631362248079200:=0
def tw10920904207512709960:=0
def tw8511751693629742025:=0
def tw4878229632971791683:=0
def tw2409404577748837011:=0
def tw4982048148968057935:=0
def tw8338755600006506249:=0
def tw18012426077523880509:=0
def tw13304609124003660473:=0
def tw2559302262171351683:=0
def tw14128250143823717137:=0
def tw2392587259125862644:=0
def tw5553778526744171464:=0
def tw18365459241668957627:=0
def tw15577984986498434809:=0
def tw10746782844023543767:=0
def tw1545820686984425270:=0
def tw11377411806702475884:=0
def tw16473559730127931591:=0
def tw4210297284529383518:=0
def tw1350726888967316308:=0
def tw5089299971812319667:=0
def tw9800053289727526507:=0
def tw17541903939224106116:=0
def tw16256235644354611432:=0
def tw10320885551431962934:=0
def tw12827490617252188763:=0
def tw10524239348591426707:=0
def tw17280288081971170082:=0
def tw14531973078005474159:=0
def tw4821969987427849477:=0
def tw9580573151132320689:=0
def tw13079554449083040494:=0
def tw4234176399721969932:=0
def tw13609836488123065551:=0
def tw10269780800901668645:=0
def tw4657772521500615659:=0
def tw10339509459229093737:=0
def tw13093393491687092021:=0
def tw17132404315647234780:=0
def tw6348727713447368305:=0
def tw9086236036425481729:=0
def tw1596462881030286465:=0
def tw7417374221975803156:=0
def tw16936100856252416399:=0
def tw9290368983929135220:=0
def tw1106215571358073903:=0
def tw11418704605137128951:=0
def tw16565559422790937111:=0
def tw10236267761769570278:=0
def tw7360694681236104817:=0
def tw17314088681015114226:=0
def tw8022604664050453388:=0
def tw2888912118933550827:=0
def tw12930681424208079831:=0
def tw7883261869299802347:=0
def tw5202246157576158811:=0
def tw14815560026971204593:=0
def tw15419502480423765637:=0
def tw12140843352701975147:=0
def tw3315928915354254208:=0
def tw1982051466618163449:=0
def tw3200277869222505160:=0
def tw874319665737070204:=0
def tw4814780550816012202:=0
def tw9231737140226462378:=0
def tw3746961818839289018:=0
def tw7672392294487404664:=0
def tw4352481314554188012:=0
def tw14219535603830365254:=0
def tw16256433344850032859:=0
def tw8741802406989296117:=0
def tw4047431100841713561:=0
def tw9285827586104006525:=0
def tw12937624898185117042:=0
def tw11952838743691549855:=0
def tw14244454200915412117:=0
def tw5223484619936643620:=0
def tw2841565986928755822:=0
def tw4372128629815464112:=0
def tw16030656616071755423:=0
def tw13699978165381187287:=0
def tw12533960172919656018:=0
def tw4064245368068490785:=0
def tw69996369901484930:=0
def tw10338463271777516480:=0
def tw2554731073876456778:=0
def tw379611402231170638:=0
def tw8268285347556060468:=0
def tw4896475511796954113:=0
def tw17775215266997638455:=0
def tw6744596006573550530:=0
def tw5369094583867524748:=0
def tw1752325888424844272:=0
def tw8384385123776368171:=0
def tw16960124233807188191:=0
def tw10947484238892668130:=0
def tw5585564435345398745:=0
def tw16607154964236490754:=0
def tw5294761650030186931:=0
def tw13591535247097346903:=0
def tw18256914555128595086:=0
def tw821242086129406529:=0
def tw9358775660350489104:=0
def tw18005607806325380697:=0
def tw283178569820757426:=0
def tw986138810074094031:=0
def tw17082317082012181675:=0
def tw13852355886361860406:=0
def tw12497233763473718370:=0
def tw9843578404484139817:=0
def tw10139594553944806565:=0
def tw10268331273153826504:=0
def tw18176852594121254886:=0
def tw6283860049814281254:=0
def tw6945277454484034029:=0
def tw7217729702886357198:=0
def tw7636553857000316663:=0
def tw1102072988573213935:=0
def tw16329392188263896576:=0
def tw6797899089641714543:=0
def tw4509757766329939791:=0
def tw17080954792059293468:=0
def tw8150710990982810079:=0
def tw9095501555436021654:=0
def tw14132110142321364719:=0
def tw9554950572605086559:=0
def tw16161258172395719642:=0
def tw12085201736165571210:=0
def tw17506733489829682825:=0
def tw18339868602195329554:=0
def tw6660744817920096052:=0
def tw5460357046992968755:=0
def tw3262874356223267298:=0
def tw10956866168783173850:=0
def tw7646076511921580555:=0
def tw3031795456789710001:=0
def tw21616181876395377:=0
def tw14487621979633094232:=0
def tw5997184287985290734:=0
def tw10538406272324191427:=0
def tw14567851737041144780:=0
def tw3517471481343429502:=0
def tw3045115195349329408:=0
def tw8395682510464374380:=0
def tw2563034969898032452:=0
def tw14167996842546588441:=0
def tw10383194551911954636:=0
def tw14013692725422413927:=0
def tw12038685027851826563:=0
def tw9946881139377691123:=0
def tw2343309548093268648:=0
def tw13600843920709795289:=0
def tw3552077468534310235:=0
def tw13081273250872469294:=0
def tw4237383995635230608:=0
def tw18166479905456647175:=0
def tw9849180326538561010:=0
def tw7496094088253359552:=0
def tw11659108156286861505:=0
def tw18257201532463151538:=0
def tw17978115836222691935:=0
def tw15245206960999804075:=0
def tw4835228133022992075:=0
def tw16486129641975731968:=0
def tw13766633494916523858:=0
def tw7814710538296432119:=0
def tw7309818760821329545:=0
def tw1350824831891723245:=0
def tw16339380152350256614:=0
def tw2618346582526527949:=0
def tw15746705258053045826:=0
def tw7763561147766253690:=0
def tw7086030633204858306:=0
def tw7893826046744146359:=0
def tw15796674724840095760:=0
def tw9729271277052295720:=0
def tw2418758444834304911:=0
def tw16412922444946962444:=0
def tw17072516638093432565:=0
def tw6070520109210996995:=0
def tw6565187341166315849:=0
def tw10277804275272077013:=0
def tw16926934195127043600:=0
def tw7896893531491713554:=0
def tw17357749247377670294:=0
def tw11324806750940750418:=0
def tw16747212358618432967:=0
def tw17135333056789327365:=0
def tw14208907414984519678:=0
def tw226312611039955499:=0
def tw12276430074851747199:=0
def tw6489395810780885827:=0
def tw7423867696329940524:=0
def tw6100985782034943029:=0
def tw1681832834313226859:=0
def tw2825193739485965892:=0
def tw2257229269408284896:=0
def tw16119971958761550288:=0
def tw16701735795966232596:=0
def tw4849597515670879174:=0
def tw13350375869741302016:=0
def tw7357285486848489659:=0
def tw10650215571301484885:=0
def tw10992413565752705901:=0
def tw4682299908972751037:=0
def tw10507610498788595073:=0
def tw9196428507731512498:=0
def tw11246685706867642870:=0
def tw786561638240392820:=0
def tw4710745793912101517:=0
def tw11212111570591051343:=0
def tw11460813663393640539:=0
def tw16593474289792245926:=0
def tw11484694941611876217:=0
def tw13130153735914653783:=0
def tw17252692633559121431:=0
def tw16229315170401331346:=0
def tw10285534471738435978:=0
def tw10256036148637110017:=0
def tw14635783199338355206:=0
def tw5070753991528122808:=0
def tw7001027524392048150:=0
def tw16209980408532425133:=0
def tw15866594196577897800:=0
def tw8104021255186655251:=0
def tw15123532949432302838:=0
def tw15887809839341449458:=0
def tw2531204143399062039:=0
def tw18392835225367803479:=0
def tw7146004959066480702:=0
def tw17557615341497576933:=0
def tw6784424956325787962:=0
def tw1018555787684535176:=0
def tw18256064974304269333:=0
def tw1808972611986471999:=0
def tw2831229266403905537:=0
def tw1200344581305483429:=0
def tw15610369053652602901:=0
def tw723736704219636009:=0
def tw2289662163773916718:=0
def tw12729241580545867086:=0
def tw10773218683413147291:=0
def tw15423964293360471140:=0
def tw9677599502211640895:=0
def tw6456582690940819708:=0
def tw13746811880911373612:=0
def tw15332769692552318529:=0
def tw14318329718113689232:=0
def tw7216873418997715420:=0
def tw16264197770003337542:=0
def tw7247242544043659851:=0
def tw7029066726343438738:=0
def tw512840609701128186:=0
def tw4282574880454024457:=0
def tw8980190309251984382:=0
def tw13258986762121317773:=0
def tw5104608432544574539:=0
def tw16799123069761604752:=0
def tw972929962442149886:=0
def tw2474329897266667599:=0
def tw2174907465257701277:=0
def tw8596243835830451097:=0
def tw12902411752256452723:=0
def tw8418074373869551463:=0
def tw7535441222681865443:=0
def tw5331713042635246510:=0
def tw4930354088048865546:=0
def tw7469333413221114002:=0
def tw9159807329432055820:=0
def tw453955411923116680:=0
def tw3105472313768341794:=0
def tw1100021909154553609:=0
def tw182673655585663906:=0
def tw936902389511091848:=0
def tw10046718850353519131:=0
def tw8374501220653685434:=0
def tw15005659403853449827:=0
def tw10589863951221884076:=0
def tw8402035864352316553:=0
def tw17218132088663855962:=0
def tw3059234223422433687:=0
def tw11777531492940396319:=0
def tw9334962863638788047:=0
def tw11318863374472998448:=0
def tw4268129698252720417:=0
def tw8826332473400847047:=0
def tw4633059961641180242:=0
def tw13416724875601023201:=0
def tw9776218736580748703:=0
def tw4234413140576665134:=0
def tw3673779651991446321:=0
def tw16850018839170013512:=0
def tw12568007799395823738:=0
def tw298793435177383042:=0
def tw4575395504569811471:=0
def tw12967429307812192330:=0
def tw8463037132524960422:=0
def tw10322918777842310097:=0
def tw5768222315096894647:=0
def tw4431660901704977917:=0
def tw13821394719539189181:=0
def tw16192018280950714818:=0
def tw15173666712139708856:=0
def tw4500456153754854998:=0
def tw59975244799481867:=0
def tw18247892250456911956:=0
def tw13368073036228849460:=0
def tw17797265918042917679:=0
def tw4568717790614958828:=0
def tw9015356919212209278:=0
def tw6216880452188800205:=0
def tw9358534534759970788:=0
def tw6944397552521598494:=0
def tw18117588958123974769:=0
def tw2327526042232964555:=0
def tw8907360894276730532:=0
def tw13149825972478109675:=0
def tw16278110523059622332:=0
def tw14119192696998145248:=0
def tw781149938069134339:=0
def tw9274615914588216646:=0
def tw10375287006415373522:=0
def tw11386537533523400726:=0
def tw8630297101538510774:=0
def tw15112320672680314503:=0
def tw12818728257310779588:=0
def tw13140497217850147652:=0
def tw6416103587341592714:=0
def tw11848824673297342489:=0
def tw15659156034590530049:=0
def tw1767958043123358984:=0
def tw10074511860046804662:=0
def tw18134362731566347744:=0
def tw3619222026738093687:=0
def tw1799535045288747484:=0
def tw13513571029634035077:=0
def tw16356786763487582007:=0
def tw13253719567518076994:=0
def tw6604509664987039354:=0
def tw17863721000985602704:=0
def tw22675200639806689:=0
def tw2851691988651220312:=0
def tw18071042720003764889:=0
def tw1323848044761960095:=0
def tw6412195606436799679:=0
def tw175667014337648687:=0
def tw2178331639908430902:=0
def tw13492844938646654721:=0
def tw2710369864581625849:=0
def tw6941542710301504973:=0
def tw5755365421221567015:=0
def tw2303976276105201324:=0
def tw8216521527205550447:=0
def tw2794991410148400638:=0
def tw8936950346609139344:=0
def tw4901579343012812903:=0
def tw17094097055499451580:=0
def tw11289073387446715524:=0
def tw15985201183374342924:=0
def tw10370801550981230887:=0
def tw5436879289040341948:=0
def tw16570829760891575505:=0
def tw5225939741987859505:=0
def tw14563062755722596997:=0
def tw11676423907868220508:=0
def tw9534236954489572879:=0
def tw6610713510400481151:=0
def tw5321996166067548666:=0
def tw14389728900125651747:=0
def tw17357766426983465065:=0
def tw8578926638662447959:=0
def tw14651949713911389951:=0
def tw10374378375627768597:=0
def tw13054673656964213412:=0
def tw13330395551860126509:=0
def tw105628613524496855:=0
def tw3853541507518799409:=0
def tw8323821383823834706:=0
def tw14121744824077816990:=0
def tw8886726844057143775:=0
def tw16905387858353825278:=0
def tw6550245442877642373:=0
def tw1609300626874784588:=0
def tw9987489033240118820:=0
def tw6094859742964959960:=0
def tw640597334762463177:=0
def tw3990082516131768411:=0
def tw13269571867774478918:=0
def tw15483351006983021042:=0
def tw1029648397778109865:=0
def tw10021127620408289983:=0
def tw15178997769197065320:=0
def tw11412902929645709071:=0
def tw10412040054467275630:=0
def tw15293640644375448959:=0
def tw3873547285422225491:=0
def tw439199623901866973:=0
def tw1149684871154447371:=0
def tw7561981288522404053:=0
def tw13755429022663953506:=0
def tw10960109306988897633:=0
def tw15623711549374578943:=0
def tw1295901504726628981:=0
def tw867641164158093588:=0
def tw2342186608751112002:=0
def tw4715379694892873852:=0
def tw17742802379896923828:=0
def tw2710153113901879285:=0
def tw7568002955294582166:=0
def tw11642447524829968346:=0
def tw15281727146956735985:=0
def tw7028709398181135851:=0
def tw10334285406770070560:=0
def tw141203017421298282:=0
def tw4385594942961517454:=0
def tw9521520473240347164:=0
def tw1649734504652059557:=0
def tw8147270211633859189:=0
def tw9510186305357857591:=0
def tw3198191690009021537:=0
def tw12507993847630476330:=0
def tw18093908760438694108:=0
def tw10309992631772923240:=0
def tw12694522044860738306:=0
def tw4288895317932932043:=0
def tw8854550578199802618:=0
def tw16490921040447313394:=0
def tw10775047908697823248:=0
def tw12680756558979601137:=0
def tw7129293984310458492:=0
def tw9405565954305799828:=0
def tw550636508051326981:=0
def tw18244610444442151380:=0
def tw16744154037805889821:=0
def tw14954378157140547946:=0
def tw10162108581068668194:=0
def tw17335695038830857224:=0
def tw18374679567573067005:=0
def tw17038142909010667128:=0
def tw14787204748136161746:=0
def tw14166515499847548373:=0
def tw5611021313770341527:=0
def tw12354981930221553071:=0
def tw4437231110911496799:=0
def tw10631941095170641079:=0
def tw9653838370092321698:=0
def tw7662166352444183238:=0
def tw13394005550904537381:=0
def tw12916527464088208617:=0
def tw18182229749152851668:=0
def tw16800301143856304387:=0
def tw14824630409008680056:=0
def tw11619333768293477480:=0
def tw13867389540730791403:=0
def tw13940933934429809350:=0
def tw1723502939405942775:=0
def tw8962632789162766833:=0
def tw787355802425023921:=0
def tw483002424942964979:=0
def tw2950815784319519646:=0
def tw10110513913751076633:=0
def tw8209142379915977131:=0
def tw17530569742992122747:=0
def tw4984861129403242455:=0
def tw4004530768247860350:=0
def tw46983099324457570:=0
def tw9026381483713520486:=0
def tw15524977563247918321:=0
def tw4511818697213432693:=0
def tw2930085291506470132:=0
def tw13771900501732297264:=0
def tw5867755616844506509:=0
def tw1643446619404239296:=0
def tw12946535928454533063:=0
def tw17866124219113037873:=0
def tw8938836284335976492:=0
def tw11407697054543022493:=0
def tw1062269653413023103:=0
def tw13504537765810259799:=0
def tw4612033543796757773:=0
def tw16431863554556547294:=0
def tw6145034677951151548:=0
def tw9374655318213439042:=0
def tw9937590014223545494:=0
def tw16628882618033593930:=0
def tw13613915071274395612:=0
def tw6656401824495102945:=0
def tw4586831852650450382:=0
def tw3904238157121775859:=0
def tw3062701234594626039:=0
def tw3576793348500713214:=0
def tw12337785103061476047:=0
def tw18241084641314424172:=0
def tw5462325017128710912:=0
def tw13339643126826803886:=0
end PySem.W.Fast
open PySem PySem.W PyProof.Rows
set_option maxRecDepth 100000 in
set_option maxHeartbeats 0 in
theorem PySem.Challenge.cw_tiercask_k52_no_deeds_holds : PySem.Challenge.rw_tiercask_k52_no_deeds.Holds := by
 w_on; o_law; k_head; (case hw=>w_witness2)
 k_fill
 refine L2.walk_ofK (l:=PySem.Challenge.rw_tiercask_k52_no_deeds) (n:=63) (k:=9) (x:="_law_script") (CX:=L2.CX0) (sp:=Tc.spLaw) rfl (by decide) rfl ⟨rfl,by decide,by decide⟩ (fun w h Y=>PySem.W.kIn_of Y) ?F ?S ?C
 case F =>
  intro w mg fa h KX G hmg
  refine' T52.all_mk KX G hmg ?_ ?_ ?_ ?_ ?_ ?_ ?_ ?_ ?_ ?_ ?_ ?_ ?_ ?_ ?_ ?_ ?_ ?_ ?_ ?_ ?_ ?_ ?_ ?_ ?_ ?_ ?_ ?_ ?_ ?_ ?_ ?_ ?_ ?_ ?_ ?_ ?M_Book_keep ?M_Book_put ?_ ?M_Book_strike ?_ ?M_Book_undo ?_ ?_ ?_ ?M_Book___init__ ?M_Book_deeds ?M_Book_year ?a48 ?l48 ?c48 ?k48 ?z_ValueError ?z_abs ?z_all ?z_bool ?z_dict ?z_enumerate ?z_int ?z_isinstance ?z_len ?z_list ?z_range ?z_str ?z_tuple ?w_LETTERS ?y_Book ?y_Full ?y_Lacking ?y_NoCask ?y_NoChange ?y_NoDeed ?y_NoNumber ?y_NoPlace ?y_NotSteady ?y_Tied ?y_TierError ?y_LENGTHS ?k_Book ?n_Book_first ?n_Book_now ?n_Book_past ?n_Book_places ?n_Book_row ?n_Book_taken ?n_Book_wines ?d_LENGTHS ?e_NoCask ?x_NoCask ?i_NoCask_Full ?m_NoCask_Full ?i_NoCask_Lacking ?m_NoCask_Lacking ?i_NoCask_NoCask ?m_NoCask_NoCask ?i_NoCask_NoChange ?m_NoCask_NoChange ?i_NoCask_NoDeed ?m_NoCask_NoDeed ?i_NoCask_NoNumber ?m_NoCask_NoNumber ?i_NoCask_NoPlace ?m_NoCask_NoPlace ?i_NoCask_NotSteady ?m_NoCask_NotSteady ?i_NoCask_Tied ?m_NoCask_Tied ?i_NoCask_TierError ?m_NoCask_TierError ?v_NoCask ?e_NoChange ?x_NoChange ?i_NoChange_Full ?m_NoChange_Full ?i_NoChange_Lacking ?m_NoChange_Lacking ?i_NoChange_NoCask ?m_NoChange_NoCask ?i_NoChange_NoChange ?m_NoChange_NoChange ?i_NoChange_NoDeed ?m_NoChange_NoDeed ?i_NoChange_NoNumber ?m_NoChange_NoNumber ?i_NoChange_NoPlace ?m_NoChange_NoPlace ?i_NoChange_NotSteady ?m_NoChange_NotSteady ?i_NoChange_Tied ?m_NoChange_Tied ?i_NoChange_TierError ?m_NoChange_TierError ?v_NoChange ?e_NoDeed ?x_NoDeed ?i_NoDeed_Full ?m_NoDeed_Full ?i_NoDeed_Lacking ?m_NoDeed_Lacking ?i_NoDeed_NoCask ?m_NoDeed_NoCask ?i_NoDeed_NoChange ?m_NoDeed_NoChange ?i_NoDeed_NoDeed ?m_NoDeed_NoDeed ?i_NoDeed_NoNumber ?m_NoDeed_NoNumber ?i_NoDeed_NoPlace ?m_NoDeed_NoPlace ?i_NoDeed_NotSteady ?m_NoDeed_NotSteady ?i_NoDeed_Tied ?m_NoDeed_Tied ?i_NoDeed_TierError ?m_NoDeed_TierError ?v_NoDeed ?e_NoNumber ?x_NoNumber ?i_NoNumber_Full ?m_NoNumber_Full ?i_NoNumber_Lacking ?m_NoNumber_Lacking ?i_NoNumber_NoCask ?m_NoNumber_NoCask ?i_NoNumber_NoChange ?m_NoNumber_NoChange ?i_NoNumber_NoDeed ?m_NoNumber_NoDeed ?i_NoNumber_NoNumber ?m_NoNumber_NoNumber ?i_NoNumber_NoPlace ?m_NoNumber_NoPlace ?i_NoNumber_NotSteady ?m_NoNumber_NotSteady ?i_NoNumber_Tied ?m_NoNumber_Tied ?i_NoNumber_TierError ?m_NoNumber_TierError ?v_NoNumber ?e_NoPlace ?x_NoPlace ?i_NoPlace_Full ?m_NoPlace_Full ?i_NoPlace_Lacking ?m_NoPlace_Lacking ?i_NoPlace_NoCask ?m_NoPlace_NoCask ?i_NoPlace_NoChange ?m_NoPlace_NoChange ?i_NoPlace_NoDeed ?m_NoPlace_NoDeed ?i_NoPlace_NoNumber ?m_NoPlace_NoNumber ?i_NoPlace_NoPlace ?m_NoPlace_NoPlace ?i_NoPlace_NotSteady ?m_NoPlace_NotSteady ?i_NoPlace_Tied ?m_NoPlace_Tied ?i_NoPlace_TierError ?m_NoPlace_TierError ?v_NoPlace
  all_goals (try (refine' L2.DefAt.mk' KX G ?a ?l ?c ?k; (case a=>k_is); (case l=>k_is); (case c=>k_is); (case k=>k_is)))
  (case a48=>k_is); (case l48=>k_is); (case c48=>k_is); (case k48=>k_is); (case z_ValueError=>k_is); (case z_abs=>k_is); (case z_all=>k_is); (case z_bool=>k_is)
  (case z_dict=>k_is); (case z_enumerate=>k_is); (case z_int=>k_is); (case z_isinstance=>k_is); (case z_len=>k_is); (case z_list=>k_is); (case z_range=>k_is); (case z_str=>k_is)
  (case z_tuple=>k_is); (case w_LETTERS=>k_is); (case y_Book=>k_is); (case y_Full=>k_is); (case y_Lacking=>k_is); (case y_NoCask=>k_is); (case y_NoChange=>k_is); (case y_NoDeed=>k_is)
  (case y_NoNumber=>k_is); (case y_NoPlace=>k_is); (case y_NotSteady=>k_is); (case y_Tied=>k_is); (case y_TierError=>k_is); (case y_LENGTHS=>k_is)
  (case M_Book_keep=>refine' L2.MethDef.mk' ?a ?i ?l ?c ?k; (case a=>k_is); (case i=>k_is); (case l=>k_is); (case c=>k_is); (case k=>k_is))
  (case M_Book_put=>refine' L2.MethDef.mk' ?a ?i ?l ?c ?k; (case a=>k_is); (case i=>k_is); (case l=>k_is); (case c=>k_is); (case k=>k_is))
  (case M_Book_strike=>refine' L2.MethDef.mk' ?a ?i ?l ?c ?k; (case a=>k_is); (case i=>k_is); (case l=>k_is); (case c=>k_is); (case k=>k_is))
  (case M_Book_undo=>refine' L2.MethDef.mk' ?a ?i ?l ?c ?k; (case a=>k_is); (case i=>k_is); (case l=>k_is); (case c=>k_is); (case k=>k_is))
  (case M_Book___init__=>refine' L2.MakeDef.mk' ?a ?i ?l ?c ?m ?k ?d ?e; (case a=>k_is); (case i=>k_is); (case l=>k_is); (case c=>k_is); (case m=>k_is); (case k=>k_is); (case d=>k_is); (case e=>rfl))
  (case M_Book_deeds=>refine' L2.MethDef.mk' ?a ?i ?l ?c ?k; (case a=>k_is); (case i=>k_is); (case l=>k_is); (case c=>k_is); (case k=>k_is))
  (case M_Book_year=>refine' L2.MethDef.mk' ?a ?i ?l ?c ?k; (case a=>k_is); (case i=>k_is); (case l=>k_is); (case c=>k_is); (case k=>k_is))
  (case k_Book=>refine ⟨?_,?_,?_,?_⟩ <;> k_is)
  (case n_Book_first=>(show PySem.W.findIn _ _ _ = _); k_is)
  (case n_Book_now=>(show PySem.W.findIn _ _ _ = _); k_is)
  (case n_Book_past=>(show PySem.W.findIn _ _ _ = _); k_is)
  (case n_Book_places=>(show PySem.W.findIn _ _ _ = _); k_is)
  (case n_Book_row=>(show PySem.W.findIn _ _ _ = _); k_is)
  (case n_Book_taken=>(show PySem.W.findIn _ _ _ = _); k_is)
  (case n_Book_wines=>(show PySem.W.findIn _ _ _ = _); k_is)
  (case d_LENGTHS=>refine' T52.topd_mk ?l ?c ?k ?o; (case l=>k_is); (case c=>first | rfl | (with_unfolding_all rfl)); (case k=>(repeat (first | exact True.intro | refine And.intro ⟨_,_,rfl,rfl,rfl⟩ ?_))); (case o=>decide +kernel))
  (case e_NoCask=>k_exc)
  (case x_NoCask=>refine ⟨?_,?_,?_,?_,?_⟩ <;> k_is)
  (case i_NoCask_Full=>kit_is)
  (case m_NoCask_Full=>kts_exm)
  (case i_NoCask_Lacking=>kit_is)
  (case m_NoCask_Lacking=>kts_exm)
  (case i_NoCask_NoCask=>kit_is)
  (case m_NoCask_NoCask=>kts_exm)
  (case i_NoCask_NoChange=>kit_is)
  (case m_NoCask_NoChange=>kts_exm)
  (case i_NoCask_NoDeed=>kit_is)
  (case m_NoCask_NoDeed=>kts_exm)
  (case i_NoCask_NoNumber=>kit_is)
  (case m_NoCask_NoNumber=>kts_exm)
  (case i_NoCask_NoPlace=>kit_is)
  (case m_NoCask_NoPlace=>kts_exm)
  (case i_NoCask_NotSteady=>kit_is)
  (case m_NoCask_NotSteady=>kts_exm)
  (case i_NoCask_Tied=>kit_is)
  (case m_NoCask_Tied=>kts_exm)
  (case i_NoCask_TierError=>kit_is)
  (case m_NoCask_TierError=>kts_exm)
  (case v_NoCask=>kit_is)
  (case e_NoChange=>k_exc)
  (case x_NoChange=>refine ⟨?_,?_,?_,?_,?_⟩ <;> k_is)
  (case i_NoChange_Full=>kit_is)
  (case m_NoChange_Full=>kts_exm)
  (case i_NoChange_Lacking=>kit_is)
  (case m_NoChange_Lacking=>kts_exm)
  (case i_NoChange_NoCask=>kit_is)
  (case m_NoChange_NoCask=>kts_exm)
  (case i_NoChange_NoChange=>kit_is)
  (case m_NoChange_NoChange=>kts_exm)
  (case i_NoChange_NoDeed=>kit_is)
  (case m_NoChange_NoDeed=>kts_exm)
  (case i_NoChange_NoNumber=>kit_is)
  (case m_NoChange_NoNumber=>kts_exm)
  (case i_NoChange_NoPlace=>kit_is)
  (case m_NoChange_NoPlace=>kts_exm)
  (case i_NoChange_NotSteady=>kit_is)
  (case m_NoChange_NotSteady=>kts_exm)
  (case i_NoChange_Tied=>kit_is)
  (case m_NoChange_Tied=>kts_exm)
  (case i_NoChange_TierError=>kit_is)
  (case m_NoChange_TierError=>kts_exm)
  (case v_NoChange=>kit_is)
  (case e_NoDeed=>k_exc)
  (case x_NoDeed=>refine ⟨?_,?_,?_,?_,?_⟩ <;> k_is)
  (case i_NoDeed_Full=>kit_is)
  (case m_NoDeed_Full=>kts_exm)
  (case i_NoDeed_Lacking=>kit_is)
  (case m_NoDeed_Lacking=>kts_exm)
  (case i_NoDeed_NoCask=>kit_is)
  (case m_NoDeed_NoCask=>kts_exm)
  (case i_NoDeed_NoChange=>kit_is)
  (case m_NoDeed_NoChange=>kts_exm)
  (case i_NoDeed_NoDeed=>kit_is)
  (case m_NoDeed_NoDeed=>kts_exm)
  (case i_NoDeed_NoNumber=>kit_is)
  (case m_NoDeed_NoNumber=>kts_exm)
  (case i_NoDeed_NoPlace=>kit_is)
  (case m_NoDeed_NoPlace=>kts_exm)
  (case i_NoDeed_NotSteady=>kit_is)
  (case m_NoDeed_NotSteady=>kts_exm)
  (case i_NoDeed_Tied=>kit_is)
  (case m_NoDeed_Tied=>kts_exm)
  (case i_NoDeed_TierError=>kit_is)
  (case m_NoDeed_TierError=>kts_exm)
  (case v_NoDeed=>kit_is)
  (case e_NoNumber=>k_exc)
  (case x_NoNumber=>refine ⟨?_,?_,?_,?_,?_⟩ <;> k_is)
  (case i_NoNumber_Full=>kit_is)
  (case m_NoNumber_Full=>kts_exm)
  (case i_NoNumber_Lacking=>kit_is)
  (case m_NoNumber_Lacking=>kts_exm)
  (case i_NoNumber_NoCask=>kit_is)
  (case m_NoNumber_NoCask=>kts_exm)
  (case i_NoNumber_NoChange=>kit_is)
  (case m_NoNumber_NoChange=>kts_exm)
  (case i_NoNumber_NoDeed=>kit_is)
  (case m_NoNumber_NoDeed=>kts_exm)
  (case i_NoNumber_NoNumber=>kit_is)
  (case m_NoNumber_NoNumber=>kts_exm)
  (case i_NoNumber_NoPlace=>kit_is)
  (case m_NoNumber_NoPlace=>kts_exm)
  (case i_NoNumber_NotSteady=>kit_is)
  (case m_NoNumber_NotSteady=>kts_exm)
  (case i_NoNumber_Tied=>kit_is)
  (case m_NoNumber_Tied=>kts_exm)
  (case i_NoNumber_TierError=>kit_is)
  (case m_NoNumber_TierError=>kts_exm)
  (case v_NoNumber=>kit_is)
  (case e_NoPlace=>k_exc)
  (case x_NoPlace=>refine ⟨?_,?_,?_,?_,?_⟩ <;> k_is)
  (case i_NoPlace_Full=>kit_is)
  (case m_NoPlace_Full=>kts_exm)
  (case i_NoPlace_Lacking=>kit_is)
  (case m_NoPlace_Lacking=>kts_exm)
  (case i_NoPlace_NoCask=>kit_is)
  (case m_NoPlace_NoCask=>kts_exm)
  (case i_NoPlace_NoChange=>kit_is)
  (case m_NoPlace_NoChange=>kts_exm)
  (case i_NoPlace_NoDeed=>kit_is)
  (case m_NoPlace_NoDeed=>kts_exm)
  (case i_NoPlace_NoNumber=>kit_is)
  (case m_NoPlace_NoNumber=>kts_exm)
  (case i_NoPlace_NoPlace=>kit_is)
  (case m_NoPlace_NoPlace=>kts_exm)
  (case i_NoPlace_NotSteady=>kit_is)
  (case m_NoPlace_NotSteady=>kts_exm)
  (case i_NoPlace_Tied=>kit_is)
  (case m_NoPlace_Tied=>kts_exm)
  (case i_NoPlace_TierError=>kit_is)
  (case m_NoPlace_TierError=>kts_exm)
  (case v_NoPlace=>kit_is)
 case S=>exact fun K H a ns hl hO hS=>⟨a,ns,rfl,hS,hl,fun _=>rfl⟩
 case C=>exact fun H s e s' z=>z

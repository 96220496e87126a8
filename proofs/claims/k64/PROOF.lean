import PyProof.Rows.All
import Wide.All
import OpenK.AllK
import Wide.FinOn
import Lean
import PyProof.EqAt
import PyProof.EqKinds
import PyProof.TupleCall
import PySem.Challenge.RW_tiercask_k64_whole_steady_in_the_long_ru
set_option Elab.async false
set_option linter.all false
set_option maxRecDepth 100000
set_option genSizeOf false
set_option maxHeartbeats 4000000
set_option exponentiation.threshold 100000
open List renaming getElem?_eq_getElem → Ā, length_map → ā, mem_cons_of_mem → ă, getElem?_eq_some_iff → Ą, mem_cons_self → Ć, getElem?_map → Ĉ, mem_of_getElem? → Ċ, length_take → ċ, length_append → Ď, map_append → Đ, take_length → đ, mem_cons → Ē, size_toArray → ĕ, mem_map → Ė, mem_singleton → ė, range → ę, getElem_of_mem → ě, nodup_cons → Ĝ, mem_append → ĝ, length_cons → ğ, length_drop → Ĩ, map_cons → ĩ, mem_append_right → į, filter_append → Ķ, mem_filter → ĸ, getD_eq_getElem?_getD → Ļ, append_nil → ļ, drop_eq_getElem_cons → ľ, take_add_one → Ŀ, length_range → ŀ, take_zero → Ň, take_append_drop → Ō, getElem?_eq_none → ō, mem_range → ŏ, getElem?_append_right → Œ, nodup_append → œ, not_mem_nil → Ŗ, lookup_cons → ŗ, length_eq_zero_iff → Ř, pairwise_cons → ř, map_map → Ś, length_filter_le → š, foldl_append → Ţ, append_assoc → ţ, mem_of_mem_drop → Ť, pairwise_iff_getElem → Ŧ, map_congr_left → Ũ, range_succ → ũ, find?_cons → Ū, mem_filterMap → Ŭ
open PySem.W renaming Frag → Ă, mg_none_of → Ĭ, nsIn → Ĺ, kia_one → Ł, fnOf → ő
open Nat renaming le_refl → ą, le_trans → Č, lt_of_lt_of_le → č, lt_of_le_of_lt → ď, mul_le_mul_right → Ĕ, mul_le_mul → Ġ, pow_succ → ģ, ne_of_lt → Ĥ, ne_of_gt → ĥ, zero_le → Ħ, pow_le_pow_right → ħ, pow_add → ī, mul_assoc → ĵ, pow_lt_pow_right → ń, mul_pos → Ņ, lt_irrefl → ņ, mul_comm → Ŏ, one_mul → Ŕ, gcd → ŕ, one_lt_two_pow → ŝ, le_of_lt → Ş, le_mul_of_pos_left → ş
open PySem.Heap renaming get?_push_of_some → ć, lt_size → ĉ, get?_push_size → ē
open Bool renaming false_ne_true → Ę, false_eq_true → Ī, and_eq_true → Ń
open Rat renaming divInt → Ě, mul_nonneg → ġ, natCast_mul → Ģ, divInt_eq_div → Į, intCast_natCast → Ĵ, num_divInt_den → ķ, le_of_lt → ĺ, intCast_mul → Ľ, zero_mul → ň, zero_add → Ŋ, le_refl → ŋ, mul_zero → ś, add_zero → Ŝ, mul_eq_zero → Š
open Int renaming eq_ofNat_of_zero_le → Ğ, gcd → ĭ, natAbs_mul → ł, toNat_natCast → Ő, fdiv_eq_ediv_of_nonneg → ť, zero_add → ŧ, mul_fdiv_cancel_left → ū
namespace L2
open PySem PySem.Spec PyProof.Rows
noncomputable abbrev Key:=Sum Int Str
noncomputable def yL1:Key->Value->Bool
 | .inl k,v=>Value.isInt k v
 | .inr x,v=>Value.isStrOf x v
noncomputable def keyH (w:World):Key->Int
 | .inl k=>hashInt k
 | .inr x=>hashStr w x
theorem ñ:∀{k:Key} {v:Value},yL1 k v=true->(∃i t,k=Sum.inl i /\ v=Value.int i t) \/ (∃x t,k=Sum.inr x /\ v=Value.str x t)
 | .inl i,v,h=>by
  obtain⟨t,e⟩:=Value.isInt_shape (k:=i) (v:=v) h;exact .inl ⟨i,t,rfl,e⟩
 | .inr x,v,h=>by
  obtain⟨t,e⟩:=Value.isStrOf_shape (x:=x) (v:=v) h;exact .inr ⟨x,t,rfl,e⟩
theorem yT2 (i:Int)(t:Tok):yL1 (.inl i) (.int i t)=true:=by simp[yL1,Value.isInt]
theorem yT1 (x:Str)(t:Tok):yL1 (.inr x) (.str x t)=true:=by simp[yL1,Value.isStrOf]
theorem xO9 (a b:Int):decide ((Sum.inl a:Key)=Sum.inl b)=(a==b):=by
 by_cases e:a=b
 ·subst e;simp
 ·have h:¬(Sum.inl a:Key)=Sum.inl b:=fun q=>e (Sum.inl.inj q);rw[decide_eq_false h];exact(beq_eq_false_iff_ne.mpr e).symm
theorem xO6 (a b:Str):decide ((Sum.inr a:Key)=Sum.inr b)=decide (a=b):=by
 by_cases e:a=b
 ·subst e;simp
 ·have h:¬(Sum.inr a:Key)=Sum.inr b:=fun q=>e (Sum.inr.inj q);rw[decide_eq_false h,decide_eq_false e]
theorem xO8 (a:Int)(b:Str):decide ((Sum.inl a:Key)=Sum.inr b)=false:=decide_eq_false (fun q=>nomatch q)
theorem xO7 (a:Str)(b:Int):decide ((Sum.inr a:Key)=Sum.inl b)=false:=decide_eq_false (fun q=>nomatch q)
noncomputable def ç (prog:Program)(w:World):PySem.KeyKind prog w Key where
 is:=yL1
 hash:=keyH w
 inj:=fun v a b ha hb=>by
  rcases ñ ha with⟨i,t,rfl,rfl⟩ | ⟨x,t,rfl,rfl⟩
  ·rcases ñ hb with⟨j,u,rfl,e⟩ | ⟨y,u,rfl,e⟩
   ·injection e with e1 _;rw[e1]
   ·exact nomatch e
  ·rcases ñ hb with⟨j,u,rfl,e⟩ | ⟨y,u,rfl,e⟩
   ·exact nomatch e
   ·injection e with e1 _;rw[e1]
 byValue:=fun k v h=>by
  rcases ñ h with⟨i,t,rfl,rfl⟩ | ⟨x,t,rfl,rfl⟩<;>rfl
 pyHash:=fun hv h=>by
  rcases ñ hv with⟨i,t,rfl,rfl⟩ | ⟨x,t,rfl,rfl⟩
  ·exact wpAny_pyHash_int h
  ·exact wpAny_pyHash_str h
 eqBool:=fun hu hv h=>by
  rcases ñ hu with⟨i,t,rfl,rfl⟩ | ⟨x,t,rfl,rfl⟩
  ·rcases ñ hv with⟨j,u,rfl,rfl⟩ | ⟨y,u,rfl,rfl⟩
   ·rw[xO9]at h;exact wpAny_eqBool_int h
   ·rw[xO8]at h;exact SeqAt.EqAt.int_str i t y u _ _ _ _ h
  ·rcases ñ hv with⟨j,u,rfl,rfl⟩ | ⟨y,u,rfl,rfl⟩
   ·rw[xO7]at h;exact SeqAt.EqAt.str_int x t j u _ _ _ _ h
   ·rw[xO6]at h;exact wpAny_eqBool_str h
 «strs»:=fun k x t v h=>by
  rcases ñ h with⟨i,u,rfl,e⟩ | ⟨y,u,rfl,e⟩
  ·exact nomatch e
  ·injection e with e1 _;subst e1;cases v<;>rfl
theorem yC3 (prog:Program)(w:World)(i:Int)(t:Tok):(ç prog w).is (.inl i) (.int i t)=true:=yT2 i t
theorem zN2 (prog:Program)(w:World)(x:Str)(t:Tok):(ç prog w).is (.inr x) (.str x t)=true:=yT1 x t
inductive V where
 | non | bl (b:Bool) | int (i:Int) | str (x:Str) | byt (b:Array UInt8) | flt (b:UInt64) | ref (a:Addr) | ty (n:String)
 deriving DecidableEq
noncomputable def RelV:V->Value->Prop
 | .non,u=>u=Value.none
 | .bl b,u=>u=Value.bool b
 | .int i,u=>∃t,u=Value.int i t
 | .str x,u=>∃t,u=Value.str x t
 | .byt b,u=>∃t,u=Value.bytes b t
 | .flt b,u=>∃t,u=Value.float b t
 | .ref a,u=>u=Value.ref a
 | .ty n,u=>u=Value.type n
noncomputable abbrev Vals:List V->List Value->Prop:=Paired RelV
theorem Vals.length {xs:List V}{us:List Value}(r:Vals xs us):xs.length=us.length:=Paired.length r
theorem Vals.get:∀{xs:List V} {us:List Value} {i:Nat} {x:V},Vals xs us->xs[i]?=some x->∃u,us[i]?=some u /\ RelV x u
 | _,_,_,_,.nil,e=>by simp at e
 | _,_,0,_,.cons r _,e=>by simp at e;subst e;exact⟨_,rfl,r⟩
 | _,_,i+1,x,.cons _ t,e=>by
  obtain⟨u,h1,h2⟩:=Vals.get (i:=i) (x:=x) t (by simpa using e);exact⟨u,by simpa using h1,h2⟩
theorem Vals.set {x:V}{u:Value}(r:RelV x u):∀{xs:List V} {us:List Value} (i:Nat),Vals xs us->Vals (xs.set i x) (us.set i u)
 | _,_,_,.nil=>.nil
 | _,_,0,.cons _ t=>.cons r t
 | _,_,i+1,.cons q t=>.cons q (Vals.set r i t)
theorem Vals.append:∀{xs ys:List V} {us ws:List Value},Vals xs us->Vals ys ws->Vals (xs++ys) (us++ws)
 | _,_,_,_,.nil,s=>s
 | _,_,_,_,.cons r t,s=>.cons r (Vals.append t s)
theorem Vals.take:∀{xs:List V} {us:List Value} (n:Nat),Vals xs us->Vals (xs.take n) (us.take n)
 | _,_,0,_=>.nil
 | _,_,_+1,.nil=>.nil
 | _,_,n+1,.cons r t=>.cons r (Vals.take n t)
theorem Vals.drop:∀{xs:List V} {us:List Value} (n:Nat),Vals xs us->Vals (xs.drop n) (us.drop n)
 | _,_,0,r=>r
 | _,_,_+1,.nil=>.nil
 | _,_,n+1,.cons _ t=>Vals.drop n t
noncomputable def RelO:Option V->Option Value->Prop
 | some v,some u=>RelV v u
 | none,none=>True
 | _,_=>False
noncomputable def KV {κ:Type}:List (κ×V)->List (κ×Value)->Prop:=Paired fun (p:κ×V) (q:κ×Value)=>p.1=q.1 /\ RelV p.2 q.2
noncomputable def kV:Key->V
 | .inl i=>.int i
 | .inr x=>.str x
inductive HO where
 | lst (xs:List V)
 | tup (xs:List V)
 | dK (kvs:List (Key×V)) | dT (kvs:List (List Key×V))
 | set (S:Int->Bool) (n:Nat)
 | ins (C dx:Addr) (fs:List (Str×V))
 | own (x:Addr)
 | xd (fs:List (Str×V))
 | met (f x:Addr)
 | rng (lo hi:Int)
 | frz (o:Obj) (u:HO)
 | tbl (ps:Array Value)
 | ext (φ:Heap->Prop)
noncomputable abbrev Hp:=Addr->Option HO
noncomputable def upd (H:Hp)(a:Addr)(o:HO):Hp:=fun b=>if b=a then some o else H b
theorem Á {H:Hp}{a:Addr}{o:HO}:upd H a o a=some o:=by unfold upd;rw[if_pos rfl]
theorem upd_ne {H:Hp}{a b:Addr}{o:HO}(h:b≠a):upd H a o b=H b:=by unfold upd;rw[if_neg h]
theorem å {H:Hp}{a b:Addr}{o u:HO}(h:H a=some o)(h':H b=some u)(d:o≠u):a≠b:=by
 intro e;subst e;rw[h]at h';exact d (Option.some.inj h')
theorem Æ {H:Hp}{a b:Addr}{o:HO}(h:H a=some o)(h':H b=none):a≠b:=by
 intro e;subst e;rw[h]at h';cases h'
section
variable (P:Program)(w:World)
noncomputable def ObjOk (H:Hp)(h:Heap)(a:Addr):HO->Prop
 | .lst xs=>xs.length<=sizeLine /\ ∃(its:List Value) (n:Nat),Vals xs its /\ h.get? a=some { cls:=.type "list",data:=.seq its.toArray n }
 | .tup xs=>xs.length<=sizeLine /\ ∃its:List Value,Vals xs its /\ IsTup h a its.toArray
 | .dK kvs=>kvs.length<=sizeLine /\ (a==sysModules)=false /\ ∃vs,KV kvs vs /\ h.DictOf (ç P w) a vs
 | .dT kvs=>kvs.length<=sizeLine /\ (a==sysModules)=false /\ ∃xs:List (List Key×Addr×Value),
   Paired (fun (p:List Key×V) (q:List Key×Addr×Value)=>p.1=q.1 /\ H q.2.1=some (.tup (p.1.map kV)) /\ RelV p.2 q.2.2) kvs xs /\
   ∃o es ep,h.get? a=some o /\ o.ExactDict /\ o.data = .dict es ep /\ es.toList=xs.map (entryOfKey (tupleKind (ç P w))) /\ (xs.map (·.1)).Nodup
 | .set S n=>h.SetOf (intKind P w) a S n
 | .ins C dx fs=>H dx=some (.own a) /\ fs.length<=1000 /\ dx≠a /\ h.get? a=some (PySem.W.instObj C dx) /\
   ∃mA,h.Ns1 dx mA /\ (∀f,RelO (fs.lookup f) (mA f)) /\ PySem.Within mA (fs.map (·.1))
 | .own _=>∃o,h.get? a=some o
 | .xd fs=>∃mA,h.Ns1 a mA /\ ∀f,RelO (fs.lookup f) (mA f)
 | .rng lo hi=>∃t u v,h.get? a=some { cls:=.type "range",data:=.fields #[.int lo t,.int hi u,.int 1 v] }
 | .frz o u=>h.get? a=some o /\ ObjOk H h a u
 | .tbl ps=>h.get? a=some { cls:=.none,data:=.fields ps }
 | .met f x=>h.get? a=some (PySem.W.methodObj (.ref f) (.ref x))
 | .ext φ=>φ h /\ (∃o,h.get? a=some o) /\ ∀h1 h2:Heap,φ h1->(∀o,h1.get? a=some o->h2.get? a=some o)->φ h2
noncomputable def HOk (H:Hp)(h:Heap):Prop:=∀a o,H a=some o->ObjOk P w H h a o
end
section
variable {P:Program}{w:World}{H H':Hp}{h h':Heap}{a:Addr}{o:HO}
theorem ObjOk.lt (x:ObjOk P w H h a o):a<h.objs.size:=by
 cases o with
 | lst xs=>obtain⟨_,_,_,_,e⟩:=x;exact ĉ e
 | tup xs=>obtain⟨_,_,_,p⟩:=x;exact p.lt
 | dK kvs=>obtain⟨_,_,_,_,o,_,_,e,_⟩:=x;exact ĉ e
 | dT kvs=>obtain⟨_,_,_,_,o,_,_,e,_⟩:=x;exact ĉ e
 | set S n=>obtain⟨o,_,_,_,e,_⟩:=x;exact ĉ e
 | ins C dx fs=>obtain⟨_,_,_,e,_⟩:=x;exact ĉ e
 | own y=>obtain⟨_,e⟩:=x;exact ĉ e
 | xd fs=>obtain⟨_,⟨_,_,_,e,_⟩,_⟩:=x;exact ĉ e
 | rng lo hi=>obtain⟨_,_,_,e⟩:=x;exact ĉ e
 | frz ob u=>obtain⟨e,_⟩:=x;exact ĉ e
 | tbl ps=>exact ĉ (show h.get? a=some _ from x)
 | met f y=>exact ĉ (show h.get? a=some _ from x)
 | ext φ=>obtain⟨_,⟨_,e⟩,_⟩:=x;exact ĉ e
theorem Paired.mapP {α β:Type}{F G:α->β->Prop}:∀{l₁:List α} {l₂:List β},Paired F l₁ l₂->(∀a b,F a b->G a b)->Paired G l₁ l₂
 | _,_,.nil,_=>.nil
 | _,_,.cons r t,f=>.cons (f _ _ r) (Paired.mapP t f)
theorem ObjOk.stay (x:ObjOk P w H h a o)(k:∀b u,(b=a \/ H b=some (.own a))->h.get? b=some u->h'.get? b=some u)
  (ho:∀b,H b=some (.own a)->H' b=some (.own a))(ht:∀b xs,H b=some (.tup xs)->H' b=some (.tup xs)):ObjOk P w H' h' a o:=by
 induction o with
 | lst xs=>obtain⟨z,its,n,r,e⟩:=x;exact⟨z,its,n,r,k _ _ (.inl rfl) e⟩
 | tup xs=>obtain⟨z,its,r,ob,e,c⟩:=x;exact⟨z,its,r,ob,k _ _ (.inl rfl) e,c⟩
 | dK kvs=>obtain⟨z,y,vs,r,ob,es,ep,e,c⟩:=x;exact⟨z,y,vs,r,ob,es,ep,k _ _ (.inl rfl) e,c⟩
 | dT kvs =>
  obtain⟨z,y,xs,r,ob,es,ep,e,c⟩:=x;exact⟨z,y,xs,Paired.mapP r fun p q z=>⟨z.1,ht _ _ z.2.1,z.2.2⟩,ob,es,ep,k _ _ (.inl rfl) e,c⟩
 | set S n=>obtain⟨ob,es,ep,t,e,c⟩:=x;exact⟨ob,es,ep,t,k _ _ (.inl rfl) e,c⟩
 | ins C dx fs =>
  obtain⟨d,z,ne,e,mA,⟨od,es,ep,e2,c⟩,r⟩:=x;exact⟨ho _ d,z,ne,k _ _ (.inl rfl) e,mA,⟨od,es,ep,k _ _ (.inr d) e2,c⟩,r⟩
 | own y=>obtain⟨ob,e⟩:=x;exact⟨ob,k _ _ (.inl rfl) e⟩
 | xd fs=>obtain⟨mA,⟨od,es,ep,e,c⟩,r⟩:=x;exact⟨mA,⟨od,es,ep,k _ _ (.inl rfl) e,c⟩,r⟩
 | rng lo hi=>obtain⟨t,u,v,e⟩:=x;exact⟨t,u,v,k _ _ (.inl rfl) e⟩
 | frz ob u ih=>obtain⟨e,q⟩:=x;exact⟨k _ _ (.inl rfl) e,ih q⟩
 | tbl ps =>
  have e:h.get? a=some { cls:=.none,data:=.fields ps }:=x;show h'.get? a=some { cls:=.none,data:=.fields ps };exact k a _ (.inl rfl) e
 | met f y =>
  have e:h.get? a=some (PySem.W.methodObj (.ref f) (.ref y)):=x;show h'.get? a=some (PySem.W.methodObj (.ref f) (.ref y));exact k a _ (.inl rfl) e
 | ext φ=>obtain⟨p,⟨o,e⟩,st⟩:=x;exact⟨st _ _ p fun o q=>k _ _ (.inl rfl) q,⟨o,k _ _ (.inl rfl) e⟩,st⟩
theorem HOk.lt (x:HOk P w H h)(e:H a=some o):a<h.objs.size:=(x a o e).lt
theorem HOk.fresh (x:HOk P w H h)(e:h.objs.size<=a):H a=none:=by
 cases q:H a with
 | none=>rfl
 | some u=>exact absurd (č (x.lt q) e) (ņ _)
theorem HOk.kept (x:HOk P w H h)(k:∀b u,h.get? b=some u->h'.get? b=some u):HOk P w H h':=fun a o e =>
 (x a o e).stay (fun b u _ q=>k b u q) (fun _ q=>q) fun _ _ q=>q
theorem HOk.laid (x:HOk P w H h)(k:∀b u,h.get? b=some u->h'.get? b=some u)(hp:h.objs.size<=a)(new:ObjOk P w (upd H a o) h' a o):HOk P w (upd H a o) h':=fun b u e=>by
 have hn:=x.fresh hp
 by_cases hb:b=a
 ·subst hb;rw[Á]at e;cases e;exact new
 ·rw[upd_ne hb]at e;exact(x b u e).stay (fun c v _ q=>k c v q) (fun c q=>by rw[upd_ne (Æ q hn)];exact q) fun c xs q=>by rw[upd_ne (Æ q hn)];exact q
end
noncomputable def Rd (H:Hp)(a:Addr)(u:HO):Prop:=H a=some u \/ ∃o,H a=some (.frz o u)
theorem Rd.ok {P:Program}{w:World}{H:Hp}{h:Heap}{a:Addr}{u:HO}(r:Rd H a u)(x:HOk P w H h):ObjOk P w H h a u:=by
 rcases r with r | ⟨o,r⟩
 ·exact x a u r
 ·obtain⟨_,q⟩:=x a _ r;exact q
noncomputable def Mut:Option HO->Prop
 | some (.lst _)=>True
 | some (.dK _)=>True
 | some (.dT _)=>True
 | some (.set _ _)=>True
 | some (.ins _ _ _)=>True
 | some (.ext _)=>True
 | _=>False
section
variable {P:Program}{w:World}{H:Hp}{h h':Heap}{x e:Addr}{o':HO}
theorem HOk.write (ok:HOk P w H h)(mu:Mut (H x))(he:e=x \/ H e=some (.own x))(k:∀b u,b≠e->h.get? b=some u->h'.get? b=some u)(heo:∃u,h'.get? e=some u)
  (new:ObjOk P w (upd H x o') h' x o'):HOk P w (upd H x o') h':=fun b u q=>by
 have nown:∀c y,H c=some (.own y)->c≠x:=fun c y r z=>by subst z;rw[r]at mu;exact mu
 have ntup:∀c xs,H c=some (.tup xs)->c≠x:=fun c xs r z=>by subst z;rw[r]at mu;exact mu
 by_cases hb:b=x
 ·subst hb;rw[Á]at q;cases q;exact new
 ·rw[upd_ne hb]at q
  by_cases hbe:b=e
  ·have q':H b=some (.own x):=by
    rcases he with z | z
    ·exact absurd (hbe.trans z) hb
    ·rw[hbe];exact z
   rw[q]at q';cases q';obtain⟨v,hv⟩:=heo;exact⟨v,by rw[hbe];exact hv⟩
  ·refine(ok b u q).stay (fun c v hc r=>k c v ?_ r) (fun c r=>by rw[upd_ne (nown c b r)];exact r) fun c xs r=>by rw[upd_ne (ntup c xs r)];exact r
   rcases hc with rfl | hc
   ·exact hbe
   ·rintro rfl;rcases he with z | z
    ·exact nown c b hc z
    ·rw[hc]at z;cases z;exact hb rfl
end
structure Un (fs ex:List Addr)(H H':Hp)(h h':Heap):Prop where
 keep:∀b o,h.get? b=some o->H b=none->b∉fs->b∉ex->h'.get? b=some o
 slot:∀b o,h.get? b=some o->H b=none->b∈fs->b∉ex->∃sl,h'.get? b=some { o with slots:=sl }
 free:∀b o,h.get? b=some o->H b=none->b∉ex->H' b=none
 there:∀b o,h.get? b=some o->b∉ex->∃o',h'.get? b=some o'
 tups:∀b xs,H b=some (.tup xs)->H' b=some (.tup xs)
 frzs:∀b o u,H b=some (.frz o u)->H' b=some (.frz o u)
 tbls:∀b ps,H b=some (.tbl ps)->∃more,H' b=some (.tbl (ps++more))
section
variable {fs fs' ex ex':List Addr}{H H1 H2:Hp}{h h1 h2 h':Heap}{a x e:Addr}{o:HO}
theorem Un.any (u:Un fs ex H H1 h h1){b:Addr}{ob:Obj}(q:h.get? b=some ob)(n:H b=none)(hx:b∉ex):∃sl,h1.get? b=some { ob with slots:=sl }:=by
 by_cases hb:b∈fs
 ·exact u.slot b ob q n hb hx
 ·exact⟨ob.slots,u.keep b ob q n hb hx⟩
theorem Un.kept (k:∀b u,h.get? b=some u->h'.get? b=some u):Un fs ex H H h h' :=
 ⟨fun b ob q _ _ _=>k b ob q,fun b ob q _ _ _=>⟨ob.slots,k b ob q⟩,fun _ _ _ n _=>n,fun b ob q _=>⟨ob,k b ob q⟩,fun _ _ q=>q,fun _ _ _ q=>q,fun _ ps q=>⟨#[],by rw[q];simp⟩⟩
theorem Un.refl:Un fs ex H H h h:=Un.kept fun _ _ q=>q
theorem Un.laid (k:∀b u,h.get? b=some u->h'.get? b=some u)(hp:h.objs.size<=a)(hn:H a=none):Un fs ex H (upd H a o) h h' where
 keep:=fun b u q _ _ _=>k b u q
 slot:=fun b u q _ _ _=>⟨u.slots,k b u q⟩
 free:=fun b u q n _=>by rw[upd_ne (Ĥ (č (ĉ q) hp))];exact n
 there:=fun b u q _=>⟨u,k b u q⟩
 tups:=fun b xs q=>by rw[upd_ne (Æ q hn)];exact q
 frzs:=fun b u xs q=>by rw[upd_ne (Æ q hn)];exact q
 tbls:=fun b ps q=>⟨#[],by rw[upd_ne (Æ q hn),q];simp⟩
theorem Un.write (mu:Mut (H x))(he:e=x \/ H e=some (.own x))(k:∀b u,b≠e->h.get? b=some u->h'.get? b=some u)(heo:∃u,h'.get? e=some u):Un fs ex H (upd H x o) h h':=by
 have hx:∀b,H b=none->b≠x:=fun b n z=>by subst z;rw[n]at mu;exact mu
 have hb:∀b,H b=none->b≠e:=fun b n z=>by
  subst z;rcases he with r | r
  ·exact hx b n r
  ·rw[n]at r;cases r
 have hm:∀b u,H b=some u->¬Mut (some u)->b≠x:=fun b u q nm z=>by subst z;rw[q]at mu;exact nm mu
 refine⟨fun b u q n _ _=>k b u (hb b n) q,fun b u q n _ _=>⟨u.slots,k b u (hb b n) q⟩,fun b u q n _=>by rw[upd_ne (hx b n)];exact n,fun b u q _=>?_,
  fun b xs q=>by rw[upd_ne (hm b _ q fun z=>z)];exact q,fun b u xs q=>by rw[upd_ne (hm b _ q fun z=>z)];exact q,fun b ps q=>⟨#[],by rw[upd_ne (hm b _ q fun z=>z),q];simp⟩⟩
 by_cases hbe:b=e
 ·subst hbe;exact heo
 ·exact⟨u,k b u hbe q⟩
end
noncomputable def trk (h:Heap)(H:Hp):List Addr:=(ę h.objs.size).filter fun a=>(H a).isSome
noncomputable def hidT (h:Heap)(H:Hp):Heap:=PySem.W.hideAll h (trk h H)
theorem yU1 (h:Heap)(H:Hp):(hidT h H).objs.size=h.objs.size:=PySem.W.hideAll_size _ _
theorem xA3 {h:Heap}{H:Hp}{b:Addr}{o:Obj}(e:h.get? b=some o)(n:H b=none):(hidT h H).get? b=some o :=
 PySem.W.hideAll_get _ e fun hm=>by
  have q:(H b).isSome=true:=(ĸ.mp hm).2;rw[n]at q;simp at q
theorem xH8 {h:Heap}{H:Hp}{b:Addr}{o:Obj}(e:(hidT h H).get? b=some o):h.get? b=some o /\ H b=none:=by
 have e':h.get? b=some o:=PySem.W.of_hideAll (trk h H) e;refine⟨e',?_⟩;cases q:H b with
 | none=>rfl
 | some x =>
  have hm:b∈trk h H:=ĸ.mpr ⟨ŏ.mpr (ĉ e'),by simp[q]⟩;have z:(hidT h H).get? b=none:=PySem.W.hideAll_none (trk h H) hm;rw[z]at e;cases e
noncomputable def zT7 (g h:Heap)(L:Addr):List (Addr×Obj):=(ę h.objs.size).filterMap fun a=>if a=L \/ (g.get? a).isSome=true then none else (h.get? a).map fun o=>(a,o)
theorem yC4 {g h:Heap}{L a:Addr}{o:Obj}(h1:a≠L)(h2:g.get? a=none)(h3:h.get? a=some o):(a,o)∈zT7 g h L :=
 Ŭ.mpr ⟨a,ŏ.mpr (ĉ h3),by simp[h1,h2,h3]⟩
theorem zO5 {g h:Heap}{L:Addr}{p:Addr×Obj}(hp:p∈zT7 g h L):p.1≠L /\ g.get? p.1=none /\ h.get? p.1=some p.2:=by
 obtain⟨b,_,e⟩:=Ŭ.mp hp
 split at e
 ·cases e
 ·rename_i hn;cases q:h.get? b with
  | none=>rw[q]at e;simp at e
  | some u =>
   rw[q]at e;simp only[Option.map_some,Option.some.injEq]at e;subst e;refine⟨fun z=>hn (.inl z),?_,q⟩;show g.get? b=none;cases r:g.get? b with
   | none=>rfl
   | some v=>exact(hn (.inr (by simp[r]))).elim
theorem yZ3 {g h:Heap}{L:Addr}:News g L h (zT7 g h L):=fun p hp=>let ⟨a,b,c⟩:=zO5 hp;⟨c,a,b⟩
structure Mod (K:Ă)(mg:Str->Option Value)(base:Heap):Prop where
 kin:K.In base
 glob:base.Ns mainGlobals mg
 blt:∃mb,base.Ns builtinsNs mb /\ ∀x:Str,x ≠ "__name__"->mb x=bootBuiltins x
 nolimit:base.NoLimit
set_option genInjectivity false in
structure Cx where
 prog:Program
 w:World
 K:Ă
 mg:Str->Option Value
 base:Heap
 A:Around
 N:List Str
 s₀:Shared
 H₀:Hp
 env:Env
 outer:List Env
 stack:List Env
 ex:List Addr
 fn:Str->Bool
 calm:Bool
 pn:List (Addr×Obj)
 xe:Value->Shared->Prop
noncomputable def frs (l:List Env):List Addr:=l.filterMap (·.frame)
noncomputable abbrev Cx.fs (X:Cx):List Addr:=frs X.outer
noncomputable def Vis (sc:Scope)(x:Str):Prop:=sc.names.lookup x=some .local \/ sc.names.lookup x=some .cell \/ sc.names.lookup x=some .free
noncomputable def Loc (sc:Scope)(x:Str):Prop:=sc.names.lookup x=some .local \/ sc.names.lookup x=some .cell
noncomputable def Look (env:Env)(h:Heap)(m:Str->Option Value)(x:Str)(u:Value):Prop :=
 (env.kindOf x=some .local /\ m x=some u) \/ ((env.kindOf x=some .cell \/ env.kindOf x=some .free) /\ ∃c,env.cells.lookup x=some c /\ h.IsCell c (some u))
structure Cx.Ok (X:Cx):Prop where
 mod:Mod X.K X.mg X.base
 kind:X.env.scope.kind = .function
 glob:X.env.globals=mainGlobals
 blt:X.env.builtins=builtinsNs
 above:X.s₀.heap.objs.size<=X.env.locals
 inj:∀x y c,X.env.cells.lookup x=some c->X.env.cells.lookup y=some c->x=y
 has:∀x,(X.env.kindOf x=some .cell \/ X.env.kindOf x=some .free)->∃c,X.env.cells.lookup x=some c
 cab:∀x c,X.fn x=true->X.env.cells.lookup x=some c->X.s₀.heap.objs.size<=c
 hd:X.calm=true->X.A.handled=none
 frames:X.A.frames=some X.stack
 stk:X.stack=X.outer \/ (X.stack=X.env::X.outer /\ X.env.frame=some X.env.locals)
 exf:∀b∈X.ex,b≠X.env.locals /\ ∀x c,X.env.cells.lookup x=some c->c≠b
 bs:∀b o,X.base.get? b=some o->X.s₀.heap.get? b=some o /\ X.H₀ b=none
 bsz:X.base.objs.size<=X.s₀.heap.objs.size
 noex:∀b o,X.base.get? b=some o->b∉X.ex
 exfs:∀b∈X.ex,b∉X.fs
 funs:X.s₀.heap.FunFrames X.base X.outer
 frf:∀b∈X.fs,X.H₀ b=none
structure Inv (X:Cx)(pins:List (Addr×Obj))(σ:List (Option V))(H:Hp)(s:Shared):Prop where
 ok:X.Ok
 os:s.os=X.s₀.os
 bare:AllBare s.gens
 base:Un X.fs X.ex X.H₀ H X.s₀.heap s.heap
 loc:∃m,s.heap.Ns X.env.locals m /\ ∀(i:Nat) (x:Str) (v:V),X.N[i]?=some x->σ[i]?=some (some v)->Vis X.env.scope x->∃u,RelV v u /\ Look X.env s.heap m x u
 cell:∀x c,X.env.cells.lookup x=some c->∃v,s.heap.IsCell c v
 free:H X.env.locals=none
 freeC:∀x c,X.env.cells.lookup x=some c->H c=none
 pin:∀p∈X.pn++pins,s.heap.get? p.1=some p.2 /\ H p.1=none /\ p.1≠X.env.locals /\ p.1∉X.fs /\ ∀v,p.2.data ≠ .cell v
 hok:HOk X.prog X.w H s.heap
 len:σ.length=X.N.length
section
variable {X:Cx}{pins:List (Addr×Obj)}{σ:List (Option V)}{H H':Hp}{s:Shared}{h':Heap}
theorem Cx.Ok.nofr (ok:X.Ok){b:Addr}{o:Obj}(e:X.base.get? b=some o):b∉X.fs:=fun hb=>by
 have:=(ok.funs.mem hb).1;rw[e]at this;cases this
theorem Inv.bs (I:Inv X pins σ H s):∀b o,X.base.get? b=some o->s.heap.get? b=some o /\ H b=none:=fun b o e =>
 ⟨I.base.keep b o (I.ok.bs b o e).1 (I.ok.bs b o e).2 (I.ok.nofr e) (I.ok.noex b o e),I.base.free b o (I.ok.bs b o e).1 (I.ok.bs b o e).2 (I.ok.noex b o e)⟩
theorem Inv.bk (I:Inv X pins σ H s):∀b o,X.base.get? b=some o->s.heap.get? b=some o:=fun b o e=>(I.bs b o e).1
theorem Inv.mod (I:Inv X pins σ H s):Mod X.K X.mg X.base:=I.ok.mod
theorem Inv.kIn (I:Inv X pins σ H s):X.K.In s.heap:=I.ok.mod.kin.keeps I.bk
theorem Inv.lt (I:Inv X pins σ H s):X.env.locals<s.heap.objs.size:=let ⟨_,hn,_⟩:=I.loc;hn.lt
theorem Inv.sz (I:Inv X pins σ H s):X.s₀.heap.objs.size<=s.heap.objs.size:=Č I.ok.above (Ş I.lt)
theorem Inv.nofs (I:Inv X pins σ H s){a:Addr}(h:s.heap.objs.size<=a):a∉X.fs:=fun hb=>by
 obtain⟨_,o,ho,_⟩:=I.ok.funs.mem hb;exact absurd (č (ĉ ho) (Č I.sz h)) (ņ _)
theorem Inv.cne (I:Inv X pins σ H s):∀x c,X.env.cells.lookup x=some c->c≠X.env.locals:=fun x c e z=>by
 obtain⟨v,o,ho,hd⟩:=I.cell x c e;obtain⟨m,⟨o',es,ep,ho',hd',_⟩,_⟩:=I.loc;rw[z,ho']at ho;cases ho;rw[hd']at hd;cases hd
theorem Inv.funs (I:Inv X pins σ H s):s.heap.FunFrames X.base X.outer:=by
 have all:∀(l:List Env),(∀b∈frs l,b∈X.fs)->X.s₀.heap.FunFrames X.base l->s.heap.FunFrames X.base l:=by
  intro l
  induction l with
  | nil=>intro _ _;trivial
  | cons env r ih =>
   intro hs hl;obtain⟨hk,⟨L,o,hf,hn,ho,hd⟩,hr⟩:=hl;have hL:L∈X.fs:=hs L (by unfold frs;rw[List.filterMap_cons,hf];exact Ć);obtain⟨sl,e⟩:=I.base.slot L o ho (I.ok.frf L hL) hL fun z=>I.ok.exfs L z hL;exact⟨hk,⟨L,_,hf,hn,e,hd⟩,ih (fun b hb=>hs b (by unfold frs;rw[List.filterMap_cons,hf];exact ă _ hb)) hr⟩
 exact all X.outer (fun _ hb=>hb) I.ok.funs
theorem Inv.stack (I:Inv X pins σ H s):s.heap.FunFrames X.base X.stack:=by
 rcases I.ok.stk with e | ⟨e,hf⟩
 ·rw[e];exact I.funs
 ·rw[e];obtain⟨m,hn,_⟩:=I.loc;refine .cons (by rw[I.ok.kind];decide) hf hn ?_ I.funs;exact Heap.get?_none_of_le (Č I.ok.bsz I.ok.above)
theorem Inv.stkSub (I:Inv X pins σ H s):∀b∈frs X.stack,b∈X.env.locals::X.fs:=fun b hb=>by
 rcases I.ok.stk with e | ⟨e,hf⟩
 ·rw[e]at hb;exact ă _ hb
 ·rw[e]at hb;unfold frs at hb;rw[List.filterMap_cons,hf]at hb;exact hb
theorem Inv.stkFree (I:Inv X pins σ H s):∀b∈frs X.stack,H b=none:=fun b hb=>by
 rcases Ē.mp (I.stkSub b hb) with e | hb
 ·rw[e];exact I.free
 ·obtain⟨_,o,ho,_⟩:=I.ok.funs.mem hb;exact I.base.free b o ho (I.ok.frf b hb) fun z=>I.ok.exfs b z hb
theorem Inv.step {g':Array GenState}{t':Nat}{d':Drawn}{ch:List Addr}(I:Inv X pins σ H s)
  (hch:∀b∈ch,(b∈X.ex \/ X.s₀.heap.objs.size<=b) /\ b≠X.env.locals /\ (∀x c,X.env.cells.lookup x=some c->c≠b) /\ ∀p∈X.pn++pins,p.1≠b)
  (keep:∀b o,b≠X.env.locals->b∉X.fs->b∉ch->s.heap.get? b=some o->H b=none->h'.get? b=some o)
  (slot:∀b o,b≠X.env.locals->b∈X.fs->b∉ch->s.heap.get? b=some o->H b=none->∃sl,h'.get? b=some { o with slots:=sl })(free:∀b o,b∉ch->s.heap.get? b=some o->H b=none->H' b=none)
  (there:∀b o,b∉ch->s.heap.get? b=some o->∃o',h'.get? b=some o')
  (tups:∀b xs,H b=some (.tup xs)->H' b=some (.tup xs))(frzs:∀b o u,H b=some (.frz o u)->H' b=some (.frz o u))(tbls:∀b ps,H b=some (.tbl ps)->∃more,H' b=some (.tbl (ps++more)))
  (ns:∀m,s.heap.Ns X.env.locals m->h'.Ns X.env.locals m)(hok:HOk X.prog X.w H' h')(hg:AllBare g') :
  Inv X pins σ H' { s with heap:=h',gens:=g',drawn:=d',toks:=t' }:=by
 have neL:∀b o,X.s₀.heap.get? b=some o->b≠X.env.locals:=fun b o e=>Ĥ (č (ĉ e) I.ok.above);have neC:∀b o,X.s₀.heap.get? b=some o->b∉X.ex->b∉ch:=fun b o e hx hb=>by
  rcases (hch b hb).1 with z | z
  ·exact hx z
  ·exact absurd (č (ĉ e) z) (ņ _)
 have cellK:∀x c,X.env.cells.lookup x=some c->∀v,s.heap.IsCell c v->h'.IsCell c v:=fun x c e v ⟨o,ho,hd⟩=>by
  have nch:c∉ch:=fun z=>(hch c z).2.2.1 x c e rfl
  by_cases hc:c∈X.fs
  ·obtain⟨sl,q⟩:=slot c o (I.cne x c e) hc nch ho (I.freeC x c e);exact⟨_,q,hd⟩
  ·exact⟨o,keep c o (I.cne x c e) hc nch ho (I.freeC x c e),hd⟩
 refine⟨I.ok,I.os,hg,⟨fun b o e n hb hx=>?_,fun b o e n hb hx=>?_,fun b o e n hx=>?_,fun b o e hx=>?_,fun b xs e=>tups b xs (I.base.tups b xs e),fun b o xs e=>frzs b o xs (I.base.frzs b o xs e),fun b ps e=>?_⟩,?_,fun x c e=>?_,?_,fun x c e=>?_,fun p hp=>?_,hok,I.len⟩
 ·exact keep b o (neL b o e) hb (neC b o e hx) (I.base.keep b o e n hb hx) (I.base.free b o e n hx)
 ·obtain⟨sl,e1⟩:=I.base.slot b o e n hb hx;obtain⟨sl',e2⟩:=slot b _ (neL b o e) hb (neC b o e hx) e1 (I.base.free b o e n hx);exact⟨sl',e2⟩
 ·obtain⟨o',e1⟩:=I.base.there b o e hx;exact free b o' (neC b o e hx) e1 (I.base.free b o e n hx)
 ·obtain⟨o',e1⟩:=I.base.there b o e hx;exact there b o' (neC b o e hx) e1
 ·obtain⟨m1,e1⟩:=I.base.tbls b ps e;obtain⟨m2,e2⟩:=tbls b _ e1;exact⟨m1++m2,by rw[e2,Array.append_assoc]⟩
 ·obtain⟨m,hn,hl⟩:=I.loc;refine⟨m,ns m hn,fun i x v e1 e2 e3=>?_⟩;obtain⟨u,r,l⟩:=hl i x v e1 e2 e3;refine⟨u,r,?_⟩;rcases l with l | ⟨k,c,e,z⟩
  ·exact .inl l
  ·exact .inr ⟨k,c,e,cellK x c e _ z⟩
 ·obtain⟨v,z⟩:=I.cell x c e;exact⟨v,cellK x c e v z⟩
 ·obtain⟨m,⟨o,_,_,ho,_⟩,_⟩:=I.loc;exact free _ o (fun z=>(hch _ z).2.1 rfl) ho I.free
 ·obtain⟨v,o,ho,hd⟩:=I.cell x c e;exact free c o (fun z=>(hch c z).2.2.1 x c e rfl) ho (I.freeC x c e)
 ·obtain⟨e,n,ne,nf,d⟩:=I.pin p hp;have nch:p.1∉ch:=fun z=>(hch p.1 z).2.2.2 p hp rfl;exact⟨keep p.1 p.2 ne nf nch e n,free p.1 p.2 nch e n,ne,nf,d⟩
theorem Inv.un {t':Nat}(I:Inv X pins σ H s)(u:Un X.fs [] H H' s.heap h')(hok:HOk X.prog X.w H' h'):Inv X pins σ H' { s with heap:=h',toks:=t' }:=by
 obtain⟨m,⟨o,es,ep,ho,r⟩,_⟩:=id I.loc;obtain⟨sl,hL⟩:=u.any ho I.free (by simp);exact I.step (g':=s.gens) (d':=s.drawn) (ch:=[]) (fun _ z=>nomatch z) (fun b o _ hb _ e n=>u.keep b o e n hb (by simp)) (fun b o _ hb _ e n=>u.slot b o e n hb (by simp)) (fun b o _ e n=>u.free b o e n (by simp)) (fun b o _ e=>u.there b o e (by simp)) u.tups u.frzs u.tbls (fun m' hm=>by
  obtain⟨o',es',ep',ho',r'⟩:=hm;rw[ho]at ho';cases ho';exact⟨_,es',ep',hL,r'⟩) hok I.bare
theorem Inv.call {g':Array GenState}{t':Nat}{d':Drawn}{ch:List Addr}(I:Inv X pins σ H s)(u:Un (frs X.stack) ch H H' s.heap h')(hok:HOk X.prog X.w H' h')(hg:AllBare g')
  (hch:∀b∈ch,(b∈X.ex \/ X.s₀.heap.objs.size<=b) /\ b≠X.env.locals /\ (∀x c,X.env.cells.lookup x=some c->c≠b) /\ ∀p∈X.pn++pins,p.1≠b) :
  Inv X pins σ H' { s with heap:=h',gens:=g',drawn:=d',toks:=t' }:=by
 obtain⟨m,⟨o,es,ep,ho,r⟩,_⟩:=id I.loc;obtain⟨sl,hL⟩:=u.any ho I.free fun z=>(hch _ z).2.1 rfl;exact I.step (ch:=ch) hch (fun b o hL hb hc e n=>u.keep b o e n (fun z=>(Ē.mp (I.stkSub b z)).elim hL hb) hc) (fun b o _ _ hc e n=>u.any e n hc) (fun b o hc e n=>u.free b o e n hc) (fun b o hc e=>u.there b o e hc) u.tups u.frzs u.tbls (fun m' hm=>by
  obtain⟨o',es',ep',ho',r'⟩:=hm;rw[ho]at ho';cases ho';exact⟨_,es',ep',hL,r'⟩) hok hg
theorem Inv.turned {t':Nat}{it:Addr}(I:Inv X pins σ H s)(k:∀b o,b≠it->s.heap.get? b=some o->h'.get? b=some o)(hn:H it=none)(hL:it≠X.env.locals)
  (h1:it∈X.ex \/ X.s₀.heap.objs.size<=it)(h2:∀x c,X.env.cells.lookup x=some c->c≠it)(h3:∀p∈X.pn++pins,p.1≠it):Inv X pins σ H { s with heap:=h',toks:=t' }:=by
 have nit:∀b u,H b=some u->b≠it:=fun b u e z=>by rw[z,hn]at e;cases e
 refine I.step (g':=s.gens) (d':=s.drawn) (ch:=[it]) (fun b hb=>?_) (fun b o _ _ hc e _=>k b o (fun z=>hc (by simp[z])) e) (fun b o _ _ hc e _=>⟨o.slots,k b o (fun z=>hc (by simp[z])) e⟩) (fun _ _ _ _ n=>n)
  (fun b o hc e=>⟨o,k b o (fun z=>hc (by simp[z])) e⟩) (fun _ _ e=>e) (fun _ _ _ e=>e) (fun b ps e=>⟨#[],by rw[e];simp⟩) (fun m hm=>?_) (fun b u e=>?_) I.bare
 ·have e:b=it:=by simpa using hb
  subst e;exact⟨h1,hL,h2,h3⟩
 ·obtain⟨o,es,ep,ho,r⟩:=hm;exact⟨o,es,ep,k _ o (Ne.symm hL) ho,r⟩
 ·refine(I.hok b u e).stay (fun c v hc q=>k c v ?_ q) (fun _ q=>q) fun _ _ q=>q;rcases hc with z | z
  ·rw[z];exact nit b u e
  ·exact nit c _ z
theorem Inv.tok (I:Inv X pins σ H s)(t:Nat):Inv X pins σ H { s with toks:=t }:=I.un (h':=s.heap) (t':=t) Un.refl I.hok
theorem Inv.kept {t':Nat}(I:Inv X pins σ H s)(k:∀b u,s.heap.get? b=some u->h'.get? b=some u):Inv X pins σ H { s with heap:=h',toks:=t' }:=I.un (Un.kept k) (I.hok.kept k)
theorem Inv.laid {a:Addr}{o:HO}{t':Nat}(I:Inv X pins σ H s)(k:∀b u,s.heap.get? b=some u->h'.get? b=some u)(hp:s.heap.objs.size<=a)(new:ObjOk X.prog X.w (upd H a o) h' a o) :
  Inv X pins σ (upd H a o) { s with heap:=h',toks:=t' }:=I.un (Un.laid k hp (I.hok.fresh hp)) (I.hok.laid k hp new)
theorem Inv.write {x e:Addr}{o:HO}{t':Nat}(I:Inv X pins σ H s)(mu:Mut (H x))(he:e=x \/ H e=some (.own x))(k:∀b u,b≠e->s.heap.get? b=some u->h'.get? b=some u)(heo:∃u,h'.get? e=some u)
  (new:ObjOk X.prog X.w (upd H x o) h' x o):Inv X pins σ (upd H x o) { s with heap:=h',toks:=t' }:=I.un (Un.write mu he k heo) (I.hok.write mu he k heo new)
theorem Inv.pins_of {pins':List (Addr×Obj)}(I:Inv X pins σ H s)(h:∀p∈pins',s.heap.get? p.1=some p.2 /\ H p.1=none /\ p.1≠X.env.locals /\ p.1∉X.fs /\ ∀v,p.2.data ≠ .cell v):Inv X pins' σ H s :=
 ⟨I.ok,I.os,I.bare,I.base,I.loc,I.cell,I.free,I.freeC,fun p hp=>(ĝ.mp hp).elim (fun z=>I.pin p (List.mem_append_left _ z)) (h p),I.hok,I.len⟩
theorem yG8 {N:List Str}(hN:N.Nodup){i j:Nat}{x:Str}(a:N[i]?=some x)(b:N[j]?=some x):i=j:=by
 obtain⟨h1,e1⟩:=Ą.mp a;obtain⟨h2,e2⟩:=Ą.mp b;exact(List.getElem_inj hN).mp (e1.trans e2.symm)
theorem zU8 {M:Model}{A:Around}{E:Value->Shared->Prop}{i:Nat}{x:Str}{v:V}{u:Value}{Q:Unit->Shared->Prop}(I:Inv X pins σ H s)(hN:X.N.Nodup)(hi:X.N[i]?=some x)(hx:Loc X.env.scope x)(r:RelV v u)
  (h:∀s',Inv X pins (σ.set i (some v)) H s'->(∃a,Heap.SameBut a s.heap s'.heap /\ (a=X.env.locals \/ X.env.cells.lookup x=some a))->Q () s')(hf:X.fn x=true \/ X.env.scope.names.lookup x=some .local:=by first | exact .inl rfl | exact .inr rfl | assumption):wpAny M A (storeName X.env x u) Q E s:=by
 obtain⟨m,hn,hl⟩:=id I.loc;have hcls:(X.env.scope.kind == .class||(X.env.scope.kind == .module&&X.env.locals != X.env.globals))=false:=by rw[I.ok.kind];rfl
 have hiσ:i<σ.length:=by rw[I.len];exact(Ą.mp hi).1
 have cne:=I.cne;have tracked:∀{a:Addr} {h':Heap},(∃o,s.heap.get? a=some o /\ H a=none)->Heap.SameBut a s.heap h'->HOk X.prog X.w H h':=fun {a h'} ha hs b ob e=>by
  obtain⟨_,_,hfree⟩:=ha;refine(I.hok b ob e).stay (fun c w' hc q=>(hs.2 c ?_).trans q) (fun _ q=>q) fun _ _ q=>q;rintro rfl;rcases hc with rfl | hc
  ·rw[hfree]at e;cases e
  ·rw[hfree]at hc;cases hc
 rcases hx with hk | hk
 ·refine wpAny_storeName_local hk hn (fun h' hn' hs=>?_) hcls;obtain⟨oL,_,_,hoL,_⟩:=id hn;refine h _ ⟨I.ok,I.os,I.bare,⟨fun b o e n hb hx=>?_,fun b o e n hb hx=>?_,I.base.free,fun b o e hx=>?_,I.base.tups,I.base.frzs,I.base.tbls⟩,⟨_,hn',fun j y v' e1 e2 e3=>?_⟩,fun y c e=>?_,I.free,I.freeC,fun p hp=>?_,tracked ⟨oL,hoL,I.free⟩ hs,by simpa using I.len⟩ ⟨_,hs,.inl rfl⟩
  ·exact(hs.2 b (Ĥ (č (ĉ e) I.ok.above))).trans (I.base.keep b o e n hb hx)
  ·obtain⟨sl,e1⟩:=I.base.slot b o e n hb hx;exact⟨sl,(hs.2 b (Ĥ (č (ĉ e) I.ok.above))).trans e1⟩
  ·obtain⟨o',e1⟩:=I.base.there b o e hx;exact⟨o',(hs.2 b (Ĥ (č (ĉ e) I.ok.above))).trans e1⟩
  ·by_cases hj:j=i
   ·subst hj;rw[hi]at e1;cases e1;rw[List.getElem?_set_self hiσ]at e2;cases e2;exact⟨u,r,.inl ⟨hk,by simp⟩⟩
   ·rw[List.getElem?_set_ne (Ne.symm hj)]at e2;obtain⟨u',r',q⟩:=hl j y v' e1 e2 e3;refine⟨u',r',?_⟩;rcases q with⟨k,e⟩ | ⟨k,c,e,z⟩
    ·refine .inl ⟨k,?_⟩;have:y≠x:=fun e=>hj (yG8 hN e1 (e▸hi));simp[this,e]
    ·exact .inr ⟨k,c,e,z.sameBut hs (cne y c e)⟩
  ·obtain⟨w',z⟩:=I.cell y c e;exact⟨w',z.sameBut hs (cne y c e)⟩
  ·obtain⟨e,n,ne,nf,d⟩:=I.pin p hp;exact⟨(hs.2 p.1 ne).trans e,n,ne,nf,d⟩
 ·have hfn:X.fn x=true:=by
   rcases hf with z | z
   ·exact z
   ·rw[z]at hk;cases hk
  obtain⟨c,hc⟩:=I.ok.has x (.inl hk);obtain⟨w',z⟩:=I.cell x c hc;refine wpAny_storeName_cell I.ok.kind hk hc z (fun h' hc' hs=>?_);obtain⟨oc,hoc,hocd⟩:=id z;refine h { s with heap:=h' } ⟨I.ok,I.os,I.bare,⟨fun b o e n hb hx=>?_,fun b o e n hb hx=>?_,I.base.free,fun b o e hx=>?_,I.base.tups,I.base.frzs,I.base.tbls⟩,⟨m,hn.sameBut hs (Ne.symm (cne x c hc)),fun j y v' e1 e2 e3=>?_⟩,fun y c' e=>?_,I.free,I.freeC,fun p hp=>?_,tracked ⟨oc,hoc,I.freeC x c hc⟩ hs,by simpa using I.len⟩ ⟨c,hs,.inr hc⟩
  ·exact(hs.2 b (Ĥ (č (ĉ e) (I.ok.cab x c hfn hc)))).trans (I.base.keep b o e n hb hx)
  ·obtain⟨sl,e1⟩:=I.base.slot b o e n hb hx;exact⟨sl,(hs.2 b (Ĥ (č (ĉ e) (I.ok.cab x c hfn hc)))).trans e1⟩
  ·obtain⟨o',e1⟩:=I.base.there b o e hx;exact⟨o',(hs.2 b (Ĥ (č (ĉ e) (I.ok.cab x c hfn hc)))).trans e1⟩
  ·by_cases hj:j=i
   ·subst hj;rw[hi]at e1;cases e1;rw[List.getElem?_set_self hiσ]at e2;cases e2;exact⟨u,r,.inr ⟨.inl hk,c,hc,hc'⟩⟩
   ·rw[List.getElem?_set_ne (Ne.symm hj)]at e2;obtain⟨u',r',q⟩:=hl j y v' e1 e2 e3;refine⟨u',r',?_⟩;rcases q with q | ⟨k,c',e,z'⟩
    ·exact .inl q
    ·refine .inr ⟨k,c',e,z'.sameBut hs ?_⟩;rintro rfl;exact hj (yG8 hN e1 (I.ok.inj _ _ _ e hc▸hi))
  ·by_cases hcc:c'=c
   ·subst hcc;exact⟨_,hc'⟩
   ·obtain⟨w2,z2⟩:=I.cell y c' e;exact⟨w2,z2.sameBut hs hcc⟩
  ·obtain⟨e,n,ne,nf,d⟩:=I.pin p hp;refine⟨(hs.2 p.1 ?_).trans e,n,ne,nf,d⟩;intro q;rw[q,hoc]at e;have q':oc=p.2:=Option.some.inj e;exact d w' (by rw[<- q'];exact hocd)
theorem zF4 {M:Model}{A:Around}{E:Value->Shared->Prop}{i:Nat}{x:Str}{v:V}{u:Value}{Q:Unit->Shared->Prop}(I:Inv X pins σ H s)(hN:X.N.Nodup)(hi:X.N[i]?=some x)(hx:Loc X.env.scope x)(r:RelV v u)
  (h:∀s',Inv X pins (σ.set i (some v)) H s'->Q () s')(hf:X.fn x=true \/ X.env.scope.names.lookup x=some .local:=by first | exact .inl rfl | exact .inr rfl | assumption):wpAny M A (storeName X.env x u) Q E s :=
 zU8 I hN hi hx r (fun s' I' _=>h s' I') hf
theorem Inv.call' {s':Shared}{ch:List Addr}(I:Inv X pins σ H s)(ho:s'.os=s.os)(u:Un (frs X.stack) ch H H' s.heap s'.heap)(hok:HOk X.prog X.w H' s'.heap)(hg:AllBare s'.gens)
  (hch:∀b∈ch,(b∈X.ex \/ X.s₀.heap.objs.size<=b) /\ b≠X.env.locals /\ (∀x c,X.env.cells.lookup x=some c->c≠b) /\ ∀p∈X.pn++pins,p.1≠b):Inv X pins σ H' s':=by
 obtain⟨h',g',d',t',o'⟩:=s';have e:o'=s.os:=ho;subst e;exact I.call (g':=g') (t':=t') (d':=d') u hok hg hch
end
noncomputable abbrev XK:=Value->Option Addr->Hp->Prop
noncomputable abbrev St:=List (Option V)
noncomputable abbrev VK:=V->Hp->Prop
noncomputable abbrev TE:=St->Hp->VK->Prop
noncomputable abbrev TT:=St->Hp->(Bool->Hp->Prop)->Prop
noncomputable abbrev TA:=St->Hp->(List V->Hp->Prop)->Prop
set_option genInjectivity false in
structure Ends where
 nx:St->Hp->Prop
 rt:VK
 bk:St->Hp->Prop:=fun _ _=>False
 ct:St->Hp->Prop:=fun _ _=>False
noncomputable abbrev TS:=Ends->St->Hp->Prop
noncomputable def EP (X:Cx)(pins:List (Addr×Obj))(σ:St)(Q:VK)(u:Value)(s':Shared):Prop:=∃v H',Inv X pins σ H' s' /\ RelV v u /\ Q v H'
noncomputable def TP (X:Cx)(pins:List (Addr×Obj))(σ:St)(Q:Bool->Hp->Prop)(b:Bool)(s':Shared):Prop:=∃H',Inv X pins σ H' s' /\ Q b H'
noncomputable def AP (X:Cx)(pins:List (Addr×Obj))(σ:St)(Q:List V->Hp->Prop)(us:List Value)(s':Shared):Prop:=∃vs H',Inv X pins σ H' s' /\ Vals vs us /\ Q vs H'
noncomputable def SP (X:Cx)(pins:List (Addr×Obj))(D:Ends)(f:Flow)(s':Shared):Prop :=
 match f with
 | .next=>∃σ' H',Inv X pins σ' H' s' /\ D.nx σ' H'
 | .brk=>∃σ' H',Inv X pins σ' H' s' /\ D.bk σ' H'
 | .cont=>∃σ' H',Inv X pins σ' H' s' /\ D.ct σ' H'
 | .ret u=>∃v σ' H',Inv X pins σ' H' s' /\ RelV v u /\ D.rt v H'
noncomputable def PE (X:Cx)(e:Expr)(t:TE):Prop :=
 ∀(pins:List (Addr×Obj)) (s:Shared) (σ:St) (H:Hp) (Q:VK),Inv X pins σ H s->t σ H Q->wpAny (model X.prog X.w) X.A (eval e X.env) (EP X pins σ Q) X.xe s
noncomputable def PT (X:Cx)(e:Expr)(t:TT):Prop :=
 ∀(pins:List (Addr×Obj)) (s:Shared) (σ:St) (H:Hp) (Q:Bool->Hp->Prop),Inv X pins σ H s->t σ H Q->wpAny (model X.prog X.w) X.A (isTrue e X.env (eval e X.env)) (TP X pins σ Q) X.xe s
noncomputable def PW (X:Cx)(e:Expr)(t:TT):Prop :=
 ∀(whole:Sem Value) (pins:List (Addr×Obj)) (s:Shared) (σ:St) (H:Hp) (Q:Bool->Hp->Prop),Inv X pins σ H s->t σ H Q->wpAny (model X.prog X.w) X.A (isTrue e X.env whole) (TP X pins σ Q) X.xe s
theorem PW.pt {X:Cx}{e:Expr}{t:TT}(h:PW X e t):PT X e t:=h _
noncomputable def PA (X:Cx)(es:List Expr)(t:TA):Prop :=
 ∀(pos:Pos) (pins:List (Addr×Obj)) (s:Shared) (σ:St) (H:Hp) (Q:List V->Hp->Prop),Inv X pins σ H s->t σ H Q->wpAny (model X.prog X.w) X.A (spliced (backTo pos (starEach es X.env))) (AP X pins σ Q) X.xe s
noncomputable def PS (X:Cx)(st:Stmt)(t:TS):Prop :=
 ∀(pins:List (Addr×Obj)) (s:Shared) (σ:St) (H:Hp) (D:Ends),Inv X pins σ H s->t D σ H->wpAny (model X.prog X.w) X.A (exec st X.env) (SP X pins D) X.xe s
noncomputable def PSs (X:Cx)(st:List Stmt)(t:TS):Prop :=
 ∀(pins:List (Addr×Obj)) (s:Shared) (σ:St) (H:Hp) (D:Ends),Inv X pins σ H s->t D σ H->wpAny (model X.prog X.w) X.A (execs st X.env) (SP X pins D) X.xe s
theorem thn {α:Type}{t:Sem α}{Q Q':α->Shared->Prop}{M:Model}{A:Around}{E:Value->Shared->Prop}{s:Shared}(h:wpAny M A t Q E s)(hQ:∀a s,Q a s->Q' a s):wpAny M A t Q' E s:=wpAny_mono h hQ fun _ _ x=>x
section
variable {X:Cx}
noncomputable def tVar (i:Nat):TE:=fun σ H Q=>∃v,σ[i]?=some (some v) /\ Q v H
noncomputable def tC (v:V):TE:=fun _ H Q=>Q v H
theorem xM5 {i:Nat}{x:Str}{pos:Pos}(hN:X.N[i]?=some x)(hv:Vis X.env.scope x)(hd:(x==("__debug__":Str))=false:=by decide)(hcd:(x==("__classdict__":Str))=false:=by decide):PE X (.Name x pos) (tVar i):=by
 intro pins s σ H Q I h;obtain⟨v,e,h⟩:=h;obtain⟨m,hn,hl⟩:=I.loc;obtain⟨u,r,l⟩:=hl i x v hN e hv;have fin:EP X pins σ Q u s:=⟨v,H,I,r,h⟩;rcases l with⟨hk,hm⟩ | ⟨hk,c,hc,hcell⟩
 ·exact wpAny_Name (wpAny_loadName_local I.ok.kind hk hn hm fin) hd
 ·rcases hk with hk | hk
  ·exact wpAny_Name (wpAny_loadName_cell I.ok.kind hk hc hcell fin) hd
  ·exact wpAny_Name (wpAny_loadName_free I.ok.kind hk hc hcell fin hcd) hd
theorem Ã {i j pos}:PE X (.Constant (.int i) j pos) (tC (.int i)):=fun _ _ _ H _ I h=>wpAny_Constant_int ⟨.int i,H,I.tok _,⟨_,rfl⟩,h⟩
theorem ρ {b j pos}:PE X (.Constant (.bool b) j pos) (tC (.bl b)):=fun _ _ _ H _ I h=>Constant_bool ⟨.bl b,H,I,rfl,h⟩
theorem yQ4 {j pos}:PE X (.Constant .none j pos) (tC .non):=fun _ _ _ H _ I h=>Constant_none ⟨.non,H,I,rfl,h⟩
theorem í {x j pos}:PE X (.Constant (.str x) j pos) (tC (.str x)):=fun _ _ _ H _ I h=>Calls.Constant_str ⟨.str x,H,I.tok _,⟨_,rfl⟩,h⟩
noncomputable def Gl (X:Cx)(x:Str):Prop:=X.env.kindOf x=some .globalImplicit
theorem yS7 {E:Value->Shared->Prop}{pins:List (Addr×Obj)}{s:Shared}{σ:St}{H:Hp}{x:Str}{u:Value}{pos:Pos}{Q:Value->Shared->Prop}(I:Inv X pins σ H s)(hg:Gl X x)(hm:X.mg x=some u)(h:Q u s)
  (hd:(x==("__debug__":Str))=false:=by decide):wpAny (model X.prog X.w) X.A (eval (.Name x pos) X.env) Q E s :=
 Calls.Name_function_global I.ok.kind hg (Calls.loadGlobal_global (by rw[I.ok.glob];exact I.mod.glob.keeps I.bk) hm h) hd
theorem η {E:Value->Shared->Prop}{pins:List (Addr×Obj)}{s:Shared}{σ:St}{H:Hp}{x:Str}{u:Value}{pos:Pos}{Q:Value->Shared->Prop}(I:Inv X pins σ H s)(hg:Gl X x)(hm:X.mg x=none)(hv:bootBuiltins x=some u)(h:Q u s)
  (hn:x ≠ "__name__":=by decide)(hd:(x==("__debug__":Str))=false:=by decide):wpAny (model X.prog X.w) X.A (eval (.Name x pos) X.env) Q E s:=by
 obtain⟨mb,h1,h2⟩:=I.mod.blt;exact Calls.Name_function_global I.ok.kind hg (Calls.loadGlobal_builtin (by rw[I.ok.glob];exact I.mod.glob.keeps I.bk) hm (by rw[I.ok.blt];exact h1.keeps I.bk) ((h2 x hn).trans hv) h) hd
theorem yQ5 {x:Str}{v:V}{u:Value}{pos:Pos}(hg:Gl X x)(hm:X.mg x=none)(hv:bootBuiltins x=some u)(r:RelV v u)(hn:x ≠ "__name__":=by decide)(hd:(x==("__debug__":Str))=false:=by decide):PE X (.Name x pos) (tC v) :=
 fun _ _ _ H _ I h=>η I hg hm hv ⟨v,H,I,r,h⟩ hn hd
variable {a b:Expr}{ta tb:TE}{pos:Pos}
noncomputable def PC (X:Cx)(op:CmpOp)(a b:Expr)(t:TE):Prop :=
 ∀(pins:List (Addr×Obj)) (s:Shared) (σ:St) (H:Hp) (Q:VK),Inv X pins σ H s->t σ H Q ->
  wpAny (model X.prog X.w) X.A (eval a X.env) (fun v s₁=>wpAny (model X.prog X.w) X.A (eval b X.env) (fun u s₂=>wpAny (model X.prog X.w) X.A (compareOp op v u) (EP X pins σ Q) X.xe s₂) X.xe s₁) X.xe s
noncomputable def tB (t:TE):TT:=fun σ H Q=>t σ H fun x H1=>∃c,x = .bl c /\ Q c H1
theorem xM7 {op:CmpOp}{t:TE}(h:PC X op a b t)(h1:behindInMarks op b=false:=by first | exact nobehind _ (by decide) (by decide) | rfl):PE X (.Compare a [op] [b] pos) t:=fun pins s σ H Q I hw=>wpAny_Compare1 (h pins s σ H Q I hw) h1
theorem yP6 {op:CmpOp}{t:TE}(h:PC X op a b t)(h1:behindInMarks op b=false:=by first | exact nobehind _ (by decide) (by decide) | rfl):PT X (.Compare a [op] [b] pos) (tB t):=by
 intro pins s σ H Q I hw;refine wpAny_isTrue_Compare1 (thn (h pins s σ H _ I hw) fun v s1 h1=>thn h1 fun u s2 h2=>thn h2 fun c s3 ⟨x,H1,I1,r1,q1⟩=>?_) h1;obtain⟨d,rfl,q⟩:=q1;cases r1;exact wpAny_truthy_bool ⟨H1,I1,q⟩
theorem Ψ {e:Expr}{t:TE}(h:PE X e t)(he:∀whole,isTrue e X.env whole=(do let v <- whole;standAt e.pos;holding [v] (truthy v)):=by intro _;rfl):PT X e (tB t):=by
 intro pins s σ H Q I hw;refine isTrue_plain (thn (h pins s σ H _ I hw) fun v s1 ⟨x,H1,I1,r1,q1⟩=>?_) (he _);obtain⟨d,rfl,q⟩:=q1;cases r1;exact wpAny_truthy_bool ⟨H1,I1,q⟩
variable {tA tB':TT}{rest:List Expr}
noncomputable def tAnd (t u:TT):TT:=fun σ H Q=>t σ H fun c H1=>if c=true then u σ H1 Q else Q false H1
noncomputable def tOr (t u:TT):TT:=fun σ H Q=>t σ H fun c H1=>if c=true then Q true H1 else u σ H1 Q
noncomputable def tNot (t:TT):TT:=fun σ H Q=>t σ H fun c H1=>Q (!c) H1
theorem xG3 (ha:PT X a tA):PW X (.BoolOp .And [a] pos) tA:=by
 intro wh pins s σ H Q I h;refine isTrue_and (thn (ha pins s σ H Q I h) fun c s1 e=>?_);cases c with
 | true=>exact isTrue_and_nil e
 | false=>exact e
theorem yG4 (ha:PT X a tA):PW X (.BoolOp .Or [a] pos) tA:=by
 intro wh pins s σ H Q I h;refine isTrue_or (thn (ha pins s σ H Q I h) fun c s1 e=>?_);cases c with
 | false=>exact isTrue_or_nil e
 | true=>exact e
theorem xM2 (ha:PT X a tA)(hb:PW X (.BoolOp .And (b::rest) pos) tB'):PW X (.BoolOp .And (a::b::rest) pos) (tAnd tA tB'):=by
 intro wh pins s σ H Q I h;refine isTrue_and (thn (ha pins s σ H _ I h) fun c s1 ⟨H1,I1,q1⟩=>?_);cases c with
 | true=>exact hb wh pins s1 σ H1 Q I1 q1
 | false=>exact⟨H1,I1,q1⟩
theorem yP4 (ha:PT X a tA)(hb:PW X (.BoolOp .Or (b::rest) pos) tB'):PW X (.BoolOp .Or (a::b::rest) pos) (tOr tA tB'):=by
 intro wh pins s σ H Q I h;refine isTrue_or (thn (ha pins s σ H _ I h) fun c s1 ⟨H1,I1,q1⟩=>?_);cases c with
 | true=>exact⟨H1,I1,q1⟩
 | false=>exact hb wh pins s1 σ H1 Q I1 q1
theorem zW4 (ha:PT X a tA):PT X (.UnaryOp .Not a pos) (tNot tA):=by
 intro pins s σ H Q I h;exact isTrue_not (ha pins s σ H (fun c H1=>Q (!c) H1) I h)
noncomputable def tIf (t:TT)(ta tb:TE):TE:=fun σ H Q=>t σ H fun c H1=>if c=true then ta σ H1 Q else tb σ H1 Q
theorem zK5 {c:Expr}(hc:PT X c tA)(ha:PE X a ta)(hb:PE X b tb):PE X (.IfExp c a b pos) (tIf tA ta tb):=by
 intro pins s σ H Q I h;refine wpAny_IfExp (thn (hc pins s σ H _ I h) fun d s1 ⟨H1,I1,q1⟩=>?_);cases d with
 | true=>exact ha pins s1 σ H1 Q I1 q1
 | false=>exact hb pins s1 σ H1 Q I1 q1
end
noncomputable def SqL (K:Ă)(H:Hp)(a:Addr)(xs:List V):Prop :=
 Rd H a (.lst xs) \/
  ∃(o:Obj) (its:Array Value) (n:Nat),K.lookup a=some o /\ o.cls = .type "list" /\ o.dict=none /\ o.data = .seq its n /\ its.size<=sizeLine /\ Vals xs its.toList
noncomputable def SqT (K:Ă)(H:Hp)(a:Addr)(xs:List V):Prop :=
 Rd H a (.tup xs) \/
  ∃(o:Obj) (its:Array Value) (n:Nat),K.lookup a=some o /\ o.cls = .type "tuple" /\ o.data = .seq its n /\ its.size<=sizeLine /\ Vals xs its.toList
noncomputable def absV:Value->Option V
 | .none=>some .non
 | .bool b=>some (.bl b)
 | .int i _=>some (.int i)
 | .str x _=>some (.str x)
 | .bytes b _=>some (.byt b)
 | .float b _=>some (.flt b)
 | .ref a=>some (.ref a)
 | .type n=>some (.ty n)
 | _=>none
theorem RelV.abs {x:V}{u:Value}(r:RelV x u):absV u=some x:=by
 cases x with
 | non=>cases r;rfl
 | bl _=>cases r;rfl
 | int _=>obtain⟨t,rfl⟩:=r;rfl
 | str _=>obtain⟨t,rfl⟩:=r;rfl
 | byt _=>obtain⟨t,rfl⟩:=r;rfl
 | flt _=>obtain⟨t,rfl⟩:=r;rfl
 | ref _=>cases r;rfl
 | ty _=>cases r;rfl
theorem RelV.inj {x y:V}{u:Value}(r:RelV x u)(q:RelV y u):x=y:=Option.some.inj (r.abs.symm.trans q.abs)
theorem Vals.inj:∀{xs ys:List V} {us:List Value},Vals xs us->Vals ys us->xs=ys
 | _,_,_,.nil,.nil=>rfl
 | _,_,_,.cons r t,.cons r' t'=>by rw[r.inj r',Vals.inj t t']
section
variable {X:Cx}{pins:List (Addr×Obj)}{σ:St}{H:Hp}{s:Shared}{a:Addr}{xs ys:List V}
theorem SqL.of {K:Ă}(h:H a=some (.lst xs)):SqL K H a xs:=.inl (.inl h)
theorem SqT.of {K:Ă}(h:H a=some (.tup xs)):SqT K H a xs:=.inl (.inl h)
theorem Inv.list (I:Inv X pins σ H s)(h:SqL X.K H a xs):∃its:List Value,Vals xs its /\ PlainL s.heap a its.toArray /\ xs.length<=sizeLine:=by
 rcases h with h | ⟨o,its,n,hk,hc,hd,hs,hz,r⟩
 ·obtain⟨z,its,n,r,e⟩:=h.ok I.hok;exact⟨its,r,⟨_,n,e,rfl,rfl,rfl⟩,z⟩
 ·refine⟨its.toList,r,⟨o,n,I.kIn a o hk,hc,hd,by simpa using hs⟩,?_⟩;have e:=r.length;simp only[Array.length_toList]at e;lia
theorem Inv.tuple (I:Inv X pins σ H s)(h:SqT X.K H a xs):∃its:List Value,Vals xs its /\ IsTup s.heap a its.toArray /\ xs.length<=sizeLine:=by
 rcases h with h | ⟨o,its,n,hk,hc,hs,hz,r⟩
 ·obtain⟨z,its,r,p⟩:=h.ok I.hok;exact⟨its,r,p,z⟩
 ·refine⟨its.toList,r,⟨o,I.kIn a o hk,hc,n,by simpa using hs⟩,?_⟩;have e:=r.length;simp only[Array.length_toList]at e;lia
theorem Inv.list_inj (I:Inv X pins σ H s)(h:SqL X.K H a xs)(h':SqL X.K H a ys):xs=ys:=by
 obtain⟨its,r,⟨o,n,e,_,_,d⟩,_⟩:=I.list h;obtain⟨its',r',⟨o',n',e',_,_,d'⟩,_⟩:=I.list h';rw[e]at e';cases e';rw[d]at d';injection d' with d1 _;have:its=its':=by simpa using congrArg Array.toList d1
 subst this;exact r.inj r'
end
noncomputable abbrev Cx.wish (X:Cx)(E:Value->Shared->Prop):Cx:={ X with xe:=E }
noncomputable abbrev Cx.nox (X:Cx):Cx:=X.wish fun _ _=>False
theorem Cx.Ok.wish {X:Cx}(ok:X.Ok)(E:Value->Shared->Prop):(X.wish E).Ok :=
 ⟨ok.mod,ok.kind,ok.glob,ok.blt,ok.above,ok.inj,ok.has,ok.cab,ok.hd,ok.frames,ok.stk,ok.exf,ok.bs,ok.bsz,ok.noex,ok.exfs,ok.funs,ok.frf⟩
theorem Cx.Ok.unwish {X:Cx}{E:Value->Shared->Prop}(ok:(X.wish E).Ok):X.Ok :=
 ⟨ok.mod,ok.kind,ok.glob,ok.blt,ok.above,ok.inj,ok.has,ok.cab,ok.hd,ok.frames,ok.stk,ok.exf,ok.bs,ok.bsz,ok.noex,ok.exfs,ok.funs,ok.frf⟩
section
variable {X:Cx}{pins:List (Addr×Obj)}{σ:St}{H:Hp}{s:Shared}{E:Value->Shared->Prop}
theorem Inv.wish (I:Inv X pins σ H s)(E:Value->Shared->Prop):Inv (X.wish E) pins σ H s:=⟨I.ok.wish E,I.os,I.bare,I.base,I.loc,I.cell,I.free,I.freeC,I.pin,I.hok,I.len⟩
theorem Inv.unwish (I:Inv (X.wish E) pins σ H s):Inv X pins σ H s:=⟨I.ok.unwish,I.os,I.bare,I.base,I.loc,I.cell,I.free,I.freeC,I.pin,I.hok,I.len⟩
theorem SP.unwish {D:Ends}{f:Flow}{s':Shared}(h:SP (X.wish E) pins D f s'):SP X pins D f s':=by
 cases f with
 | next=>obtain⟨σ',H',I,q⟩:=h;exact⟨σ',H',I.unwish,q⟩
 | brk=>obtain⟨σ',H',I,q⟩:=h;exact⟨σ',H',I.unwish,q⟩
 | cont=>obtain⟨σ',H',I,q⟩:=h;exact⟨σ',H',I.unwish,q⟩
 | ret u=>obtain⟨v,σ',H',I,r,q⟩:=h;exact⟨v,σ',H',I.unwish,r,q⟩
theorem PSs.nox {st:List Stmt}{t:TS}(h:PSs X.nox st t):PSs X st t:=fun pins s σ H D I hw =>
 wpAny_mono (h pins s σ H D (I.wish _) hw) (fun _ _ q=>q.unwish) fun _ _ z=>False.elim z
end
section
variable {X:Cx}{st:Stmt}{rest:List Stmt}{t u:TS}{e:Expr}{te:TE}{pos:Pos}
noncomputable def xS4:TS:=fun D σ H=>D.nx σ H
noncomputable def tSeq (t u:TS):TS:=fun D σ H=>t { D with nx:=u D } σ H
theorem á:PSs X [] xS4:=fun _ _ σ H _ I h=>wpAny_execs_nil ⟨σ,H,I,h⟩
theorem Â (h1:PS X st t)(h2:PSs X rest u):PSs X (st::rest) (tSeq t u):=by
 intro pins s σ H D I h;refine wpAny_execs_cons (thn (h1 pins s σ H { D with nx:=u D } I h) fun f s1 q=>?_);cases f with
 | next =>
  obtain⟨σ',H',I',q⟩:=q;exact h2 pins s1 σ' H' D I' q
 | ret v=>exact q
 | brk=>exact q
 | cont=>exact q
theorem Å (h1:PS X st t):PSs X [st] t:=by
 intro pins s σ H D I h;refine wpAny_execs_cons (thn (h1 pins s σ H D I h) fun f s1 q=>?_);cases f with
 | next=>exact wpAny_execs_nil q
 | ret v=>exact q
 | brk=>exact q
 | cont=>exact q
theorem Inv.quiet {pins:List (Addr×Obj)}{σ:St}{H:Hp}{s:Shared}(I:Inv X pins σ H s):interactive X.env=false:=by simp[interactive,I.ok.kind]
noncomputable def xS5 (te:TE):TS:=fun D σ H=>te σ H fun _ H1=>D.nx σ H1
theorem ð (he:PE X e te)(hs:swapsWith e none pos.line X.env=pure false:=by rfl):PS X (.Expr e pos) (xS5 te):=by
 intro pins s σ H D I h;exact wpAny_Expr_any (thn (he pins s σ H _ I h) fun v s1 ⟨x,H1,I1,r1,q1⟩=>⟨σ,H1,I1,q1⟩) I.quiet hs
noncomputable def tRet (te:TE):TS:=fun D σ H=>te σ H D.rt
theorem Î (he:PE X e te):PS X (.Return (some e) pos) (tRet te):=by
 intro pins s σ H D I h;exact wpAny_Return_some (thn (he pins s σ H _ I h) fun v s1 ⟨x,H1,I1,r1,q1⟩=>⟨x,σ,H1,I1,r1,q1⟩)
noncomputable def tIfS (c:TT)(t u:TS):TS:=fun D σ H=>c σ H fun b H1=>if b=true then t D σ H1 else u D σ H1
theorem Ű {c:Expr}{a b:List Stmt}{tc:TT}(hc:PT X c tc)(ha:PSs X a t)(hb:PSs X b u):PS X (.If c a b pos) (tIfS tc t u):=by
 intro pins s σ H D I h;refine wpAny_If (thn (hc pins s σ H _ I h) fun d s1 ⟨H1,I1,q1⟩=>?_);cases d with
 | true=>exact ha pins s1 σ H1 D I1 q1
 | false=>exact hb pins s1 σ H1 D I1 q1
noncomputable def xK4:TS:=fun _ _ _=>False
theorem yG5:PS X st xK4:=fun _ _ _ _ _ _ h=>h.elim
end
noncomputable abbrev TG:=V->St->Hp->(St->Hp->Prop)->Prop
noncomputable abbrev TGs:=List V->St->Hp->(St->Hp->Prop)->Prop
noncomputable def PG (X:Cx)(target:Expr)(t:TG):Prop :=
 ∀(pins:List (Addr×Obj)) (s:Shared) (σ:St) (H:Hp) (v:V) (u:Value) (Q:St->Hp->Prop),Inv X pins σ H s->RelV v u->t v σ H Q ->
  wpAny (model X.prog X.w) X.A (assign target X.env u) (fun _ s'=>∃σ' H',Inv X pins σ' H' s' /\ Q σ' H') X.xe s
noncomputable def PGs (X:Cx)(ts:List Expr)(t:TGs):Prop :=
 ∀(pins:List (Addr×Obj)) (s:Shared) (σ:St) (H:Hp) (vs:List V) (us:List Value) (Q:St->Hp->Prop),Inv X pins σ H s->Vals vs us->t vs σ H Q ->
  wpAny (model X.prog X.w) X.A (assignInOrder ((assignEach ts X.env).map (·.2)) us) (fun _ s'=>∃σ' H',Inv X pins σ' H' s' /\ Q σ' H') X.xe s
noncomputable abbrev TSet:=V->V->V->Hp->(Hp->Prop)->Prop
noncomputable def PSet (X:Cx)(t:TSet):Prop :=
 ∀(pins:List (Addr×Obj)) (s:Shared) (σ:St) (H:Hp) (o i v:V) (ov iv u:Value) (Q:Hp->Prop),Inv X pins σ H s->RelV o ov->RelV i iv->RelV v u->t o i v H Q ->
  wpAny (model X.prog X.w) X.A (setItem ov iv u) (fun _ s'=>∃H',Inv X pins σ H' s' /\ Q H') X.xe s
noncomputable abbrev TIp:=V->V->Hp->VK->Prop
noncomputable def PIp (X:Cx)(op:Operator)(t:TIp):Prop :=
 ∀(pins:List (Addr×Obj)) (s:Shared) (σ:St) (H:Hp) (x y:V) (v u:Value) (Q:VK),Inv X pins σ H s->RelV x v->RelV y u->t x y H Q ->
  wpAny (model X.prog X.w) X.A (inplaceOp op v u) (EP X pins σ Q) X.xe s
section
variable {X:Cx}{pos:Pos}
noncomputable def xJ2 (i:Nat):TG:=fun v σ H Q=>Q (σ.set i (some v)) H
theorem È {i:Nat}{x:Str}(hN:X.N.Nodup)(hi:X.N[i]?=some x)(hx:Loc X.env.scope x)(hf:X.fn x=true \/ X.env.scope.names.lookup x=some .local:=by first | exact .inl rfl | exact .inr rfl | assumption):PG X (.Name x pos) (xJ2 i):=by
 intro pins s σ H v u Q I r h;exact wpAny_assign_Name (zF4 I hN hi hx r (fun s' I'=>⟨_,H,I',h⟩) hf)
noncomputable def gNil:TGs:=fun vs σ H Q=>vs=[] /\ Q σ H
noncomputable def xU5 (t:TG)(u:TGs):TGs:=fun vs σ H Q=>∃v r,vs=v::r /\ t v σ H fun σ' H'=>u r σ' H' Q
theorem ŭ:PGs X [] gNil:=by
 intro pins s σ H vs us Q I r h;obtain⟨e,h⟩:=h;subst e;cases r;exact assignInOrder_nil ⟨σ,H,I,h⟩
theorem Ï {e:Expr}{es:List Expr}{t:TG}{u:TGs}(h1:PG X e t)(h2:PGs X es u)
  (hs:(assignEach (e::es) X.env).map (·.2)=assign e X.env::(assignEach es X.env).map (·.2):=by rfl):PGs X (e::es) (xU5 t u):=by
 intro pins s σ H vs us Q I r h;obtain⟨v,vr,e1,h⟩:=h;subst e1;cases r with
 | cons r rr =>
  rw[hs];refine assignInOrder_cons (thn (h1 pins s σ H _ _ _ I r h) fun _ s1 ⟨σ1,H1,I1,q1⟩=>?_);exact h2 pins s1 σ1 H1 _ _ Q I1 rr q1
noncomputable def gTup (K:Ă)(n:Nat)(t:TGs):TG:=fun v σ H Q=>∃a xs,v = .ref a /\ SqT K H a xs /\ xs.length=n /\ t xs σ H Q
theorem Η {es:List Expr}{k:Nat}{t:TGs}{n:Nat}(hc:X.calm=true)(h:PGs X es t)
  (hn:(assignEach es X.env).length=n:=by rfl)(hst:(assignEach es X.env).findIdx? (·.1)=none:=by rfl):PG X (.Tuple es k pos) (gTup X.K n t):=by
 intro pins s σ H v u Q I r hw;obtain⟨a,xs,e1,hq,hl,hw⟩:=hw;subst e1;cases r;obtain⟨its,rv,ht,hz⟩:=I.tuple hq;refine assign_Tuple_tuple (I.ok.hd hc) ht (by simp[hn,<- hl,rv.length]) hst fun h' hx=>?_;have I1:Inv X pins σ H { s with heap:=h' }:=I.kept (t':=s.toks) fun b o e=>hx b o (Ĥ (ĉ e)) e;exact h pins _ σ H xs _ Q I1 (by simpa using rv) hw
noncomputable def gSub (to ti:TE)(t:TSet):TG:=fun v σ H Q=>to σ H fun o H1=>ti σ H1 fun i H2=>t o i v H2 fun H3=>Q σ H3
theorem xD1 {o i:Expr}{to ti:TE}{t:TSet}(ho:PE X o to)(hi:PE X i ti)(hs:PSet X t)
  (ha:∀v,assign (.Subscript o i pos) X.env v=(do
   let ov <- holding [v] (eval o X.env);let iv <- holding [v,ov] (eval i X.env)
   standAt pos
   holding [v,ov,iv] (setItem ov iv v)
   release [v,ov,iv] []):=by intro _;rfl):PG X (.Subscript o i pos) (gSub to ti t):=by
 intro pins s σ H v u Q I r h;rw[ha];refine wpAny_bind (wpAny_holding (thn (ho pins s σ H _ I h) fun ov s1 ⟨x,H1,I1,r1,q1⟩=>?_));refine wpAny_bind (wpAny_holding (thn (hi pins s1 σ H1 _ I1 q1) fun iv s2 ⟨y,H2,I2,r2,q2⟩=>?_));refine wpAny_bind (wpAny_standAt (wpAny_bind (wpAny_holding (thn (hs pins s2 σ H2 x y v ov iv u _ I2 r1 r2 r q2) fun _ s3 ⟨H3,I3,q3⟩=>?_))));exact wpAny_release ⟨σ,H3,I3,q3⟩
noncomputable def tAsg (te:TE)(g:TG):TS:=fun D σ H=>te σ H fun x H1=>g x σ H1 D.nx
theorem zW5 {tg e:Expr}{te:TE}{g:TG}(he:PE X e te)(hg:PG X tg g)(hs:swapsWithSole [tg] e pos.line X.env=pure false:=by rfl)(hw:swappedStores [tg] e X.env=pure none:=by rfl)
  (h1:(assignEach [tg] X.env).map (·.2)=[assign tg X.env]:=by rfl):PS X (.Assign [tg] e pos) (tAsg te g):=by
 intro pins s σ H D I h;refine wpAny_Assign_stores (thn (he pins s σ H _ I h) fun v s1 ⟨x,H1,I1,r1,q1⟩=>?_) hs hw;rw[h1];exact thn (hg pins s1 σ H1 x v _ I1 r1 q1) fun _ s2 q=>q
theorem É {i:Nat}{x:Str}{e:Expr}{te:TE}{pos':Pos}(hN:X.N.Nodup)(hi:X.N[i]?=some x)(hx:Loc X.env.scope x)(he:PE X e te)(hs:swapsWith e (some (.Name x pos')) pos.line X.env=pure false:=by rfl)(hf:X.fn x=true \/ X.env.scope.names.lookup x=some .local:=by first | exact .inl rfl | exact .inr rfl | assumption) :
  PS X (.Assign [.Name x pos'] e pos) (tAsg te (xJ2 i)):=by
 intro pins s σ H D I h;refine wpAny_Assign_Name (thn (he pins s σ H _ I h) fun v s1 ⟨y,H1,I1,r1,q1⟩=>?_) hs;exact zF4 I1 hN hi hx r1 (fun s2 I2=>⟨_,H1,I2,q1⟩) hf
noncomputable def tPar (i j:Nat)(ta:TA):TS:=fun D σ H=>ta σ H fun vs H1=>∃v w,vs=[v,w] /\ D.nx ((σ.set i (some v)).set j (some w)) H1
theorem xM3 {i j:Nat}{x y:Str}{a b:Expr}{ta:TA}{px py pt:Pos}{kt k2 pt2}(hc:X.calm=true)(hN:X.N.Nodup)(hi:X.N[i]?=some x)(hj:X.N[j]?=some y)(hij:i≠j)
  (hx:X.env.scope.names.lookup x=some .local)(hy:X.env.scope.names.lookup y=some .local)(ha:PA X [a,b] ta)
  (hw:swappedStores [.Tuple [.Name x px,.Name y py] kt pt] (.Tuple [a,b] k2 pt2) X.env=pure (some [x,y]))
  (hs:swapsWithSole [.Tuple [.Name x px,.Name y py] kt pt] (.Tuple [a,b] k2 pt2) pos.line X.env=pure false:=by rfl) :
  PS X (.Assign [.Tuple [.Name x px,.Name y py] kt pt] (.Tuple [a,b] k2 pt2) pos) (tPar i j ta):=by
 intro pins s σ H D I h;rw[exec_Assign_arm];refine wpAny_bind (wpAny_standAt ?_);rw[hs];refine wpAny_bind (wpAny_pure ?_);rw[if_neg (by decide)];refine wpAny_bind (Tuple_ (thn (ha _ pins s σ H _ I h) fun us s1 ⟨vs,H1,I1,r1,q1⟩=>?_));obtain⟨v,w,e1,q1⟩:=q1;subst e1;obtain⟨u1,u2,rfl,rv,rw'⟩:∃u1 u2,us=[u1,u2] /\ RelV v u1 /\ RelV w u2:=by
  cases r1 with
  | cons p q =>
   cases q with
   | cons p' q' =>
    cases q';exact⟨_,_,rfl,p,p'⟩
 refine wpAny_newObj_type ?_ (by show 2<=sizeLine;decide);have I2:Inv X pins σ H1 { s1 with heap:=s1.heap.push { cls:=.type "tuple",data:=.seq [u1,u2].toArray } }:=I1.kept (t':=s1.toks) fun b o e=>ć _ e;rw[hw];refine wpAny_bind (wpAny_pure ?_);show wpAny (model X.prog X.w) X.A (do rule "assign.swapped-stores";let items <- unpackItems (.ref s1.heap.objs.size) 2 none;assignInOrder [fun v=>bindName X.env y v,fun v=>bindName X.env x v] items.reverse;pure Flow.next) _ _ _;refine wpAny_bind (wpAny_rule (wpAny_bind (unpackItems_tuple (items:=#[u1,u2]) (I.ok.hd hc) (IsTup.new s1.heap _) fun h' hx'=>?_)));have I3:=I2.kept (h':=h') (t':=s1.toks) fun b o e=>hx' b o (Ĥ (ĉ e)) e;show wpAny _ _ (assignInOrder [fun v=>bindName X.env y v,fun v=>bindName X.env x v] [u2,u1] >>= fun _=>pure Flow.next) _ _ _;refine wpAny_bind (assignInOrder_cons (wpAny_bindName (zF4 I3 hN hj (.inl hy) rw' (fun s2 I4=>?_) (.inr hy))));refine assignInOrder_cons (wpAny_bindName (zF4 I4 hN hi (.inl hx) rv (fun s3 I5=>assignInOrder_nil (wpAny_pure ?_)) (.inr hx)));rw[List.set_comm _ _ (Ne.symm hij)]at I5;exact⟨_,H1,I5,q1⟩
noncomputable def tAug (i:Nat)(te:TE)(ti:TIp):TS:=fun D σ H=>∃x,σ[i]?=some (some x) /\ te σ H fun y H1=>ti x y H1 fun z H2=>D.nx (σ.set i (some z)) H2
theorem yP7 {i:Nat}{x:Str}{e:Expr}{te:TE}{op:Operator}{ti:TIp}{pos':Pos}(hN:X.N.Nodup)(hi:X.N[i]?=some x)(hx:Loc X.env.scope x)(he:PE X e te)(ho:PIp X op ti)(hf:X.fn x=true \/ X.env.scope.names.lookup x=some .local:=by first | exact .inl rfl | exact .inr rfl | assumption) :
  PS X (.AugAssign (.Name x pos') op e pos) (tAug i te ti):=by
 intro pins s σ H D I h;obtain⟨v,e1,h⟩:=h;obtain⟨m,hn,hl⟩:=I.loc;have vis:Vis X.env.scope x:=by rcases hx with k | k;exact .inl k;exact .inr (.inl k)
 obtain⟨u,r,l⟩:=hl i x v hi e1 vis;refine wpAny_AugAssign_Name ?_;have go:wpAny (model X.prog X.w) X.A (eval e X.env) (fun w s₂=>wpAny (model X.prog X.w) X.A (inplaceOp op u w) (fun r s₃=>wpAny (model X.prog X.w) X.A (storeName X.env x r) (fun _=>SP X pins D .next) X.xe s₃) X.xe s₂) X.xe s:=by
  refine thn (he pins s σ H _ I h) fun w s1 ⟨y,H1,I1,r1,q1⟩=>?_;refine thn (ho pins s1 σ H1 v y u w _ I1 r r1 q1) fun z s2 ⟨zv,H2,I2,r2,q2⟩=>?_;exact zF4 I2 hN hi hx r2 (fun s3 I3=>⟨_,H2,I3,q2⟩) hf
 rcases l with⟨hk,hm⟩ | ⟨hk,c,hc,hcell⟩
 ·exact wpAny_loadName_local I.ok.kind hk hn hm go
 ·rcases hk with hk | hk
  ·exact wpAny_loadName_cell I.ok.kind hk hc hcell go
  ·rcases hx with k | k
   ·have:X.env.scope.names.lookup x=some .free:=hk;rw[k]at this;cases this
   ·have:X.env.scope.names.lookup x=some .free:=hk;rw[k]at this;cases this
noncomputable def ipI (f:Int->Int->Int):TIp:=fun x y H Q=>∃i j,x = .int i /\ y = .int j /\ Q (.int (f i j)) H
theorem yT7:PIp X .Add (ipI fun i j=>i+j):=by
 intro pins s σ H x y v u Q I r1 r2 h;obtain⟨i,j,e1,e2,q⟩:=h;subst e1;subst e2;obtain⟨t,rfl⟩:=r1;obtain⟨t',rfl⟩:=r2;exact iadd_int ⟨.int _,H,I.tok _,⟨_,rfl⟩,q⟩
end
section
variable {X:Cx}{pos:Pos}
noncomputable def xC4 (c:TT)(tb:TS):TS:=fun D σ H=>∃W:Nat->St->Hp->Prop,(∃m,W m σ H) /\ ∀m σ H,W m σ H ->
 c σ H fun b H1=>if b=true then ∃N:St->Hp->Prop,(∀σ' H',N σ' H'->∃m',m'<m /\ W m' σ' H') /\ tb { D with nx:=N,ct:=N,bk:=D.nx } σ H1 else D.nx σ H1
theorem zK4 {c:Expr}{body:List Stmt}{tc:TT}{tb:TS}(hp:PassesOwn (model X.prog X.w) X.A X.env X.xe)(hc:PT X c tc)(hb:PSs X body tb):PS X (.While c body [] pos) (xC4 tc tb):=by
 intro pins s σ H D I h;obtain⟨W,⟨m0,w0⟩,turn⟩:=h;refine wpAny_While (codeAny_whileLoop (fun n s'=>∃σ' H',Inv X pins σ' H' s' /\ W n σ' H') ?_ m0 ⟨σ,H,I,w0⟩);rintro n s1 ⟨σ1,H1,I1,w1⟩;refine wpAny_passesOwn hp (thn (hc pins s1 σ1 H1 _ I1 (turn n σ1 H1 w1)) fun b s2 ⟨H2,I2,q2⟩=>?_);cases b with
 | true =>
  obtain⟨N,hN,q2⟩:=q2;rw[if_pos rfl];refine wpAny_passesOwn hp (thn (hb pins s2 σ1 H2 _ I2 q2) fun f s3 q3=>?_);cases f with
  | next =>
   obtain⟨σ3,H3,I3,n3⟩:=q3;obtain⟨m',hm,w3⟩:=hN σ3 H3 n3;exact⟨m',hm,σ3,H3,I3,w3⟩
  | cont =>
   obtain⟨σ3,H3,I3,n3⟩:=q3;obtain⟨m',hm,w3⟩:=hN σ3 H3 n3;exact⟨m',hm,σ3,H3,I3,w3⟩
  | brk=>exact q3
  | ret v=>exact q3
 | false =>
  rw[if_neg Ę];exact wpAny_execs_nil ⟨σ1,H2,I2,q2⟩
end
set_option genInjectivity false in
structure It where
 go:Nat->Hp->Prop
 yld:Nat->Hp->V->Hp->Prop
 stop:Nat->Hp->Prop
noncomputable def FpOk (X:Cx)(pins:List (Addr×Obj))(H:Hp)(b:Addr):Prop :=
 H b=none /\ b≠X.env.locals /\ b∉X.fs /\ (b∈X.ex \/ X.s₀.heap.objs.size<=b) /\ (∀x c,X.env.cells.lookup x=some c->c≠b) /\ ∀p∈X.pn++pins,p.1≠b
theorem Inv.fpOk {X:Cx}{pins:List (Addr×Obj)}{σ:St}{H H':Hp}{s:Shared}{b:Addr}(I:Inv X pins σ H s)(hb:s.heap.objs.size<=b)(hn:H' b=none):FpOk X pins H' b:=by
 refine⟨hn,ĥ (č I.lt hb),I.nofs hb,.inr (Č I.sz hb),fun x c e z=>?_,fun p hp z=>?_⟩
 ·obtain⟨v,q⟩:=I.cell x c e;exact absurd (č q.lt (by rw[z];exact hb)) (ņ _)
 ·exact absurd (č (ĉ (I.pin p hp).1) (by rw[z];exact hb)) (ņ _)
structure Turn (P:Program)(w:World)(K:Ă)(tg:Expr)(J:It)(fp:List Addr)(it:Addr)(tn:Nat->Heap->Prop):Prop where
 mem:it∈fp
 obj:∀i h,tn i h->∀b∈fp,∃o,h.get? b=some o /\ ∀v,o.data ≠ .cell v
 keep:∀i h h',tn i h->(∀b∈fp,∀o,h.get? b=some o->h'.get? b=some o)->tn i h'
 item:∀(X:Cx),X.prog=P->X.w=w->X.K=K->X.calm=true->∀(i:Nat) (pins:List (Addr×Obj)) (s:Shared) (σ:St) (H:Hp) (E:Value->Shared->Prop),Inv X pins σ H s->(∀b∈fp,FpOk X pins H b)->tn i s.heap->J.go i H ->
  wpAny (model P w) X.A (pyNext (.ref it)) (fun r s1=>∃u,r=some u /\
   wpAny (model P w) X.A (letOwnedTupleGo tg (.ref it) u) (fun _ s2=>∃x H',Inv X pins σ H' s2 /\ RelV x u /\ J.yld i H x H' /\ tn (i+1) s2.heap /\ ∀b∈fp,H' b=none) E s1) E s
 done:∀(X:Cx),X.prog=P->X.w=w->X.K=K->X.calm=true->∀(i:Nat) (pins:List (Addr×Obj)) (s:Shared) (σ:St) (H:Hp) (E:Value->Shared->Prop),Inv X pins σ H s->(∀b∈fp,FpOk X pins H b)->tn i s.heap->J.stop i H ->
  wpAny (model P w) X.A (pyNext (.ref it)) (fun r s1=>r=none /\ Inv X pins σ H s1) E s
 self:∀(A:Around) (i:Nat) (s:Shared) (Q:Value->Shared->Prop) (E:Value->Shared->Prop),tn i s.heap->Q (.ref it) s->wpAny (model P w) A (pyIter (.ref it)) Q E s
noncomputable abbrev TI:=St->Hp->(It->Hp->Prop)->Prop
noncomputable def PIE (X:Cx)(pins:List (Addr×Obj))(σ:St)(tg:Expr)(R:It->Hp->Prop)(itv:Value)(s2:Shared):Prop :=
 ∃(it:Addr) (fp:List Addr) (tn:Nat->Heap->Prop) (J:It) (H':Hp),itv = .ref it /\ Inv X pins σ H' s2 /\ Turn X.prog X.w X.K tg J fp it tn /\ tn 0 s2.heap /\ (∀b∈fp,FpOk X pins H' b) /\ R J H'
noncomputable def PI (X:Cx)(tg iter:Expr)(wi:TI):Prop :=
 ∀(pins:List (Addr×Obj)) (s:Shared) (σ:St) (H:Hp) (R:It->Hp->Prop),Inv X pins σ H s->wi σ H R ->
  wpAny (model X.prog X.w) X.A (eval iter X.env) (fun v s1=>wpAny (model X.prog X.w) X.A (pyIter v) (PIE X pins σ tg R) X.xe s1) X.xe s
theorem yL2 {M:Model}{A:Around}{E:Value->Shared->Prop}{s:Shared}{tg:Expr}{it:Addr}{u:Value}{o:Obj}{n:String}{vs:Array Value}{Q:Unit->Shared->Prop}(ho:s.heap.get? it=some o)(hc:o.cls = .type n)(hd:o.data = .fields vs)
    (hn:["enumerate","zip","dict_itemiterator","dict_reverseitemiterator","odict_iterator","itertools.zip_longest","itertools.pairwise"].contains n=false)(hQ:Q () s):wpAny M A (letOwnedTupleGo tg (.ref it) u) Q E s:=by
  unfold letOwnedTupleGo;cases tg<;>first
    | exact wpAny_pure hQ
    | (cases u<;>first
        | exact wpAny_pure hQ
        | (refine wpAny_bind (wpAny_load ho ?_)
           rw[hc,hd];show wpAny M A (if (["enumerate","zip","dict_itemiterator","dict_reverseitemiterator","odict_iterator","itertools.zip_longest","itertools.pairwise"].contains n&&vs[0]?==some (rawInt _))=true then _ else _) Q E s;rw[if_neg (by intro h;rw[hn,Bool.false_and]at h;cases h)];exact wpAny_pure hQ))
noncomputable def Itl (K:Ă)(a:Addr):It :=
 ⟨fun i H=>∃xs x,SqL K H a xs /\ xs[i]?=some x,fun i H x H'=>H'=H /\ ∀xs,SqL K H a xs->xs[i]?=some x,fun i H=>∃xs,SqL K H a xs /\ xs.length<=i⟩
noncomputable def Itr (lo:Int)(n:Nat):It:=⟨fun i _=>i<n,fun i H x H'=>H'=H /\ x = .int (lo+i),fun i _=>n<=i⟩
theorem yM0 {P:Program}{w:World}{K:Ă}{tg:Expr}(a it:Addr):Turn P w K tg (Itl K a) [it] it (fun i h=>h.IsListIter it a i) where
 mem:=by simp
 obj:=fun i h st b hb=>by
  have e:b=it:=by simpa using hb
  subst e;obtain⟨o,e,c,d⟩:=st;exact⟨o,e,fun v z=>by rw[d]at z;cases z⟩
 keep:=fun i h h' st k=>st.at fun o e=>k it (by simp) o e
 item:=by
  intro X hP hw hK hc i pins s σ H E I hf st hg;subst hP hw hK;obtain⟨xs,x,hq,hx⟩:=hg;obtain⟨its,rv,p,hz⟩:=I.list hq;obtain⟨u,hu,ru⟩:=rv.get hx;obtain⟨f0,f1,f2,f3,f4,f5⟩:=hf it (by simp);refine wpAny_pyNext_list_item st p.isList (x:=u) (by simpa using hu) fun h' st' sb=>?_;have I1:Inv X pins σ H { s with heap:=h' }:=I.turned (t':=s.toks) (fun b o hb e=>(sb.2 b hb).trans e) f0 f1 f3 f4 f5;obtain⟨o,e,c,d⟩:=id st';exact⟨u,rfl,yL2 (s:={ s with heap:=h' }) e c d (by decide) ⟨x,H,I1,ru,⟨rfl,fun ys hy=>by rw[I.list_inj hy hq];exact hx⟩,st',fun b hb=>(hf b hb).1⟩⟩
 done:=by
  intro X hP hw hK hc i pins s σ H E I hf st hg;subst hP hw hK;obtain⟨xs,hq,hx⟩:=hg;obtain⟨its,rv,p,hz⟩:=I.list hq;obtain⟨f0,f1,f2,f3,f4,f5⟩:=hf it (by simp);have hl:=rv.length;exact wpAny_pyNext_list_end (I.ok.hd hc) st p.isList (by simp;lia) fun h' eb=>⟨rfl,I.turned (t':=s.toks) (fun b o hb e=>eb b o hb e) f0 f1 f3 f4 f5⟩
 self:=fun _ _ _ _ _ st h=>wpAny_pyIter_listiter st h
theorem yJ3 {P:Program}{w:World}{K:Ă}{tg:Expr}(it:Addr)(lo:Int)(n:Nat):Turn P w K tg (Itr lo n) [it] it (fun i h=>IsRangeIter h it (lo+(i:Nat)*1) ((n:Int) - (i:Nat)) 1) where
 mem:=by simp
 obj:=fun i h st b hb=>by
  have e:b=it:=by simpa using hb
  subst e;exact⟨_,st,fun v z=>by
   have z':Data.fields _=Data.cell v:=z;cases z'⟩
 keep:=fun i h h' st k=>k it (by simp) _ st
 item:=by
  intro X hP hw hK hc i pins s σ H E I hf st hg;subst hP hw hK;obtain⟨f0,f1,f2,f3,f4,f5⟩:=hf it (by simp);have W:=Walks.range (prog:=X.prog) (w:=X.w) (I.ok.hd hc) it lo 1 n;refine W.item i s _ _ hg st fun v h' tk hv st' kk=>?_;obtain⟨t,rfl⟩:=hv;have I1:Inv X pins σ H { s with heap:=h',toks:=tk }:=I.turned (fun b o hb e=>kk b o (by simpa using hb) e) f0 f1 f3 f4 f5;refine⟨_,rfl,yL2 (s:={ s with heap:=h',toks:=tk }) (n:="range_iterator") st' rfl rfl (by decide) ⟨.int (lo+i),H,I1,⟨t,?_⟩,⟨rfl,rfl⟩,st',fun b hb=>(hf b hb).1⟩⟩;rw[Int.mul_one]
 done:=by
  intro X hP hw hK hc i pins s σ H E I hf st hg;subst hP hw hK;obtain⟨f0,f1,f2,f3,f4,f5⟩:=hf it (by simp);exact wpAny_pyNext_range_end (I.ok.hd hc) st (by have:n<=i:=hg;lia) fun h' eb=>⟨rfl,I.turned (t':=s.toks) (fun b o hb e=>eb b o hb e) f0 f1 f3 f4 f5⟩
 self:=fun _ _ _ _ _ st h=>wpAny_pyIter_rangeiter st h
section
variable {X:Cx}{tg:Expr}
noncomputable def xP4 (K:Ă)(tl:TE):TI:=fun σ H R=>tl σ H fun x H1=>∃a,x = .ref a /\ (∃xs,SqL K H1 a xs) /\ R (Itl K a) H1
theorem xG7 {l:Expr}{tl:TE}(hl:PE X l tl):PI X tg l (xP4 X.K tl):=by
 intro pins s σ H R I h;refine thn (hl pins s σ H _ I h) fun v s1 ⟨x,H1,I1,r1,q1⟩=>?_;obtain⟨a,e,⟨xs,hq⟩,q⟩:=q1;subst e;cases r1;obtain⟨its,rv,p,hz⟩:=I1.list hq;refine wpAny_pyIter_list p.isList ?_;refine⟨s1.heap.objs.size,[s1.heap.objs.size],_,_,H1,rfl,I1.kept (t':=s1.toks) fun b o e=>ć _ e,yM0 a _,⟨_,ē _ rfl,rfl,rfl⟩,fun b hb=>?_,q⟩;have e:b=s1.heap.objs.size:=by simpa using hb
 subst e;exact I1.fpOk (ą _) (I1.hok.fresh (ą _))
theorem yX8 {pins:List (Addr×Obj)}{σ:St}{H:Hp}{s:Shared}{R:It->Hp->Prop}{E:Value->Shared->Prop}{lo hi:Int}{t u v:Tok}{tk:Nat}(I:Inv X pins σ H s)(h1:-(2^62)<=lo)(h2:lo<2^62)(h3:-(2^62)<=hi)(h4:hi<2^62)
  (q:R (Itr lo (hi - lo).toNat) H):wpAny (model X.prog X.w) X.A (pyIter (.ref s.heap.objs.size)) (PIE X pins σ tg R) E { s with heap:=s.heap.push { cls:=.type "range",data:=.fields #[.int lo t,.int hi u,.int 1 v] },toks:=tk }:=by
 refine wpAny_pyIter_range (IsRange.new ..) (small_one h1 h2 h3 h4) ?_;have I1:Inv X pins σ H { s with heap:=s.heap.push { cls:=.type "range",data:=.fields #[.int lo t,.int hi u,.int 1 v] },toks:=tk }:=I.kept fun b o e=>ć _ e;refine⟨(s.heap.push { cls:=.type "range",data:=.fields #[.int lo t,.int hi u,.int 1 v] }).objs.size,[(s.heap.push { cls:=.type "range",data:=.fields #[.int lo t,.int hi u,.int 1 v] }).objs.size],_,_,H,rfl,
  I1.kept (t':=tk) fun b o e=>ć _ e,yJ3 _ lo (hi - lo).toNat,?_,fun b hb=>?_,q⟩
 ·have e1:lo+((0:Nat):Int)*1=lo:=by simp
  have e2:(((hi - lo).toNat:Nat):Int) - ((0:Nat):Int)=Builtin.Range.rangeSize lo hi 1:=by rw[rangeSize_one];split<;>lia
  show IsRangeIter _ _ (lo+((0:Nat):Int)*1) ((((hi - lo).toNat:Nat):Int) - ((0:Nat):Int)) 1;rw[e1,e2];exact ē _ rfl
 ·have e:b=(s.heap.push { cls:=.type "range",data:=.fields #[.int lo t,.int hi u,.int 1 v] }).objs.size:=by simpa using hb
  subst e;exact I1.fpOk (ą _) (I1.hok.fresh (ą _))
noncomputable def xU2 (ta:TA):TI:=fun σ H R=>ta σ H fun vs H1=>∃j:Int,vs=[.int j] /\ -(2^62)<=j /\ j<2^62 /\ R (Itr 0 j.toNat) H1
theorem ÿ {a:Expr}{ta:TA}{p pos:Pos}(hg:Gl X "range")(hm:X.mg "range" = none)(ha:PA X [a] ta)(hs:starEach [a] X.env=[(false,eval a X.env)]:=by rfl):PI X tg (.Call (.Name "range" p) [a] [] pos) (xU2 ta):=by
 intro pins s σ H R I h;refine Call_ (η I hg hm boot_range (PyProof.Rows.callWith_type1 (thn (ha pos pins s σ H _ I h) fun us s1 ⟨vs,H1,I1,r1,q1⟩=>?_) hs rfl));obtain⟨j,e,q1,q2,q⟩:=q1;subst e;cases r1 with
 | cons r rr =>
  cases rr;obtain⟨t,rfl⟩:=r;exact call_range_1 (yX8 I1 (by lia) (by lia) q1 q2 (by simpa using q))
noncomputable def tFor (wi:TI)(g:TG)(tb:TS):TS:=fun D σ H=>wi σ H fun J H1=>∃W:Nat->Nat->St->Hp->Prop,(∃m,W 0 m σ H1) /\ ∀i m σ H,W i m σ H ->
 (J.stop i H /\ D.nx σ H) \/ (J.go i H /\ ∃N:St->Hp->Prop,(∀σ' H',N σ' H'->∃m',m'<m /\ W (i+1) m' σ' H') /\ ∀x H',J.yld i H x H'->g x σ H' fun σ2 H2=>tb { D with nx:=N,ct:=N,bk:=D.nx } σ2 H2)
noncomputable def zW7 (fp:List Addr)(h:Heap):List (Addr×Obj):=fp.filterMap fun b=>(h.get? b).map fun o=>(b,o)
theorem zD9 {fp:List Addr}{h:Heap}{b:Addr}{o:Obj}(hb:b∈fp)(e:h.get? b=some o):(b,o)∈zW7 fp h:=Ŭ.mpr ⟨b,hb,by rw[e];rfl⟩
theorem yR6 {fp:List Addr}{h:Heap}{p:Addr×Obj}(hp:p∈zW7 fp h):p.1∈fp /\ h.get? p.1=some p.2:=by
 obtain⟨b,hb,e⟩:=Ŭ.mp hp;cases q:h.get? b with
 | none=>rw[q]at e;cases e
 | some o =>
  rw[q]at e;have e':(b,o)=p:=Option.some.inj e;subst e';exact⟨hb,q⟩
theorem Inv.pinned {pins:List (Addr×Obj)}{σ:St}{H:Hp}{s:Shared}{fp:List Addr}(I:Inv X pins σ H s)(hf:∀b∈fp,FpOk X pins H b)(ho:∀b∈fp,∃o,s.heap.get? b=some o /\ ∀v,o.data ≠ .cell v):Inv X (pins++zW7 fp s.heap) σ H s :=
 I.pins_of fun p hp=>(ĝ.mp hp).elim (fun z=>I.pin p (į _ z)) fun z=>by
  obtain⟨hb,e⟩:=yR6 z;obtain⟨f0,f1,f2,_⟩:=hf p.1 hb;obtain⟨o,e',d⟩:=ho p.1 hb;rw[e]at e';cases e';exact⟨e,f0,f1,f2,d⟩
theorem Inv.unpinned {pins pl:List (Addr×Obj)}{σ:St}{H:Hp}{s:Shared}(I:Inv X (pins++pl) σ H s):Inv X pins σ H s:=I.pins_of fun p hp=>I.pin p (į _ (List.mem_append_left _ hp))
theorem Ú {iter:Expr}{body:List Stmt}{wi:TI}{g:TG}{tb:TS}{pos:Pos}(hp:PassesOwn (model X.prog X.w) X.A X.env X.xe)(hc:X.calm=true)(hi:PI X tg iter wi)(hg:PG X tg g)(hb:PSs X body tb)
  (hs:∀x,foldedSetIterable iter X.env x=pure x:=by intro _;rfl):PS X (.For tg iter body [] pos) (tFor wi g tb):=by
 intro pins s σ H D I h;refine wpAny_For (thn (hi pins s σ H _ I h) fun v s1 h1=>thn h1 fun itv s2 h2=>?_) hs;obtain⟨it,fp,tn,J,H2,e,I2,T,st2,f2,W,⟨m0,w0⟩,turn⟩:=h2;subst e;have stat:∀{H':Hp},(∀b∈fp,H' b=none)->∀b∈fp,FpOk X pins H' b:=fun hn b hb=>⟨hn b hb,(f2 b hb).2⟩;refine codeAny_forLoop_any (fun n s'=>∃i σ' H',Inv X pins σ' H' s' /\ tn i s'.heap /\ (∀b∈fp,H' b=none) /\ W i n σ' H') ?_ m0 ⟨0,σ,H2,I2,st2,fun b hb=>(f2 b hb).1,w0⟩;rintro n s3 ⟨i,σ3,H3,I3,st3,fr3,w3⟩;rcases turn i n σ3 H3 w3 with⟨stop,qn⟩ | ⟨go,N,hN,step⟩
 ·refine wpAny_passesOwn hp (thn (T.done X rfl rfl rfl hc i pins s3 σ3 H3 X.xe I3 (stat fr3) st3 stop) fun r s4 ⟨hr,I4⟩=>?_);subst hr;exact wpAny_execs_nil ⟨σ3,H3,I4,qn⟩
 ·refine wpAny_passesOwn hp (thn (T.item X rfl rfl rfl hc i pins s3 σ3 H3 X.xe I3 (stat fr3) st3 go) fun r s4 ⟨u,hr,h4⟩=>?_);subst hr;refine wpAny_passesOwn hp (thn h4 fun _ s5 ⟨x,H5,I5,r5,y5,st5,fr5⟩=>?_);have I5':=I5.pinned (stat fr5) (T.obj _ _ st5);refine wpAny_passesOwn hp (thn (hg _ s5 σ3 H5 x u _ I5' r5 (step x H5 y5)) fun _ s6 ⟨σ6,H6,I6,q6⟩=>?_);refine wpAny_passesOwn hp (thn (hb _ s6 σ6 H6 _ I6 q6) fun f s7 q7=>?_);have again:∀{σ7:St} {H7:Hp},Inv X (pins++zW7 fp s5.heap) σ7 H7 s7->N σ7 H7->∃m,m<n /\ ∃i σ' H',Inv X pins σ' H' s7 /\ tn i s7.heap /\ (∀b∈fp,H' b=none) /\ W i m σ' H':=fun {σ7 H7} I7 n7=>by
   obtain⟨m',hm,w7⟩:=hN σ7 H7 n7;refine⟨m',hm,i+1,σ7,H7,I7.unpinned,T.keep _ _ _ st5 fun b hb o e=>(I7.pin (b,o) (į _ (į _ (zD9 hb e)))).1,fun b hb=>?_,w7⟩;obtain⟨o,e,d⟩:=T.obj _ _ st5 b hb;exact(I7.pin (b,o) (į _ (į _ (zD9 hb e)))).2.1
  cases f with
  | next=>obtain⟨σ7,H7,I7,n7⟩:=q7;exact again I7 n7
  | cont=>obtain⟨σ7,H7,I7,n7⟩:=q7;exact again I7 n7
  | brk=>obtain⟨σ7,H7,I7,q7⟩:=q7;exact⟨σ7,H7,I7.unpinned,q7⟩
  | ret v=>obtain⟨x7,σ7,H7,I7,r7,q7⟩:=q7;exact⟨x7,σ7,H7,I7.unpinned,r7,q7⟩
end
theorem Ÿ {K:Ă}{a:Addr}{xs:List V}{g:TG}{tb:TS}{D:Ends}{σ:St}{H:Hp}(Pv:Nat->St->Hp->Prop)(h0:Pv 0 σ H)(hl:∀i σ H,i<=xs.length->Pv i σ H->SqL K H a xs)
  (hs:∀i x σ H,xs[i]?=some x->Pv i σ H->g x σ H fun σ2 H2=>tb { D with nx:=Pv (i+1),ct:=Pv (i+1),bk:=D.nx } σ2 H2)(hd:∀σ H,Pv xs.length σ H->D.nx σ H) :
  ∃W:Nat->Nat->St->Hp->Prop,(∃m,W 0 m σ H) /\ ∀i m σ H,W i m σ H ->
   ((Itl K a).stop i H /\ D.nx σ H) \/ ((Itl K a).go i H /\ ∃N:St->Hp->Prop,(∀σ' H',N σ' H'->∃m',m'<m /\ W (i+1) m' σ' H') /\ ∀x H',(Itl K a).yld i H x H'->g x σ H' fun σ2 H2=>tb { D with nx:=N,ct:=N,bk:=D.nx } σ2 H2):=by
 refine⟨fun i m σ H=>m=xs.length - i /\ i<=xs.length /\ Pv i σ H,⟨xs.length,by simp,Ħ _,h0⟩,?_⟩;rintro i m σ H ⟨rfl,hi,p⟩;have q:=hl i σ H hi p
 by_cases hlt:i<xs.length
 ·refine .inr ⟨⟨xs,xs[i],q,by simp[hlt]⟩,Pv (i+1),fun σ' H' p'=>⟨xs.length - (i+1),by lia,rfl,hlt,p'⟩,fun x H' y=>?_⟩;obtain⟨e,y⟩:=y;subst e;exact hs i x σ _ (y xs q) p
 ·have e:i=xs.length:=by lia
  subst e;exact .inl ⟨⟨xs,q,ą _⟩,hd σ H p⟩
theorem Δ {lo:Int}{n:Nat}{g:TG}{tb:TS}{D:Ends}{σ:St}{H:Hp}(Pv:Nat->St->Hp->Prop)(h0:Pv 0 σ H)
  (hs:∀i σ H,i<n->Pv i σ H->g (.int (lo+i)) σ H fun σ2 H2=>tb { D with nx:=Pv (i+1),ct:=Pv (i+1),bk:=D.nx } σ2 H2)(hd:∀σ H,Pv n σ H->D.nx σ H) :
  ∃W:Nat->Nat->St->Hp->Prop,(∃m,W 0 m σ H) /\ ∀i m σ H,W i m σ H ->
   ((Itr lo n).stop i H /\ D.nx σ H) \/ ((Itr lo n).go i H /\ ∃N:St->Hp->Prop,(∀σ' H',N σ' H'->∃m',m'<m /\ W (i+1) m' σ' H') /\ ∀x H',(Itr lo n).yld i H x H'->g x σ H' fun σ2 H2=>tb { D with nx:=N,ct:=N,bk:=D.nx } σ2 H2):=by
 refine⟨fun i m σ H=>m=n - i /\ i<=n /\ Pv i σ H,⟨n,by simp,Ħ _,h0⟩,?_⟩;rintro i m σ H ⟨rfl,hi,p⟩
 by_cases hlt:i<n
 ·refine .inr ⟨hlt,Pv (i+1),fun σ' H' p'=>⟨n - (i+1),by lia,rfl,hlt,p'⟩,fun x H' y=>?_⟩;obtain⟨e,y⟩:=y;subst e y;exact hs i σ _ hlt p
 ·have e:i=n:=by lia
  subst e;exact .inl ⟨ą _,hd σ H p⟩
theorem zJ8 {c:TT}{tb:TS}{D:Ends}{σ:St}{H:Hp}(Pv:St->Hp->Prop)(μ:St->Hp->Nat)(h0:Pv σ H)
  (hs:∀σ H,Pv σ H->c σ H fun b H1=>if b=true then tb { D with nx:=fun σ' H'=>Pv σ' H' /\ μ σ' H'<μ σ H,ct:=fun σ' H'=>Pv σ' H' /\ μ σ' H'<μ σ H,bk:=D.nx } σ H1 else D.nx σ H1)
  (mono:∀σ H Q Q',(∀b H1,Q b H1->Q' b H1)->c σ H Q->c σ H Q'):xC4 c tb D σ H:=by
 refine⟨fun m σ H=>m=μ σ H /\ Pv σ H,⟨_,rfl,h0⟩,?_⟩;rintro m σ H ⟨rfl,p⟩;refine mono σ H _ _ (fun b H1 q=>?_) (hs σ H p);cases b with
 | true=>exact⟨_,fun σ' H' ⟨p',l⟩=>⟨_,l,rfl,p'⟩,q⟩
 | false=>exact q
noncomputable abbrev R2:=V->V->Hp->VK->Prop
noncomputable def OpR (X:Cx)(f:Value->Value->Sem Value)(r:R2):Prop :=
 ∀(pins:List (Addr×Obj)) (s:Shared) (σ:St) (H:Hp) (x y:V) (v u:Value) (Q:VK),Inv X pins σ H s->RelV x v->RelV y u->r x y H Q ->
  wpAny (model X.prog X.w) X.A (f v u) (EP X pins σ Q) X.xe s
noncomputable def UnR (X:Cx)(f:Value->Sem Value)(r:V->Hp->VK->Prop):Prop :=
 ∀(pins:List (Addr×Obj)) (s:Shared) (σ:St) (H:Hp) (x:V) (v:Value) (Q:VK),Inv X pins σ H s->RelV x v->r x H Q ->
  wpAny (model X.prog X.w) X.A (f v) (EP X pins σ Q) X.xe s
noncomputable def Φ (X:Cx)(f:Value)(r:List V->Hp->VK->Prop):Prop :=
 ∀(pins:List (Addr×Obj)) (s:Shared) (σ:St) (H:Hp) (xs:List V) (us:List Value) (Q:VK),Inv X pins σ H s->Vals xs us->r xs H Q ->
  wpAny (model X.prog X.w) X.A (call f us) (EP X pins σ Q) X.xe s
noncomputable def tOp (r:R2)(ta tb:TE):TE:=fun σ H Q=>ta σ H fun x H1=>tb σ H1 fun y H2=>r x y H2 Q
noncomputable def tUn (r:V->Hp->VK->Prop)(ta:TE):TE:=fun σ H Q=>ta σ H fun x H1=>r x H1 Q
noncomputable def rI (C:Int->Int->Prop)(g:Int->Int->V):R2:=fun x y H Q=>∃i j,x = .int i /\ y = .int j /\ C i j /\ Q (g i j) H
noncomputable def rI0 (g:Int->Int->V):R2:=fun x y H Q=>∃i j,x = .int i /\ y = .int j /\ Q (g i j) H
noncomputable def rU (g:Int->V):V->Hp->VK->Prop:=fun x H Q=>∃i,x = .int i /\ Q (g i) H
section
variable {X:Cx}{a b c:Expr}{ta tb tc:TE}{pos:Pos}
theorem binT (ha:PE X a ta)(hb:PE X b tb){pins:List (Addr×Obj)}{s:Shared}{σ:St}{H:Hp}{R:V->V->Hp->Prop}(I:Inv X pins σ H s)
  (h:ta σ H fun x H1=>tb σ H1 fun y H2=>R x y H2){Q:Value->Shared->Prop}{f:Value->Value->Sem Value}
  (hf:∀v u s2 x y H2,Inv X pins σ H2 s2->RelV x v->RelV y u->R x y H2->wpAny (model X.prog X.w) X.A (f v u) Q X.xe s2) :
  wpAny (model X.prog X.w) X.A (eval a X.env) (fun v s₁=>wpAny (model X.prog X.w) X.A (eval b X.env) (fun u s₂=>wpAny (model X.prog X.w) X.A (f v u) Q X.xe s₂) X.xe s₁) X.xe s:=by
 refine thn (ha pins s σ H _ I h) fun v s1 ⟨x,H1,I1,r1,q1⟩=>?_;refine thn (hb pins s1 σ H1 _ I1 q1) fun u s2 ⟨y,H2,I2,r2,q2⟩=>?_;exact hf v u s2 x y H2 I2 r1 r2 q2
theorem Í {op:Operator}{r:R2}(ho:OpR X (binaryOp op) r)(ha:PE X a ta)(hb:PE X b tb):PE X (.BinOp a op b pos) (tOp r ta tb):=by
 intro pins s σ H Q I h;exact wpAny_BinOp (binT ha hb I h fun v u s2 x y H2 I2 rx ry q=>ho pins s2 σ H2 x y v u Q I2 rx ry q)
theorem xM6 {op:UnaryOp}{r:V->Hp->VK->Prop}(ho:UnR X (unaryOp op) r)(ha:PE X a ta):PE X (.UnaryOp op a pos) (tUn r ta):=by
 intro pins s σ H Q I h;exact UnaryOp_ (thn (ha pins s σ H _ I h) fun v s1 ⟨x,H1,I1,r1,q1⟩=>ho pins s1 σ H1 x v Q I1 r1 q1)
theorem opI {f:Value->Value->Sem Value}{C:Int->Int->Prop}{g:Int->Int->Int}
  (rule:∀(i j:Int) (t u:Tok) (s:Shared) (Q:Value->Shared->Prop) (E:Value->Shared->Prop),C i j->Q (.int (g i j) s.toks) { s with toks:=s.toks+1 }->wpAny (model X.prog X.w) X.A (f (.int i t) (.int j u)) Q E s) :
  OpR X f (rI C fun i j=>.int (g i j)):=by
 intro pins s σ H x y v u Q I rx ry h;obtain⟨i,j,rfl,rfl,hc,q⟩:=h;obtain⟨t,rfl⟩:=rx;obtain⟨t',rfl⟩:=ry;exact rule i j t t' s _ _ hc ⟨.int (g i j),H,I.tok _,⟨_,rfl⟩,q⟩
theorem opI0 {f:Value->Value->Sem Value}{g:Int->Int->Int}
  (rule:∀(i j:Int) (t u:Tok) (s:Shared) (Q:Value->Shared->Prop) (E:Value->Shared->Prop),Q (.int (g i j) s.toks) { s with toks:=s.toks+1 }->wpAny (model X.prog X.w) X.A (f (.int i t) (.int j u)) Q E s) :
  OpR X f (rI0 fun i j=>.int (g i j)):=by
 intro pins s σ H x y v u Q I rx ry h;obtain⟨i,j,rfl,rfl,q⟩:=h;obtain⟨t,rfl⟩:=rx;obtain⟨t',rfl⟩:=ry;exact rule i j t t' s _ _ ⟨.int (g i j),H,I.tok _,⟨_,rfl⟩,q⟩
theorem opB0 {f:Value->Value->Sem Value}{g:Int->Int->Bool}
  (rule:∀(i j:Int) (t u:Tok) (s:Shared) (Q:Value->Shared->Prop) (E:Value->Shared->Prop),Q (.bool (g i j)) s->wpAny (model X.prog X.w) X.A (f (.int i t) (.int j u)) Q E s) :
  OpR X f (rI0 fun i j=>.bl (g i j)):=by
 intro pins s σ H x y v u Q I rx ry h;obtain⟨i,j,rfl,rfl,q⟩:=h;obtain⟨t,rfl⟩:=rx;obtain⟨t',rfl⟩:=ry;exact rule i j t t' s _ _ ⟨.bl (g i j),H,I,rfl,q⟩
theorem ŷ:OpR X (binaryOp .Add) (rI0 fun i j=>.int (i+j)):=opI0 fun _ _ _ _ _ _ _ q=>add_int q
theorem zP2:OpR X (binaryOp .Sub) (rI0 fun i j=>.int (i - j)):=opI0 fun _ _ _ _ _ _ _ q=>sub_int q
theorem æ:OpR X (binaryOp .Mod) (rI (fun _ j=>j≠0) fun i j=>.int (i.fmod j)):=opI fun _ _ _ _ _ _ _ hc q=>mod_int' hc q
theorem unI {f:Value->Sem Value}{g:Int->Int}
  (rule:∀(i:Int) (t:Tok) (s:Shared) (Q:Value->Shared->Prop) (E:Value->Shared->Prop),Q (.int (g i) s.toks) { s with toks:=s.toks+1 }->wpAny (model X.prog X.w) X.A (f (.int i t)) Q E s) :
  UnR X f (rU fun i=>.int (g i)):=by
 intro pins s σ H x v Q I rx h;obtain⟨i,rfl,q⟩:=h;obtain⟨t,rfl⟩:=rx;exact rule i t s _ _ ⟨.int (g i),H,I.tok _,⟨_,rfl⟩,q⟩
theorem xC2:UnR X (unaryOp .USub) (rU fun i=>.int (-i)):=unI fun _ _ _ _ _ q=>neg_int q
end
noncomputable def scal:V->V->Bool
 | .non,.non=>true | .non,.int _=>true | .int _,.non=>true | .non,.bl _=>true | .bl _,.non=>true | .non,.str _=>true | .str _,.non=>true
 | .int _,.int _=>true | .bl _,.bl _=>true | .str _,.str _=>true | .byt _,.byt _=>true
 | .int _,.str _=>true | .str _,.int _=>true | .bl _,.str _=>true | .str _,.bl _=>true
 | _,_=>false
noncomputable def rEq:R2:=fun x y H Q=>scal x y=true /\ Q (.bl (decide (x=y))) H
noncomputable def rNe:R2:=fun x y H Q=>scal x y=true /\ Q (.bl (!decide (x=y))) H
theorem yV0 {i j:Int}:decide (V.int i=V.int j)=(i==j):=by
 rw[Bool.eq_iff_iff];simp
theorem xE0 {i j:Bool}:decide (V.bl i=V.bl j)=(i==j):=by
 rw[Bool.eq_iff_iff];simp
theorem yU9 {i j:Str}:decide (V.str i=V.str j)=(i==j):=by
 rw[Bool.eq_iff_iff];simp
theorem yV1 {i j:Array UInt8}:decide (V.byt i=V.byt j)=(i.toList==j.toList):=by
 rw[Bool.eq_iff_iff];cases i;cases j;simp
section
variable {X:Cx}{a b c:Expr}{ta tb tc:TE}{pos:Pos}
theorem î {pins:List (Addr×Obj)}{σ:St}{H:Hp}{s:Shared}{Q:VK}{k k':Bool}(I:Inv X pins σ H s)(q:Q (.bl k) H)(e:k=k'):EP X pins σ Q (.bool k') s:=by
 subst e;exact⟨.bl k,H,I,rfl,q⟩
theorem Ν:OpR X (compareOp .Eq) rEq:=by
 intro pins s σ H x y v u Q I rx ry h;obtain⟨hs,q⟩:=h;cases x with
 | non =>
  cases rx;cases y with
  | non=>cases ry;exact PySem.EqNone.eq_none_none (î I q (by simp))
  | bl j=>cases ry;exact PySem.EqNone.eq_none_bool (î I q (by simp))
  | int j=>obtain⟨t',rfl⟩:=ry;exact PySem.EqNone.eq_none_int (î I q (by simp))
  | str j=>obtain⟨t',rfl⟩:=ry;exact PySem.EqNone.eq_none_str (î I q (by simp))
  | _=>exact absurd (show false=true from hs) Ę
 | bl i =>
  cases rx;cases y with
  | non=>cases ry;exact PySem.EqNone.eq_bool_none (î I q (by simp))
  | bl j=>cases ry;exact eq_bool (î I q xE0)
  | str j=>obtain⟨t',rfl⟩:=ry;exact PySem.EqMixed.eq_bool_str (î I q (by simp))
  | _=>exact absurd (show false=true from hs) Ę
 | int i =>
  obtain⟨t,rfl⟩:=rx;cases y with
  | non=>cases ry;exact PySem.EqNone.eq_int_none (î I q (by simp))
  | int j=>obtain⟨t',rfl⟩:=ry;exact eq_int (î I q yV0)
  | str j=>obtain⟨t',rfl⟩:=ry;exact PySem.EqMixed.eq_int_str (î I q (by simp))
  | _=>exact absurd (show false=true from hs) Ę
 | str i =>
  obtain⟨t,rfl⟩:=rx;cases y with
  | non=>cases ry;exact PySem.EqNone.eq_str_none (î I q (by simp))
  | bl j=>cases ry;exact PySem.EqMixed.eq_str_bool (î I q (by simp))
  | int j=>obtain⟨t',rfl⟩:=ry;exact PySem.EqMixed.eq_str_int (î I q (by simp))
  | str j=>obtain⟨t',rfl⟩:=ry;exact eq_str (î I q yU9)
  | _=>exact absurd (show false=true from hs) Ę
 | byt i =>
  obtain⟨t,rfl⟩:=rx;cases y with
  | byt j=>obtain⟨t',rfl⟩:=ry;exact PySem.W.eq_bytes (î I q yV1)
  | _=>exact absurd (show false=true from hs) Ę
 | _=>cases y<;>exact absurd (show false=true from hs) Ę
theorem yY6:OpR X (compareOp .NotEq) rNe:=by
 intro pins s σ H x y v u Q I rx ry h;obtain⟨hs,q⟩:=h;cases x with
 | non =>
  cases rx;cases y with
  | non=>cases ry;exact PySem.EqNone.ne_none_none (î I q (by simp))
  | bl j=>cases ry;exact PySem.EqNone.ne_none_bool (î I q (by simp))
  | int j=>obtain⟨t',rfl⟩:=ry;exact PySem.EqNone.ne_none_int (î I q (by simp))
  | str j=>obtain⟨t',rfl⟩:=ry;exact PySem.EqNone.ne_none_str (î I q (by simp))
  | _=>exact absurd (show false=true from hs) Ę
 | bl i =>
  cases rx;cases y with
  | non=>cases ry;exact PySem.EqNone.ne_bool_none (î I q (by simp))
  | bl j=>cases ry;exact ne_bool (î I q (congrArg not xE0))
  | str j=>obtain⟨t',rfl⟩:=ry;exact PySem.EqMixed.ne_bool_str (î I q (by simp))
  | _=>exact absurd (show false=true from hs) Ę
 | int i =>
  obtain⟨t,rfl⟩:=rx;cases y with
  | non=>cases ry;exact PySem.EqNone.ne_int_none (î I q (by simp))
  | int j=>obtain⟨t',rfl⟩:=ry;exact ne_int (î I q (congrArg not yV0))
  | str j=>obtain⟨t',rfl⟩:=ry;exact PySem.EqMixed.ne_int_str (î I q (by simp))
  | _=>exact absurd (show false=true from hs) Ę
 | str i =>
  obtain⟨t,rfl⟩:=rx;cases y with
  | non=>cases ry;exact PySem.EqNone.ne_str_none (î I q (by simp))
  | bl j=>cases ry;exact PySem.EqMixed.ne_str_bool (î I q (by simp))
  | int j=>obtain⟨t',rfl⟩:=ry;exact PySem.EqMixed.ne_str_int (î I q (by simp))
  | str j=>obtain⟨t',rfl⟩:=ry;exact ne_str (î I q (congrArg not yU9))
  | _=>exact absurd (show false=true from hs) Ę
 | byt i =>
  obtain⟨t,rfl⟩:=rx;cases y with
  | byt j=>obtain⟨t',rfl⟩:=ry;exact PySem.W.ne_bytes (î I q (congrArg not yV1))
  | _=>exact absurd (show false=true from hs) Ę
 | _=>cases y<;>exact absurd (show false=true from hs) Ę
theorem xH3:OpR X (compareOp .Lt) (rI0 fun i j=>.bl (decide (i<j))):=opB0 fun _ _ _ _ _ _ _ q=>lt_int q
theorem xT6:OpR X (compareOp .LtE) (rI0 fun i j=>.bl (decide (i<=j))):=opB0 fun _ _ _ _ _ _ _ q=>le_int q
theorem xH4:OpR X (compareOp .Gt) (rI0 fun i j=>.bl (decide (j<i))):=opB0 fun _ _ _ _ _ _ _ q=>gt_int q
theorem Ý (b:Expr){op:CmpOp}(h:op ≠ .In:=by decide)(h2:op ≠ .NotIn:=by decide):behindInMarks op b=false:=by
 have e1:(op==CmpOp.In)=false:=by cases op<;>first | rfl | exact absurd rfl h
 have e2:(op==CmpOp.NotIn)=false:=by cases op<;>first | rfl | exact absurd rfl h2
 cases b<;>simp[behindInMarks,e1,e2]
theorem Ω {op:CmpOp}{r:R2}(ho:OpR X (compareOp op) r)(ha:PE X a ta)(hb:PE X b tb)(hm:behindInMarks op b=false):PE X (.Compare a [op] [b] pos) (tOp r ta tb):=by
 intro pins s σ H Q I h;exact wpAny_Compare1 (binT ha hb I h fun v u s2 x y H2 I2 rx ry q=>ho pins s2 σ H2 x y v u Q I2 rx ry q) hm
noncomputable def xS2 (t:TE):TT:=fun σ H Q=>t σ H fun x H'=>∃k,x = .bl k /\ Q k H'
theorem Ô {op:CmpOp}{r:R2}(ho:OpR X (compareOp op) r)(ha:PE X a ta)(hb:PE X b tb)(hm:behindInMarks op b=false):PT X (.Compare a [op] [b] pos) (xS2 (tOp r ta tb)):=by
 intro pins s σ H Q I h;refine wpAny_isTrue_Compare1 (thn (ha pins s σ H _ I h) fun v s1 ⟨x,H1,I1,r1,q1⟩=>thn (hb pins s1 σ H1 _ I1 q1) fun u s2 ⟨y,H2,I2,r2,q2⟩ =>
  thn (ho pins s2 σ H2 x y v u _ I2 r1 r2 q2) fun c s3 ⟨z,H3,I3,r3,k,e,q3⟩=>?_) hm
 subst e;cases r3;exact wpAny_truthy_bool ⟨H3,I3,q3⟩
theorem zX7:(sizeLine:Nat)<2^63:=by rw[sizeLine_eq];decide
theorem ι {x:V}{us:List Value}(r:Vals [x] us):∃u,us=[u] /\ RelV x u:=by
 cases r with
 | cons r1 r2=>cases r2;exact⟨_,rfl,r1⟩
theorem xE9 {x y:V}{us:List Value}(r:Vals [x,y] us):∃u w',us=[u,w'] /\ RelV x u /\ RelV y w':=by
 cases r with
 | cons r1 r2 =>
  cases r2 with
  | cons r3 r4=>cases r4;exact⟨_,_,rfl,r1,r3⟩
theorem xB2:Φ X (.builtin "abs") (fun xs H Q=>∃i,xs=[.int i] /\ Q (.int (if i<0 then -i else i)) H):=by
 intro pins s σ H xs us Q I r h;obtain⟨i,rfl,q⟩:=h;obtain⟨u,rfl,t,rfl⟩:=ι r;exact call_abs_int fun u tk=>⟨.int (if i<0 then -i else i),H,I.tok _,⟨_,rfl⟩,q⟩
theorem zG6:Φ X (.type "int") (fun xs H Q=>(∃i,xs=[.int i] /\ Q (.int i) H) \/ ∃k,xs=[.bl k] /\ Q (.int (if k then 1 else 0)) H):=by
 intro pins s σ H xs us Q I r h;rcases h with⟨i,rfl,q⟩ | ⟨k,rfl,q⟩
 ·obtain⟨u,rfl,t,rfl⟩:=ι r;exact call_int_int ⟨.int i,H,I,⟨_,rfl⟩,q⟩
 ·obtain⟨u,rfl,r1⟩:=ι r;cases r1;exact call_int_bool ⟨.int (if k then 1 else 0),H,I.tok _,⟨_,rfl⟩,q⟩
noncomputable def LenV (K:Ă)(x:V)(H:Hp)(n:Nat):Prop :=
 match x with
 | .str y=>y.length<=sizeLine /\ n=y.length
 | .byt y=>y.size<=sizeLine /\ n=y.size
 | .ref p=>(∃xs,SqL K H p xs /\ n=xs.length) \/ ∃xs,SqT K H p xs /\ n=xs.length
 | _=>False
theorem xA9:Φ X (.builtin "len") (fun xs H Q=>∃x n,xs=[x] /\ LenV X.K x H n /\ Q (.int n) H):=by
 intro pins s σ H xs us Q I r h;obtain⟨x,n,rfl,e,q⟩:=h;obtain⟨u,rfl,rx⟩:=ι r;have hl:=zX7;have hs:sizeLine=16777216:=sizeLine_eq;cases x with
 | str y =>
  obtain⟨t,rfl⟩:=rx;obtain⟨hy,e'⟩:y.length<=sizeLine /\ n=y.length:=e;subst e';exact len_str (by lia) ⟨.int _,H,I.tok _,⟨_,rfl⟩,q⟩
 | byt y =>
  obtain⟨t,rfl⟩:=rx;obtain⟨hy,e'⟩:y.size<=sizeLine /\ n=y.size:=e;subst e';exact PySem.W.len_bytes (by lia) ⟨.int _,H,I.tok _,⟨_,rfl⟩,q⟩
 | ref p =>
  cases rx;have e':(∃xs,SqL X.K H p xs /\ n=xs.length) \/ ∃xs,SqT X.K H p xs /\ n=xs.length:=e;rcases e' with⟨xs,hx,e'⟩ | ⟨xs,hx,e'⟩
  ·subst e';obtain⟨its,r',pl,hz⟩:=I.list hx;have hlen:=r'.length;exact Calls.call_len_list pl.isList (by simp only[ĕ];lia) ⟨.int xs.length,H,I.tok _,⟨_,by simp only[ĕ];rw[hlen]⟩,q⟩
  ·subst e';obtain⟨its,r',pl,hz⟩:=I.tuple hx;have hlen:=r'.length;exact len_tuple pl (by simp only[ĕ];lia) ⟨.int xs.length,H,I.tok _,⟨_,by simp only[ĕ];rw[hlen]⟩,q⟩
 | _=>exact(show False from e).elim
end
structure ObjM (h:Heap)(x dx C:Addr)(mA:Str->Option Value):Prop where
 obj:h.get? x=some (PySem.W.instObj C dx)
 ns:h.Ns1 dx mA
 ne:dx≠x
theorem yS5 {h:Heap}{dx:Addr}{mA:Str->Option Value}(n:h.Ns1 dx mA):∃od,h.get? dx=some od /\ ∀name,PySem.W.lookIn name od=some (mA name):=by
 obtain⟨o,es,ep,ho,hd,hk,_,hm⟩:=n;refine⟨o,ho,fun name=>?_⟩;have e:=hm name;unfold nsFind findBy at e;rw[<- Array.find?_toList]at e;unfold PySem.W.lookIn;rw[hd];dsimp only
 split
 ·rename_i y q;rw[q]at e;exact congrArg some e
 ·rename_i q;rw[q]at e;have a:es.toList.any (·.refKey)=false:=by
   rw[List.any_eq_false];intro y hy;obtain⟨z,t,hkey⟩:=hk y (Array.mem_toList_iff.mp hy);simp[DictEntry.refKey,hkey]
  have a':¬es.toList.any (·.refKey)=true:=by rw[a];exact Ę
  rw[if_neg a'];exact congrArg some e
theorem ObjM.look {h:Heap}{x dx C:Addr}{mA:Str->Option Value}(I:ObjM h x dx C mA):∃od,PySem.W.InstAt h x (PySem.W.instObj C dx) C (some od) /\ ∀name,PySem.W.lookIn name od=some (mA name) :=
 let ⟨od,ho,hl⟩:=yS5 I.ns
 ⟨od,⟨I.obj,rfl,rfl,ho⟩,hl⟩
theorem RelO.some_of {v:V}{o:Option Value}(r:RelO (some v) o):∃u,o=some u /\ RelV v u:=by
 cases o with
 | none=>exact(show False from r).elim
 | some u=>exact⟨u,rfl,r⟩
section
variable {P:Program}{w:World}{H H':Hp}{h h':Heap}{a C dx:Addr}{fs fs':List (Str×V)}
theorem xI9 (hok:HOk P w H h)(e:H a=some (.ins C dx fs)):∃mA,ObjM h a dx C mA /\ (∀f,RelO (fs.lookup f) (mA f)) /\ PySem.Within mA (fs.map (·.1)) /\ fs.length<=1000 /\ H dx=some (.own a):=by
 obtain⟨d,z,ne,ob,mA,n,r,q⟩:=(show ObjOk P w H h a (.ins C dx fs) from hok a _ e);exact⟨mA,⟨ob,n,ne⟩,r,q,z,d⟩
end
structure Cls (K:Ă)(C:Addr):Prop where
 pg:PySem.W.plainGet K C Str.empty=true
 hd:PySem.W.hasDictIn K C=true
 po:PySem.W.plainOver K C=true
 sa:PySem.W.findIn K (.ref C) "__setattr__" = some (some (.builtin "object.__setattr__"))
theorem Cls.get {K:Ă}{C:Addr}(c:Cls K C)(f:Str):PySem.W.plainGet K C f=true:=c.pg
section
variable {X:Cx}{pins:List (Addr×Obj)}{σ:St}{H:Hp}{s:Shared}{A:Around}{E:Value->Shared->Prop}{Q:Value->Shared->Prop}{c:Value}{b:Bool}
inductive TyOf (K:Ă)(H:Hp):V->Value->Prop where
 | non:TyOf K H .non (.type "NoneType")
 | bl (x:Bool):TyOf K H (.bl x) (.type "bool")
 | int (i:Int):TyOf K H (.int i) (.type "int")
 | str (x:Str):TyOf K H (.str x) (.type "str")
 | flt (x:UInt64):TyOf K H (.flt x) (.type "float")
 | lst {a:Addr} {xs:List V} (e:H a=some (.lst xs)):TyOf K H (.ref a) (.type "list")
 | frz {a:Addr} {o:Obj} {xs:List V} (e:H a=some (.frz o (.lst xs))):TyOf K H (.ref a) (.type "list")
 | tup {a:Addr} {xs:List V} (e:H a=some (.tup xs)):TyOf K H (.ref a) (.type "tuple")
 | dK {a:Addr} {kvs:List (Key×V)} (e:H a=some (.dK kvs)):TyOf K H (.ref a) (.type "dict")
 | dT {a:Addr} {kvs:List (List Key×V)} (e:H a=some (.dT kvs)):TyOf K H (.ref a) (.type "dict")
 | ins {a C dx:Addr} {fs:List (Str×V)} (e:H a=some (.ins C dx fs)) (cl:Cls K C) (ha:PySem.W.findIn K (.ref C) "__class__" = some (some (.builtin "object.__class__")))
   (hn:PySem.W.specialIn K (.builtin "object.__class__") "__get__" = some (some (.builtin "getset_descriptor.__get__")))(htk:PySem.W.takesIn K (.builtin "object.__class__")=some true)
   (hm:PySem.W.mroIn K C (.type "object")=some true):TyOf K H (.ref a) (.ref C)
theorem yT6 {x:V}{u t:Value}(I:Inv X pins σ H s)(rx:RelV x u)(ty:TyOf X.K H x t)(e:PySem.W.kitOne X.K t c=some b)(h:∀tk,Q (.bool b) { s with toks:=tk }) :
  wpAny (model X.prog X.w) A (call (.builtin "isinstance") [u,c]) Q E s:=by
 cases ty with
 | non=>cases (show u=Value.none from rx);exact Ł PySem.W.kitx_none I.kIn True.intro e (fun z=>nomatch z) h
 | bl y=>cases (show u=Value.bool y from rx);exact Ł PySem.W.kitx_bool I.kIn True.intro e (fun z=>nomatch z) h
 | int i=>obtain⟨t,q⟩:=(show ∃t,u=Value.int i t from rx);cases q;exact Ł PySem.W.kitx_int I.kIn True.intro e (fun z=>nomatch z) h
 | str y=>obtain⟨t,q⟩:=(show ∃t,u=Value.str y t from rx);cases q;exact Ł PySem.W.kitx_str I.kIn True.intro e (fun z=>nomatch z) h
 | flt y=>obtain⟨t,q⟩:=(show ∃t,u=Value.float y t from rx);cases q;exact Ł PySem.W.kitx_float I.kIn True.intro e (fun z=>nomatch z) h
 | @lst a xs ea =>
  cases (show u=Value.ref a from rx);obtain⟨_,_,n,_,h1⟩:=(show ObjOk X.prog X.w H s.heap a (.lst xs) from I.hok a _ ea);exact Ł PySem.W.kitx_list I.kIn ⟨_,h1,rfl⟩ e (fun z=>nomatch z) h
 | @frz a ob xs ea =>
  cases (show u=Value.ref a from rx);obtain⟨_,_,_,n,_,h1⟩:=(show ObjOk X.prog X.w H s.heap a (.frz ob (.lst xs)) from I.hok a _ ea);exact Ł PySem.W.kitx_list I.kIn ⟨_,h1,rfl⟩ e (fun z=>nomatch z) h
 | @tup a xs ea =>
  cases (show u=Value.ref a from rx);obtain⟨_,_,_,p⟩:=(show ObjOk X.prog X.w H s.heap a (.tup xs) from I.hok a _ ea);obtain⟨o,h1,h2,_⟩:=p;exact Ł PySem.W.kitx_tuple I.kIn ⟨o,h1,h2⟩ e (fun z=>nomatch z) h
 | @dK a kvs ea =>
  cases (show u=Value.ref a from rx);obtain⟨_,_,vs,_,p⟩:=(show ObjOk X.prog X.w H s.heap a (.dK kvs) from I.hok a _ ea);obtain⟨o,es,ep,h1,h2,_⟩:=p;exact Ł PySem.W.kitx_dict I.kIn ⟨o,h1,h2.1⟩ e (fun z=>nomatch z) h
 | @dT a kvs ea =>
  cases (show u=Value.ref a from rx);obtain⟨_,_,xs,_,o,es,ep,h1,h2,_⟩:=(show ObjOk X.prog X.w H s.heap a (.dT kvs) from I.hok a _ ea);exact Ł PySem.W.kitx_dict I.kIn ⟨o,h1,h2.1⟩ e (fun z=>nomatch z) h
 | @ins a C dx fs ea cl ha hn htk hm =>
  cases (show u=Value.ref a from rx);obtain⟨mA,O,_⟩:=xI9 I.hok ea;obtain⟨od,J,_⟩:=O.look;exact Ł (PySem.W.kitx_own (cl.get _) cl.hd ha hn htk hm) I.kIn J e (fun z=>nomatch z) h
end
structure Room (k:Nat)(A:Around):Prop where
 hd:A.handled=none
 dp:A.depth+3*k+5<recursionLimit
 un:A.units+16*k+200<cLine
theorem Room.mono {j k:Nat}{A:Around}(r:Room k A)(h:j<=k):Room j A:=⟨r.hd,by have:=r.dp;lia,by have:=r.un;lia⟩
theorem Room.deeper {k:Nat}{A:Around}(r:Room (k+1) A)(env:Env):Room k (A.deeper env) :=
 ⟨r.hd,by have:=r.dp;show A.depth+1+3*k+5<_;lia,by have:=r.un;show A.units+3+16*k+200<_;lia⟩
theorem Room.depth {k:Nat}{A:Around}(r:Room k A):A.depth<recursionLimit:=by have:=r.dp;lia
theorem Room.units {k:Nat}{A:Around}(r:Room k A):A.units+64<cLine:=by have:=r.un;lia
noncomputable def tNil:TA:=fun _ H Q=>Q [] H
noncomputable def xS8 (ta:TE)(tr:TA):TA:=fun σ H Q=>ta σ H fun x H1=>tr σ H1 fun xs H2=>Q (x::xs) H2
section
variable {X:Cx}{e:Expr}{es:List Expr}{te:TE}{t:TA}{pos:Pos}
theorem Ä:PA X [] tNil:=fun _ _ _ _ H Q I h=>Calls.spliced_nil ⟨[],H,I,.nil,h⟩
theorem À (ha:PE X e te)(hr:PA X es t)(hs:starEach (e::es) X.env=(false,eval e X.env)::starEach es X.env:=by rfl):PA X (e::es) (xS8 te t):=by
 intro pos pins s σ H Q I h;rw[hs];show wpAny _ _ (spliced ((false,eval e X.env)::backTo pos (starEach es X.env))) _ _ s;refine Calls.spliced_cons (thn (ha pins s σ H _ I h) fun u s1 ⟨x,H1,I1,r1,q1⟩=>?_);exact thn (hr pos pins s1 σ H1 _ I1 q1) fun us s2 ⟨xs,H2,I2,r2,q2⟩=>⟨x::xs,H2,I2,.cons r1 r2,q2⟩
noncomputable def tTup (t:TA):TE:=fun σ H Q=>t σ H fun xs H1=>xs.length<=sizeLine /\ ∀p,H1 p=none->Q (.ref p) (upd H1 p (.tup xs))
noncomputable def tLst (t:TA):TE:=fun σ H Q=>t σ H fun xs H1=>xs.length<=sizeLine /\ ∀p,H1 p=none->Q (.ref p) (upd H1 p (.lst xs))
theorem Ñ {x1}(h:PA X es t):PE X (.Tuple es x1 pos) (tTup t):=by
 intro pins s σ H Q I hq;refine wpAny_Tuple_spliced (thn (h pos pins s σ H _ I hq) fun us s1 ⟨xs,H1,I1,r,z,q⟩=>⟨by rw[<- r.length];exact z,?_⟩);have hf:H1 s1.heap.objs.size=none:=I1.hok.fresh (ą _);refine⟨.ref s1.heap.objs.size,upd H1 s1.heap.objs.size (.tup xs),I1.laid (t':=s1.toks) (fun b u e=>ć _ e) (ą _) ?_,rfl,q _ hf⟩;exact⟨z,us,r,⟨_,ē _ rfl,rfl,_,rfl⟩⟩
theorem Γ (h:PA X es t):PE X (.List es pos) (tLst t):=by
 intro pins s σ H Q I hq;refine wpAny_List_spliced (thn (h pos pins s σ H _ I hq) fun us s1 ⟨xs,H1,I1,r,z,q⟩=>⟨by rw[<- r.length];exact z,?_⟩);have hf:H1 s1.heap.objs.size=none:=I1.hok.fresh (ą _);refine⟨.ref s1.heap.objs.size,upd H1 s1.heap.objs.size (.lst xs),I1.laid (t':=s1.toks) (fun b u e=>ć _ e) (ą _) ?_,rfl,q _ hf⟩;exact⟨z,us,0,r,ē _ rfl⟩
end
noncomputable abbrev Sp:=List V->Hp->VK->XK->Prop
noncomputable abbrev CXT:=List Env->Hp->Shared->XK->Value->Shared->Prop
structure Env0 (P:Program)(w:World)(K:Ă)(mg:Str->Option Value)(base:Heap)(A:Around)(outer:List Env)(s:Shared)(H:Hp):Prop where
 frames:A.frames=some outer
 mod:Mod K mg base
 bs:∀b o,base.get? b=some o->s.heap.get? b=some o /\ H b=none
 bsz:base.objs.size<=s.heap.objs.size
 funs:s.heap.FunFrames base outer
 frf:∀b∈frs outer,H b=none
 hok:HOk P w H s.heap
 bare:AllBare s.gens
noncomputable def CE (outer:List Env)(P:Program)(w:World)(H:Hp)(s:Shared)(Q:VK)(u:Value)(s':Shared):Prop :=
 ∃v H',s'.os=s.os /\ AllBare s'.gens /\ Un (frs outer) [] H H' s.heap s'.heap /\ HOk P w H' s'.heap /\ RelV v u /\ Q v H'
noncomputable def CR (CX:CXT)(outer:List Env)(P:Program)(w:World)(H:Hp)(s:Shared)(Q:VK)(E:XK)(r:Result)(s':Shared):Prop :=
 match r with
 | .ok (.ret u)=>CE outer P w H s Q u s'
 | .ok _=>False
 | .error e=>CX outer H s E e s'
structure FnOk (P:Program)(w:World)(K:Ă)(mg:Str->Option Value)(base:Heap)(CX:CXT)(k:Nat)(f:Addr)(fd:FuncData)(ps:List Str)(sp:Sp):Prop where
 len:∀vs H Q E,sp vs H Q E->vs.length=ps.length
 run:∀(A:Around) (outer:List Env) (s:Shared) (H:Hp) (args:Args) (us:List Value) (vs:List V) (Q:VK) (E:XK),Room k A->Env0 P w K mg base A outer s H->BindsTo s fd args (ps.zip us)->Vals vs us->sp vs H Q E ->
  codeAny (model P w) A (.call (.ref f) args) (CR CX outer P w H s Q E) s
section
variable {X:Cx}{pins:List (Addr×Obj)}{σ:St}{H:Hp}{s s':Shared}
theorem Inv.env0 (I:Inv X pins σ H s):Env0 X.prog X.w X.K X.mg X.base X.A X.stack s H :=
 ⟨I.ok.frames,I.ok.mod,I.bs,Č I.ok.bsz I.sz,I.stack,I.stkFree,I.hok,I.bare⟩
theorem Inv.after {Q:VK}{u:Value}(I:Inv X pins σ H s)(h:CE X.stack X.prog X.w H s Q u s'):EP X pins σ Q u s':=by
 obtain⟨v,H',os,bare,un,hok,r,q⟩:=h;obtain⟨hh,g,d,t,os'⟩:=s';obtain rfl:os'=s.os:=os;exact⟨v,H',I.call (h':=hh) (g':=g) (d':=d) (t':=t) (ch:=[]) un hok bare (fun b z=>absurd z (by simp)),r,q⟩
end
noncomputable def xF2 (sp:Sp)(dvs:List V)(E:XK)(t:TA):TE:=fun σ H Q=>t σ H fun vs H1=>sp (vs++dvs) H1 Q E
noncomputable def Binds (K:Ă)(fd:FuncData)(ps:List Str)(ds:List Value):Prop :=
 ∀(s:Shared) (us:List Value),K.In s.heap->(us++ds).length=ps.length->BindsTo s fd ⟨us,[]⟩ (ps.zip (us++ds))
theorem Binds.all {K:Ă}{fd:FuncData}{ps:List Str}(h:∀us:List Value,us.length=ps.length->bindArgs fd ⟨us,[]⟩=pure (ps.zip us)):Binds K fd ps []:=fun s us _ hl=>by
 rw[ļ]at hl ⊢;exact .of_eq (h us hl)
noncomputable def yA1 (CX:CXT)(X:Cx)(E:XK):Prop:=∀(pins:List (Addr×Obj)) (σ:St) (H:Hp) (s:Shared) (e:Value) (s':Shared),Inv X pins σ H s->CX X.stack H s E e s'->X.xe e s'
section
variable {X:Cx}{CX:CXT}{k:Nat}{f C:Addr}{fd:FuncData}{ps:List Str}{sp:Sp}{dvs:List V}{ds:List Value}{E:XK}{x m:Str}{p pos apos:Pos}{e o:Expr}{es:List Expr}{ta:TE}{t:TA}
theorem xL6 {pins:List (Addr×Obj)}{σ:St}{H:Hp}{s:Shared}{Q:VK}{us:List Value}{vs:List V}(F:FnOk X.prog X.w X.K X.mg X.base CX k f fd ps sp)(hr:Room k X.A)(hb:Binds X.K fd ps ds)(hd:Vals dvs ds)(hx:yA1 CX X E)
  (I:Inv X pins σ H s)(r:Vals vs us)(h:sp (vs++dvs) H Q E):wpAny (model X.prog X.w) X.A (call (.ref f) us) (EP X pins σ Q) X.xe s:=by
 have r2:Vals (vs++dvs) (us++ds):=r.append hd;have hl:(us++ds).length=ps.length:=by rw[<- r2.length];exact F.len _ _ _ _ h
 refine wpAny_call (codeAny_mono (F.run X.A X.stack s H ⟨us,[]⟩ (us++ds) (vs++dvs) Q E hr I.env0 (hb s us I.kIn hl) r2 h) fun r s' hq=>?_);cases r with
 | error e=>exact hx pins σ H s e s' I hq
 | ok fl =>
  cases fl with
  | ret u=>exact I.after hq
  | next=>exact False.elim hq
  | brk=>exact False.elim hq
  | cont=>exact False.elim hq
theorem xH0 (F:FnOk X.prog X.w X.K X.mg X.base CX k f fd ps sp)(hr:Room k X.A)(hg:Gl X x)(hm:X.mg x=some (.ref f))(hk:PySem.W.keepIn X.K (.ref f)=true)(hb:Binds X.K fd ps ds)(hd:Vals dvs ds)(hx:yA1 CX X E)
  (ha:PA X (e::es) t)(hdb:(x==("__debug__":Str))=false:=by decide)(he:starEach (e::es) X.env=(false,eval e X.env)::starEach es X.env:=by rfl)(hpl:(backTo pos (starEach es X.env)).any (·.1)=false:=by rfl) :
  PE X (.Call (.Name x p) (e::es) [] pos) (xF2 sp dvs E t):=by
 intro pins s σ H Q I h;refine wpAny_Call_Name_kw (yS7 I hg hm ?_ hdb);refine PySem.W.callWith_K (h₀:=X.base) I.ok.mod.kin hk (thn (ha pos pins s σ H _ I h) fun us s1 ⟨vs,H1,I1,r,q⟩=>⟨I1.kIn,?_⟩) he hpl;exact xL6 F hr hb hd hx I1 r q
end
structure Ë (N P:List Str)(sc:Scope):Prop where
 kind:sc.kind = .function
 co:sc.isCoroutine=false
 gen:sc.isGenerator=false
 nd:N.Nodup
 pre:N.take P.length=P
 par:∀x∈P,sc.names.lookup x=some .local \/ sc.names.lookup x=some .cell
 nofree:∀y∈sc.names,y.2 ≠ .free
theorem zZ5 {kindOf:Str->Option NameKind}{x:Str}:∀{binds:List (Str×Value)} {m:Str->Option Value},(∀v,(x,v)∉binds)->bindL kindOf binds m x=m x
 | [],_,_=>rfl
 | (n,v)::r,m,h=>by
  unfold bindL;rw[zZ5 fun w hw=>h w (ă _ hw)]
  split
  ·have:x≠n:=by rintro rfl;exact h v Ć
   simp[this]
  ·rfl
theorem zZ7 {kindOf:Str->Option NameKind}{x:Str}:∀{binds:List (Str×Value)} {m:Str->Option Value},(∀v,(x,v)∉binds)->bindC kindOf binds m x=m x
 | [],_,_=>rfl
 | (n,v)::r,m,h=>by
  unfold bindC;rw[zZ7 fun w hw=>h w (ă _ hw)]
  split
  ·rfl
  ·have:x≠n:=by rintro rfl;exact h v Ć
   simp[this]
theorem zZ6 {kindOf:Str->Option NameKind}{x:Str}{v:Value}:∀{P:List Str} {vs:List Value} {i:Nat} {m:Str->Option Value},P.Nodup->P[i]?=some x->vs[i]?=some v->kindOf x=some .local ->
  bindL kindOf (P.zip vs) m x=some v
 | [],_,_,_,_,h,_,_=>by simp at h
 | _::_,[],_,_,_,_,h,_=>by simp at h
 | p::P,w::vs,0,m,nd,h1,h2,hk=>by
  simp at h1 h2;subst h1;subst h2;show bindL kindOf ((p,w)::P.zip vs) m p=_;unfold bindL;rw[zZ5 fun v hv=>(Ĝ.mp nd).1 (List.of_mem_zip hv).1,if_pos hk];simp
 | p::P,w::vs,i+1,m,nd,h1,h2,hk=>by
  show bindL kindOf ((p,w)::P.zip vs) m x=_;unfold bindL;exact zZ6 (i:=i) (Ĝ.mp nd).2 (by simpa using h1) (by simpa using h2) hk
theorem zZ8 {kindOf:Str->Option NameKind}{x:Str}{v:Value}:∀{P:List Str} {vs:List Value} {i:Nat} {m:Str->Option Value},P.Nodup->P[i]?=some x->vs[i]?=some v->kindOf x≠some .local ->
  bindC kindOf (P.zip vs) m x=some v
 | [],_,_,_,_,h,_,_=>by simp at h
 | _::_,[],_,_,_,_,h,_=>by simp at h
 | p::P,w::vs,0,m,nd,h1,h2,hk=>by
  simp at h1 h2;subst h1;subst h2;show bindC kindOf ((p,w)::P.zip vs) m p=_;unfold bindC;rw[zZ7 fun v hv=>(Ĝ.mp nd).1 (List.of_mem_zip hv).1,if_neg hk];simp
 | p::P,w::vs,i+1,m,nd,h1,h2,hk=>by
  show bindC kindOf ((p,w)::P.zip vs) m x=_;unfold bindC;exact zZ8 (i:=i) (Ĝ.mp nd).2 (by simpa using h1) (by simpa using h2) hk
noncomputable def start (N:List Str)(vs:List V):St:=vs.map some++List.replicate (N.length - vs.length) none
noncomputable def cxOf (CX:CXT)(P:Program)(w:World)(K:Ă)(mg:Str->Option Value)(base:Heap)(N:List Str)(qual:Str)(scope:Scope)(f:Addr)(cd:Value)(A:Around)(outer:List Env)(s:Shared)(H:Hp)(E:XK):Cx where
 prog:=P
 w:=w
 K:=K
 mg:=mg
 base:=base
 A:=A.deeper (envOfC qual scope s.heap.objs.size f cd)
 N:=N
 s₀:=s
 H₀:=H
 env:=envOfC qual scope s.heap.objs.size f cd
 outer:=outer
 stack:=envOfC qual scope s.heap.objs.size f cd::outer
 ex:=[]
 calm:=true
 fn:=fun _=>true
 pn:=[]
 xe:=fun e s'=>wpAny (model P w) (A.deeper (envOfC qual scope s.heap.objs.size f cd)) (leaving (envOfC qual scope s.heap.objs.size f cd) e) (fun _ s''=>CX outer H s E e s'') (fun e' s''=>CX outer H s E e' s'') s'
theorem yI5 {sc:Scope}{n:Nat}{x:Str}(h:sc.names.lookup x=some .cell):∃c,(cellsFrom n sc.names []).lookup x=some c:=by
 have q:=PySem.W.cellsFrom_some sc.names n [] (.inl h);exact Option.isSome_iff_exists.mp q
theorem yT8 {CX:CXT}{P:Program}{w:World}{K:Ă}{mg:Str->Option Value}{base:Heap}{N ps:List Str}{qual:Str}{scope:Scope}{f:Addr}{cd:Value}{A:Around}{outer:List Env}{s s1:Shared}{H:Hp}{E:XK}{us:List Value}{vs:List V}
  (S:Ë N ps scope)(hd:A.handled=none)(e0:Env0 P w K mg base A outer s H)(hl:vs.length=ps.length)(r:Vals vs us)
  (x:InCallC s s.heap.objs.size (bindL (envOfC qual scope s.heap.objs.size f cd).kindOf (ps.zip us) fun _=>none) (cellsFrom (s.heap.objs.size+1) scope.names []) (bindC (envOfC qual scope s.heap.objs.size f cd).kindOf (ps.zip us) fun _=>none) s1) :
  Inv (cxOf CX P w K mg base N qual scope f cd A outer s H E) [] (start N vs) H s1:=by
 have hpl:ps.length<=N.length:=by have:=congrArg List.length S.pre;rw[ċ]at this;lia
 obtain⟨h1,tk,rfl,hk⟩:=x.done;have noA:∀b:Addr,b∉(cxOf CX P w K mg base N qual scope f cd A outer s H E).ex:=fun b z=>absurd (show b∈([]:List Addr) from z) (by simp);refine⟨⟨e0.mod,S.kind,rfl,rfl,ą _,fun y z c h1 h2=>?_,fun y hy=>?_,fun y c _ h=>?_,fun _=>hd,Around.frames_deeper e0.frames,.inr ⟨rfl,rfl⟩,fun b z=>absurd z (noA b),e0.bs,e0.bsz,fun b _ _=>noA b,fun b z=>absurd z (noA b),e0.funs,e0.frf⟩,
  rfl,e0.bare,Un.kept hk,⟨_,x.toInCall.ns,fun i y v h1 h2 h3=>?_⟩,fun y c h=>⟨_,x.cell y c h⟩,e0.hok.fresh (ą _),fun y c h=>?_,fun p hp=>absurd (show p∈([]:List (Addr×Obj)) from hp) (by simp),e0.hok.kept hk,?_⟩
 ·exact name_of_addr x.apart (PySem.mem_of_lookup h1) (PySem.mem_of_lookup h2)
 ·have hy:scope.names.lookup y=some .cell \/ scope.names.lookup y=some .free:=hy;rcases hy with hy | hy
  ·exact yI5 hy
  ·exact absurd rfl (S.nofree _ (PySem.mem_of_lookup hy))
 ·exact Ş (x.above y c (PySem.mem_of_lookup h))
 ·have hi:i<vs.length:=by
   unfold start at h2
   by_cases hi:i<vs.length
   ·exact hi
   ·rw[Œ (by simpa using hi)]at h2;rw[List.getElem?_replicate]at h2
    split at h2<;>cases h2
  have ha:vs[i]?=some v:=by
   unfold start at h2;rw[List.getElem?_append_left (by simpa using hi),Ĉ]at h2;cases e:vs[i]? with
   | none=>rw[e]at h2;cases h2
   | some a=>rw[e]at h2;cases h2;rfl
  obtain⟨u,hu,rv⟩:=r.get ha;have hp:ps[i]?=some y:=by
   rw[<- S.pre,List.getElem?_take_of_lt (by lia)];exact h1
  have ndP:ps.Nodup:=by rw[<- S.pre];exact S.nd.sublist (List.take_sublist _ _)
  refine⟨u,rv,?_⟩;rcases S.par y (Ċ hp) with k | k
  ·exact .inl ⟨k,zZ6 ndP hp hu k⟩
  ·obtain⟨c,e⟩:=yI5 (n:=s.heap.objs.size+1) k;refine .inr ⟨.inl k,c,e,?_⟩;have q:=x.cell y c e;rw[zZ8 ndP hp hu (by show scope.names.lookup y≠_;rw[k];decide)]at q;exact q
 ·exact e0.hok.fresh (Ş (x.above y c (PySem.mem_of_lookup h)))
 ·unfold start;show _=N.length;rw[Ď,ā,List.length_replicate];lia
theorem xQ1 {CX:CXT}{P:Program}{w:World}{K:Ă}{mg:Str->Option Value}{base:Heap}{k:Nat}{f:Addr}{name qual:Str}{params:Arguments}{body:List Stmt}{scope:Scope}{dV kV doc pm cdv ct oc:Value}{an od:Option Addr}
  {osl:Array (Option Value)}{N ps:List Str}{sp:Sp}(lk:K.lookup f=some ⟨oc,od,.func (ő name qual params body scope dV kV doc pm an cdv ct),osl⟩)(hcd:PySem.W.codeIn K cdv qual=true)(S:Ë N ps scope)
  (len:∀vs H Q E,sp vs H Q E->vs.length=ps.length)
  (hbody:∀(A:Around) (outer:List Env) (s:Shared) (H:Hp) (vs:List V) (Q:VK) (E:XK),Room k (A.deeper (envOfC qual scope s.heap.objs.size f cdv))->sp vs H Q E ->
   ∃t,PSs (cxOf CX P w K mg base N qual scope f cdv A outer s H E) body t /\ t { nx:=fun _ H'=>Q .non H',rt:=Q } (start N vs) H) :
  FnOk P w K mg base CX (k+1) f (ő name qual params body scope dV kV doc pm an cdv ct) ps sp:=by
 refine⟨len,fun A outer s H args us vs Q E hr e0 hb r hsp=>?_⟩;have hl:=len _ _ _ _ hsp;have KX:K.In s.heap:=e0.mod.kin.keeps fun b o e=>(e0.bs b o e).1;have lim:s.heap.NoLimit:=e0.mod.nolimit.keeps fun b o e=>(e0.bs b o e).1;have hkind:∀y∈ps.zip us,scope.names.lookup y.1=some .local \/ (scope.names.lookup y.1=some .cell /\ ((cellsFrom (s.heap.objs.size+1) scope.names []).lookup y.1).isSome=true):=fun⟨n,v⟩ hy=>by
  rcases S.par n (List.of_mem_zip hy).1 with q | q
  ·exact .inl q
  ·exact .inr ⟨q,PySem.W.cellsFrom_some _ _ _ (.inl q)⟩
 refine codeAny_call_function hr.depth (KX _ _ lk) rfl S.co S.gen rfl (PySem.W.codeRec_of KX hcd) (hb _ _ _ _ ?_);refine wpAny_newFunctionEnv_cells S.kind hkind fun env he s1 x=>?_;subst he;refine⟨lim.keeps x.toInCall.keep,codeAny_func ?_⟩;obtain⟨t,ht,hq⟩:=hbody A outer s H vs Q E (hr.deeper _) hsp;have I:Inv (cxOf CX P w K mg base N qual scope f cdv A outer s H E) [] (start N vs) H s1:=yT8 S hr.hd e0 hl r x;refine wpAny_mono (ht [] s1 (start N vs) H _ I hq) (fun fl s' hs=>?_) fun e s' hs=>hs;have fin:∀{σ':St} {H':Hp} {v:V} {u:Value},Inv (cxOf CX P w K mg base N qual scope f cdv A outer s H E) [] σ' H' s'->RelV v u->Q v H'->CE outer P w H s Q u s' :=
  fun {σ' H' v u} J rv q=>⟨v,H',J.os,J.bare,J.base,J.hok,rv,q⟩
 cases fl with
 | ret u =>
  obtain⟨v,σ',H',J,rv,q⟩:=hs;exact fin J rv q
 | next =>
  obtain⟨σ',H',J,q⟩:=hs;exact fin (v:=V.non) (u:=Value.none) J rfl q
 | brk =>
  obtain⟨_,_,_,q⟩:=hs;exact False.elim q
 | cont =>
  obtain⟨_,_,_,q⟩:=hs;exact False.elim q
section
variable {X:Cx}{x:Str}{p pos:Pos}{e:Expr}{es:List Expr}{t:TA}{id T:String}{r:List V->Hp->VK->Prop}
noncomputable def tCB (r:List V->Hp->VK->Prop)(t:TA):TE:=fun σ H Q=>t σ H fun vs H1=>r vs H1 Q
theorem ß (hc:Φ X (.builtin id) r)(hg:Gl X x)(hm:X.mg x=none)(hv:bootBuiltins x=some (.builtin id))(ha:PA X (e::es) t)(hn:x ≠ "__name__":=by decide)(hdb:(x==("__debug__":Str))=false:=by decide)
  (he:starEach (e::es) X.env=(false,eval e X.env)::starEach es X.env:=by rfl)(hpl:(backTo pos (starEach es X.env)).any (·.1)=false:=by rfl):PE X (.Call (.Name x p) (e::es) [] pos) (tCB r t):=by
 intro pins s σ H Q I h;refine wpAny_Call_Name_kw (η I hg hm hv ?_ hn hdb);exact PyProof.Rows.callWith_builtin1 (thn (ha pos pins s σ H _ I h) fun us s1 ⟨vs,H1,I1,r1,q1⟩=>hc pins s1 σ H1 vs us Q I1 r1 q1) he hpl
theorem ö (hc:Φ X (.type T) r)(hg:Gl X x)(hm:X.mg x=none)(hv:bootBuiltins x=some (.type T))(ha:PA X (e::es) t)(hn:x ≠ "__name__":=by decide)(hdb:(x==("__debug__":Str))=false:=by decide)
  (he:starEach (e::es) X.env=(false,eval e X.env)::starEach es X.env:=by rfl)(hpl:(backTo pos (starEach es X.env)).any (·.1)=false:=by rfl):PE X (.Call (.Name x p) (e::es) [] pos) (tCB r t):=by
 intro pins s σ H Q I h;refine wpAny_Call_Name_kw (η I hg hm hv ?_ hn hdb);exact PyProof.Rows.callWith_type1 (thn (ha pos pins s σ H _ I h) fun us s1 ⟨vs,H1,I1,r1,q1⟩=>hc pins s1 σ H1 vs us Q I1 r1 q1) he hpl
end
section
variable {κ:Type}[DecidableEq κ]
noncomputable def valV (kvs:List (κ×V))(k:κ):Option V:=(kvs.find? fun kv=>decide (kv.1=k)).map (·.2)
noncomputable def putK (kvs:List (κ×V))(k:κ)(v:V):List (κ×V) :=
 if (kvs.any fun kv=>decide (kv.1=k))=true then kvs.map (fun kv=>if kv.1=k then (kv.1,v) else kv) else kvs++[(k,v)]
theorem ų {p:κ×V}{r:List (κ×V)}{k:κ}(e:p.1=k):valV (p::r) k=some p.2:=by simp[valV,Ū,e]
theorem Ŵ {p:κ×V}{r:List (κ×V)}{k:κ}(e:¬p.1=k):valV (p::r) k=valV r k:=by simp[valV,Ū,e]
theorem zF3 (k:κ):∀kvs:List (κ×V),(kvs.any fun kv=>decide (kv.1=k))=(valV kvs k).isSome
 | []=>rfl
 | p::r=>by
  rw[List.any_cons]
  by_cases e:p.1=k
  ·simp only[ų e,decide_eq_true e,Bool.true_or,Option.isSome_some]
  ·rw[Ŵ e,decide_eq_false e,Bool.false_or];exact zF3 k r
theorem yE6 (k j:κ)(y:V):∀kvs:List (κ×V),valV (kvs.map fun kv=>if kv.1=k then (kv.1,y) else kv) j=(valV kvs j).map fun x=>if j=k then y else x
 | []=>rfl
 | p::r=>by
  have ih:=yE6 k j y r;rw[ĩ]
  by_cases h:p.1=k
  ·rw[if_pos h]
   by_cases e:p.1=j
   ·rw[ų (p:=(p.1,y)) e,ų e,Option.map_some,if_pos (e.symm.trans h)]
   ·rw[Ŵ (p:=(p.1,y)) e,Ŵ e,ih]
  ·rw[if_neg h]
   by_cases e:p.1=j
   ·rw[ų (p:=p) e,ų e,Option.map_some,if_neg (fun z=>h (e.trans z))]
   ·rw[Ŵ (p:=p) e,Ŵ e,ih]
theorem zU5 (k j:κ)(y:V):∀kvs:List (κ×V),valV kvs k=none->valV (kvs++[(k,y)]) j=if j=k then some y else valV kvs j
 | [],_=>by
  by_cases e:k=j
  ·rw[if_pos e.symm];exact ų (p:=(k,y)) e
  ·rw[if_neg (fun z=>e z.symm)];exact Ŵ (p:=(k,y)) e
 | p::r,hn=>by
  rw[List.cons_append];have hk:¬p.1=k:=fun z=>by rw[ų z]at hn;cases hn
  rw[Ŵ hk]at hn;have ih:=zU5 k j y r hn
  by_cases e:p.1=j
  ·rw[ų e,ų e,if_neg (fun z=>hk (e.trans z))]
  ·rw[Ŵ e,Ŵ e,ih]
theorem zJ9 (kvs:List (κ×V))(k j:κ)(y:V):valV (putK kvs k y) j=if j=k then some y else valV kvs j:=by
 unfold putK
 by_cases a:(kvs.any fun kv=>decide (kv.1=k))=true
 ·rw[if_pos a,yE6];rw[zF3]at a
  by_cases e:j=k
  ·obtain⟨x,hx⟩:=Option.isSome_iff_exists.mp a;rw[if_pos e,e,hx,Option.map_some,if_pos rfl]
  ·rw[if_neg e];cases valV kvs j with
   | none=>rfl
   | some x=>rw[Option.map_some,if_neg e]
 ·rw[if_neg a];refine zU5 k j y kvs ?_;rw[zF3]at a;cases q:valV kvs k with
  | none=>rfl
  | some x=>rw[q]at a;exact(a rfl).elim
theorem zA1 (kvs:List (κ×V))(k:κ)(v:V):(putK kvs k v).length<=kvs.length+1:=by
 unfold putK
 split
 ·rw[ā];lia
 ·rw[Ď,ğ,List.length_nil];lia
theorem RelO.isSome_eq {o:Option V}{u:Option Value}(r:RelO o u):o.isSome=u.isSome:=by
 cases o with
 | none=>cases u with
  | none=>rfl
  | some _=>exact(show False from r).elim
 | some _=>cases u with
  | none=>exact(show False from r).elim
  | some _=>rfl
theorem RelO.getD {o:Option V}{u:Option Value}{d:V}{d':Value}(r:RelO o u)(rd:RelV d d'):RelV (o.getD d) (u.getD d'):=by
 cases o with
 | none=>cases u with
  | none=>exact rd
  | some _=>exact(show False from r).elim
 | some _=>cases u with
  | none=>exact(show False from r).elim
  | some _=>exact r
theorem KV.val {kvs:List (κ×V)}{vs:List (κ×Value)}(r:KV kvs vs)(k:κ):RelO (valV kvs k) (valueAt vs k):=by
 unfold KV at r
 induction r with
 | nil=>exact True.intro
 | @cons p q ps qs h t ih =>
  obtain⟨h1,h2⟩:=h
  by_cases e:p.1=k
  ·have e':q.1=k:=h1.symm.trans e;have b:valueAt (q::qs) k=some q.2:=by simp[valueAt,Ū,e']
   rw[ų e,b];exact h2
  ·have e':¬q.1=k:=fun z=>e (h1.trans z);have b:valueAt (q::qs) k=valueAt qs k:=by simp[valueAt,Ū,e']
   rw[Ŵ e,b];exact ih
theorem KV.any {kvs:List (κ×V)}{vs:List (κ×Value)}(r:KV kvs vs)(k:κ):(kvs.any fun kv=>decide (kv.1=k))=vs.any fun kv=>decide (kv.1=k):=by
 unfold KV at r
 induction r with
 | nil=>rfl
 | cons h t ih=>rw[List.any_cons,List.any_cons,ih,h.1]
theorem KV.repl {kvs:List (κ×V)}{vs:List (κ×Value)}(r:KV kvs vs)(k:κ){y:V}{u:Value}(ry:RelV y u) :
  KV (kvs.map fun kv=>if kv.1=k then (kv.1,y) else kv) (vs.map fun kv=>if kv.1=k then (kv.1,u) else kv):=by
 unfold KV at r ⊢
 induction r with
 | nil=>exact .nil
 | @cons p q ps qs h t ih =>
  rw[ĩ,ĩ];refine .cons ?_ ih;obtain⟨h1,h2⟩:=h
  by_cases e:p.1=k
  ·rw[if_pos e,if_pos (h1.symm.trans e)];exact⟨h1,ry⟩
  ·rw[if_neg e,if_neg (fun z=>e (h1.trans z))];exact⟨h1,h2⟩
theorem KV.put {kvs:List (κ×V)}{vs:List (κ×Value)}(r:KV kvs vs)(k:κ){y:V}{u:Value}(ry:RelV y u):KV (putK kvs k y) (stored vs k u):=by
 unfold putK stored;rw[r.any k]
 by_cases e:(vs.any fun kv=>decide (kv.1=k))=true
 ·rw[if_pos e,if_pos e];exact r.repl k ry
 ·rw[if_neg e,if_neg e];exact Paired.snoc r ⟨rfl,ry⟩
theorem KV.length {kvs:List (κ×V)}{vs:List (κ×Value)}(r:KV kvs vs):kvs.length=vs.length:=Paired.length r
end
theorem yC9 {P:Program}{w:World}{k:Key}{u:Value}(r:RelV (kV k) u):(ç P w).is k u=true:=by
 cases k with
 | inl i=>obtain⟨t,e⟩:=(show ∃t,u=Value.int i t from r);subst e;exact yC3 P w i t
 | inr x=>obtain⟨t,e⟩:=(show ∃t,u=Value.str x t from r);subst e;exact zN2 P w x t
theorem zY0 {P:Program}{w:World}:∀{ks:List Key} {us:List Value},Vals (ks.map kV) us->ItemsAre (ç P w) ks us
 | [],_,r=>by rw[List.map_nil]at r;cases r;exact .nil
 | k::ks,_,r=>by
  rw[ĩ]at r;cases r with
  | cons h t=>exact .cons (yC9 h) (zY0 t)
noncomputable abbrev KT (H:Hp):List (List Key×V)->List (List Key×Addr×Value)->Prop:=Paired fun p q=>p.1=q.1 /\ H q.2.1=some (.tup (p.1.map kV)) /\ RelV p.2 q.2.2
theorem KT.val {H:Hp}{kvs:List (List Key×V)}{xs:List (List Key×Addr×Value)}(r:KT H kvs xs)(k:List Key):RelO (valV kvs k) ((atKey xs k).map (·.2)):=by
 induction r with
 | nil=>exact True.intro
 | @cons p q ps qs h t ih =>
  obtain⟨h1,_,h2⟩:=h
  by_cases e:p.1=k
  ·have e':q.1=k:=h1.symm.trans e;have b:atKey (q::qs) k=some q.2:=by simp[atKey,Ū,e']
   rw[ų e,b];exact h2
  ·have e':¬q.1=k:=fun z=>e (h1.trans z);have b:atKey (q::qs) k=atKey qs k:=by simp[atKey,Ū,e']
   rw[Ŵ e,b];exact ih
theorem KT.repl {H:Hp}{kvs:List (List Key×V)}{xs:List (List Key×Addr×Value)}(r:KT H kvs xs)(k:List Key){y:V}{u:Value}(ry:RelV y u) :
  KT H (kvs.map fun kv=>if kv.1=k then (kv.1,y) else kv) (xs.map (putAt k u)):=by
 induction r with
 | nil=>exact .nil
 | @cons p q ps qs h t ih =>
  rw[ĩ,ĩ];refine .cons ?_ ih;obtain⟨h1,h2,h3⟩:=h;unfold putAt
  by_cases e:p.1=k
  ·rw[if_pos e,if_pos (h1.symm.trans e)];exact⟨h1,h2,ry⟩
  ·rw[if_neg e,if_neg (fun z=>e (h1.trans z))];exact⟨h1,h2,h3⟩
theorem KT.put {H:Hp}{kvs:List (List Key×V)}{xs:List (List Key×Addr×Value)}(r:KT H kvs xs)(k:List Key){b:Addr}{y:V}{u:Value}(hb:H b=some (.tup (k.map kV)))(ry:RelV y u) :
  KT H (putK kvs k y) (storedH xs k b u):=by
 have e:(kvs.any fun kv=>decide (kv.1=k))=(atKey xs k).isSome:=by
  rw[zF3,(r.val k).isSome_eq,Option.isSome_map]
 unfold putK storedH;rw[e]
 by_cases q:(atKey xs k).isSome=true
 ·rw[if_pos q,if_pos q];exact r.repl k ry
 ·rw[if_neg q,if_neg q];exact Paired.snoc r ⟨rfl,hb,ry⟩
theorem KT.keeps {H H':Hp}{kvs:List (List Key×V)}{xs:List (List Key×Addr×Value)}(r:KT H kvs xs)(ht:∀b ys,H b=some (.tup ys)->H' b=some (.tup ys)):KT H' kvs xs :=
 Paired.mapP r fun _ _ z=>⟨z.1,ht _ _ z.2.1,z.2.2⟩
section
variable {P:Program}{w:World}{H:Hp}{h:Heap}{a:Addr}
theorem xL9 {u:HO}(ok:HOk P w H h)(e:Rd H a u):ObjOk P w H h a u:=e.ok ok
theorem yD2 {kvs:List (Key×V)}(ok:HOk P w H h)(e:Rd H a (.dK kvs)):kvs.length<=sizeLine /\ (a==sysModules)=false /\ ∃vs,KV kvs vs /\ h.DictOf (ç P w) a vs :=
 show ObjOk P w H h a (.dK kvs) from xL9 ok e
theorem ψ {kvs:List (Key×V)}(ok:HOk P w H h)(e:H a=some (.dK kvs)):kvs.length<=sizeLine /\ (a==sysModules)=false /\ ∃vs,KV kvs vs /\ h.DictOf (ç P w) a vs:=yD2 ok (.inl e)
theorem zP3 {ks:List Key}(ok:HOk P w H h)(e:H a=some (.tup (ks.map kV))):(tupleKind (ç P w)).is h ks a:=by
 obtain⟨_,its,r,o,h1,h2,n,h3⟩:=(show ObjOk P w H h a (.tup (ks.map kV)) from ok a _ e);exact⟨o,its.toArray,n,h1,h2,h3,by simpa using zY0 r⟩
theorem yD1 {kvs:List (List Key×V)}(ok:HOk P w H h)(e:Rd H a (.dT kvs)):kvs.length<=sizeLine /\ (a==sysModules)=false /\
  ∃xs,KT H kvs xs /\ h.DictOfH (tupleKind (ç P w)) a xs:=by
 obtain⟨z,y,xs,r,o,es,ep,h1,h2,h3,h4,h5⟩:=(show ObjOk P w H h a (.dT kvs) from xL9 ok e);refine⟨z,y,xs,r,o,es,ep,h1,h2,h3,h4,fun x hx=>?_,h5⟩;have all:∀{l:List (List Key×V)} {m:List (List Key×Addr×Value)},KT H l m->∀x∈m,(tupleKind (ç P w)).is h x.1 x.2.1:=by
  intro l m q
  induction q with
  | nil=>intro x hx;exact nomatch hx
  | @cons p q ps qs hq t ih =>
   intro x hx;rcases Ē.mp hx with e | hx
   ·subst e;exact zP3 ok (by rw[<- hq.1];exact hq.2.1)
   ·exact ih x hx
 exact all r x hx
theorem xU6 {kvs:List (List Key×V)}(ok:HOk P w H h)(e:H a=some (.dT kvs)):kvs.length<=sizeLine /\ (a==sysModules)=false /\
  ∃xs,KT H kvs xs /\ h.DictOfH (tupleKind (ç P w)) a xs:=yD1 ok (.inl e)
end
noncomputable def DGet (H:Hp)(a:Addr)(y:V)(r:Option V):Prop :=
 (∃kvs k,Rd H a (.dK kvs) /\ y=kV k /\ r=valV kvs k) \/ ∃kvs k b,Rd H a (.dT kvs) /\ y = .ref b /\ H b=some (.tup (k.map kV)) /\ r=valV kvs k
noncomputable def DPut (H:Hp)(a:Addr)(y v:V)(H':Hp):Prop :=
 (∃kvs k,H a=some (.dK kvs) /\ y=kV k /\ kvs.length<sizeLine /\ H'=upd H a (.dK (putK kvs k v))) \/
 ∃kvs k b,H a=some (.dT kvs) /\ y = .ref b /\ H b=some (.tup (k.map kV)) /\ kvs.length<sizeLine /\ H'=upd H a (.dT (putK kvs k v))
theorem DGet.k {H:Hp}{a:Addr}{kvs:List (Key×V)}{k:Key}(e:H a=some (.dK kvs)):DGet H a (kV k) (valV kvs k):=.inl ⟨kvs,k,.inl e,rfl,rfl⟩
theorem DPut.k {H:Hp}{a:Addr}{kvs:List (Key×V)}{k:Key}{v:V}(e:H a=some (.dK kvs))(hl:kvs.length<sizeLine):DPut H a (kV k) v (upd H a (.dK (putK kvs k v))):=.inl ⟨kvs,k,e,rfl,hl,rfl⟩
section
variable {X:Cx}{pins:List (Addr×Obj)}{σ:St}{H:Hp}{s:Shared}{a:Addr}{y v:V}{u r:Value}{o:Option V}{A:Around}{E:Value->Shared->Prop}
theorem Inv.big (I:Inv X pins σ H s):sysModules<s.heap.objs.size:=by
 have h:mainGlobals<s.heap.objs.size:=(I.mod.glob.keeps I.bk).lt;exact Nat.lt_trans (by decide) h
theorem yV3 {Q:Value->Shared->Prop}(hu:A.units+1<cLine)(I:Inv X pins σ H s)(g:DGet H a y (some v))(ry:RelV y u)(h:∀w' s',Inv X pins σ H s'->RelV v w'->Q w' s') :
  wpAny (model X.prog X.w) A (getItem (.ref a) u) Q E s:=by
 rcases g with⟨kvs,k,e,ey,l⟩ | ⟨kvs,k,b,e,ey,eb,l⟩
 ·subst ey;obtain⟨z,hd,vs,rel,dd⟩:=yD2 I.hok e;obtain⟨w',hw,rw'⟩:=RelO.some_of (v:=v) (o:=valueAt vs k) (by rw[l];exact rel.val k);exact wpAny_getItem_of (yC9 ry) dd.mapOf hw (h w' _ (I.tok _) rw')
 ·subst ey;cases (show u=Value.ref b from ry);obtain⟨z,hd,xs,rel,dd⟩:=yD1 I.hok e;obtain⟨w',hw,rw'⟩:=RelO.some_of (v:=v) (o:=(atKey xs k).map (·.2)) (by rw[l];exact rel.val k);obtain⟨p,hp,hp2⟩:=Option.map_eq_some_iff.mp hw;refine wpAny_getItem_heap (tupleKind_room_in1 hu) (zP3 I.hok eb) dd hp ?_;rw[hp2];exact h w' _ (I.tok _) rw'
theorem d_in {Q:Value->Shared->Prop}(hu:A.units+1<cLine)(I:Inv X pins σ H s)(g:DGet H a y o)(ry:RelV y u)(h:∀s',Inv X pins σ H s'->Q (.bool o.isSome) s') :
  wpAny (model X.prog X.w) A (compareOp .In u (.ref a)) Q E s:=by
 rcases g with⟨kvs,k,e,ey,l⟩ | ⟨kvs,k,b,e,ey,eb,l⟩
 ·subst ey;obtain⟨z,hd,vs,rel,dd⟩:=yD2 I.hok e;refine wpAny_in_of (yC9 ry) hd dd.mapOf ?_;rw[<- (rel.val k).isSome_eq,<- l];exact h _ (I.tok _)
 ·subst ey;cases (show u=Value.ref b from ry);obtain⟨z,hd,xs,rel,dd⟩:=yD1 I.hok e;refine wpAny_in_heap (tupleKind_room_in1 hu) (zP3 I.hok eb) hd dd ?_;have q:=(rel.val k).isSome_eq;rw[Option.isSome_map]at q;rw[<- q,<- l];exact h _ (I.tok _)
theorem xJ6 {Q:Value->Shared->Prop}(hu:A.units+1<cLine)(I:Inv X pins σ H s)(g:DGet H a y o)(ry:RelV y u)(h:∀s',Inv X pins σ H s'->Q (.bool (!o.isSome)) s') :
  wpAny (model X.prog X.w) A (compareOp .NotIn u (.ref a)) Q E s:=by
 rcases g with⟨kvs,k,e,ey,l⟩ | ⟨kvs,k,b,e,ey,eb,l⟩
 ·subst ey;obtain⟨z,hd,vs,rel,dd⟩:=yD2 I.hok e;refine wpAny_notIn_of (yC9 ry) hd dd.mapOf ?_;rw[<- (rel.val k).isSome_eq,<- l];exact h _ (I.tok _)
 ·subst ey;cases (show u=Value.ref b from ry);obtain⟨z,hd,xs,rel,dd⟩:=yD1 I.hok e;refine wpAny_notIn_heap (tupleKind_room_in1 hu) (zP3 I.hok eb) hd dd ?_;have q:=(rel.val k).isSome_eq;rw[Option.isSome_map]at q;rw[<- q,<- l];exact h _ (I.tok _)
theorem yD5 {h':Heap}{t':Nat}{ob:HO}(I:Inv X pins σ H s)(mu:Mut (H a))(hs:Heap.SameBut a s.heap h')(he:∃q,h'.get? a=some q)(new:ObjOk X.prog X.w (upd H a ob) h' a ob) :
  Inv X pins σ (upd H a ob) { s with heap:=h',toks:=t' } :=
 I.write (x:=a) (e:=a) mu (.inl rfl) (fun b q hb z=>(hs.2 b hb).trans z) he new
theorem xD8 {P:Program}{w:World}{H':Hp}{h':Heap}{kvs:List (Key×V)}{vs:List (Key×Value)}(z:kvs.length<=sizeLine)(hd:(a==sysModules)=false)(rel:KV kvs vs)(dd:h'.DictOf (ç P w) a vs) :
  ObjOk P w H' h' a (.dK kvs):=⟨z,hd,vs,rel,dd⟩
theorem yV2 {H':Hp}{Q:Unit->Shared->Prop}(hu:A.units+1<cLine)(I:Inv X pins σ H s)(g:DPut H a y v H')(ry:RelV y u)(rv:RelV v r)(h:∀s',Inv X pins σ H' s'->Q () s') :
  wpAny (model X.prog X.w) A (setItem (.ref a) u r) Q E s:=by
 rcases g with⟨kvs,k,e,ey,l,eH⟩ | ⟨kvs,k,b,e,ey,eb,l,eH⟩
 ·subst ey eH;obtain⟨z,hd,vs,rel,dd⟩:=ψ I.hok e;have hz:vs.length<=sizeLine:=by rw[<- rel.length];exact z
  have hl:(putK kvs k v).length<=sizeLine:=by have:=zA1 kvs k v;lia
  refine wpAny_setItem_pairs (hsz:=hz) (yC9 ry) dd fun h' dd' hs=>h _ ?_;have he:∃q,h'.get? a=some q:=let ⟨q,_,_,hq,_⟩:=dd';⟨q,hq⟩;exact yD5 I (by rw[e];exact True.intro) hs he (xD8 hl hd (rel.put k rv) dd')
 ·subst ey eH;cases (show u=Value.ref b from ry);obtain⟨z,hd,xs,rel,dd⟩:=xU6 I.hok e;have hz:xs.length<=sizeLine:=by rw[<- Paired.length rel];exact z
  have hl:(putK kvs k v).length<=sizeLine:=by have:=zA1 kvs k v;lia
  refine wpAny_setItem_heap (hsz:=hz) (tupleKind_room_in1 hu) (zP3 I.hok eb) dd fun h' dd' hs=>h _ ?_;obtain⟨q,es,ep,hq,h2,h3,h4,_,h5⟩:=dd';refine yD5 I (by rw[e];exact True.intro) hs ⟨q,hq⟩ ⟨hl,hd,_,(rel.put k eb rv).keeps fun c ys ec=>?_,q,es,ep,hq,h2,h3,h4,h5⟩;rw[upd_ne (å ec e (fun z=>nomatch z))];exact ec
end
noncomputable def NoSl (i:Expr):Prop:=∀ov iv,subscripted i false ov iv=operate [ov,iv] (getItem ov iv)
theorem xF3 {prog:Program}{w:World}{A:Around}{E:Value->Shared->Prop}{s:Shared}{env:Env}{value slice:Expr}{pos:Pos}{T id:String}{Q:Value->Shared->Prop}
  (hl:typeLookup (.type T) "__getitem__" = pure (some (.builtin id)))(hs:NoSl slice)
  (h:wpAny (model prog w) A (eval value env) (fun o s₁=>wpAny (model prog w) A (eval slice env) (fun i s₂=>s₂.TypeIs o T /\ wpAny (model prog w) A (getItem o i) Q E s₂) E s₁) E s) :
  wpAny (model prog w) A (eval (.Subscript value slice pos) env) Q E s:=by
 refine Subscript_ (wpAny_mono h (fun o s₁ h₁=>wpAny_mono h₁ (fun i s₂ h₂=>?_) fun _ _ x=>x) fun _ _ x=>x);obtain⟨hT,h₂⟩:=h₂;unfold subscriptTail;refine wpAny_bind ?_;rw[getitemInPython_of_ne hT.not_modules];refine wpAny_bind (wpAny_specialOf hT hl ?_);have fin:wpAny (model prog w) A (subscripted slice false o i) (fun r s₃=>wpAny (model prog w) A (letTemporaryGo value o r >>= fun _=>pure r) Q E s₃) E s₂:=by
  rw[hs o i];exact wpAny_operating (wpAny_mono h₂ (fun r s₃ h₃=>wpAny_bind (wpAny_letTemporaryGo (wpAny_pure h₃))) fun _ _ x=>x)
 first
  | exact wpAny_pure (wpAny_bind fin)
  | exact wpAny_bind (wpAny_pure (wpAny_bind fin))
  | exact wpAny_bind fin
theorem yD3 {X:Cx}{pins:List (Addr×Obj)}{σ:St}{H:Hp}{s:Shared}{a:Addr}{y:V}{o:Option V}(I:Inv X pins σ H s)(g:DGet H a y o):s.TypeIs (.ref a) "dict":=by
 rcases g with⟨kvs,k,e,_,_⟩ | ⟨kvs,k,b,e,_,_,_⟩
 ·obtain⟨_,_,vs,_,dd⟩:=yD2 I.hok e;exact dd.typeIs
 ·obtain⟨_,_,xs,_,dd⟩:=yD1 I.hok e;exact dd.typeIs
noncomputable def xS7 (td ty:TE):TE:=fun σ H Q=>td σ H fun x H1=>ty σ H1 fun y H2=>∃a v,x = .ref a /\ DGet H2 a y (some v) /\ Q v H2
noncomputable def tDIn (ty td:TE):TE:=fun σ H Q=>ty σ H fun y H1=>td σ H1 fun x H2=>∃a o,x = .ref a /\ DGet H2 a y o /\ Q (.bl o.isSome) H2
noncomputable def xF1 (ty td:TE):TE:=fun σ H Q=>ty σ H fun y H1=>td σ H1 fun x H2=>∃a o,x = .ref a /\ DGet H2 a y o /\ Q (.bl (!o.isSome)) H2
noncomputable def xS9 (td ty tv:TE):TS:=fun D σ H=>tv σ H fun v H1=>td σ H1 fun x H2=>ty σ H2 fun y H3=>∃a H4,x = .ref a /\ DPut H3 a y v H4 /\ D.nx σ H4
section
variable {X:Cx}{o i e value:Expr}{pos pos' tpos:Pos}{td ty tv:TE}
theorem Õ (hu:X.A.units+1<cLine)(ho:PE X o td)(hi:PE X i ty)(hs:NoSl i):PE X (.Subscript o i pos) (xS7 td ty):=by
 intro pins s σ H Q I h;refine xF3 PySem.F.slot_dict_getitem.lookup hs (thn (ho pins s σ H _ I h) fun u s1 ⟨x,H1,I1,rx,q1⟩=>thn (hi pins s1 σ H1 _ I1 q1) fun iv s2 ⟨y,H2,I2,ry,a,v,ex,g,q2⟩=>?_);subst ex;obtain rfl:u=Value.ref a:=rx;exact⟨yD3 I2 g,yV3 hu I2 g ry fun w' s3 I3 rw'=>⟨v,H2,I3,rw',q2⟩⟩
theorem yQ7 (hu:X.A.units+1<cLine)(hi:PE X i ty)(ho:PE X o td):PC X .In i o (tDIn ty td):=by
 intro pins s σ H Q I h;refine thn (hi pins s σ H _ I h) fun iv s1 ⟨y,H1,I1,ry,q1⟩=>thn (ho pins s1 σ H1 _ I1 q1) fun u s2 ⟨x,H2,I2,rx,a,ov,ex,g,q2⟩=>?_;subst ex;obtain rfl:u=Value.ref a:=rx;exact d_in hu I2 g ry fun s3 I3=>⟨.bl ov.isSome,H2,I3,rfl,q2⟩
theorem yQ6 (hu:X.A.units+1<cLine)(hi:PE X i ty)(ho:PE X o td):PC X .NotIn i o (xF1 ty td):=by
 intro pins s σ H Q I h;refine thn (hi pins s σ H _ I h) fun iv s1 ⟨y,H1,I1,ry,q1⟩=>thn (ho pins s1 σ H1 _ I1 q1) fun u s2 ⟨x,H2,I2,rx,a,ov,ex,g,q2⟩=>?_;subst ex;obtain rfl:u=Value.ref a:=rx;exact xJ6 hu I2 g ry fun s3 I3=>⟨.bl (!ov.isSome),H2,I3,rfl,q2⟩
theorem ã (hu:X.A.units+1<cLine)(ho:PE X o td)(hi:PE X i ty)(hv:PE X value tv)(hs:swapsWith value (some (.Subscript o i pos')) pos.line X.env=pure false) :
  PS X (.Assign [.Subscript o i pos'] value pos) (xS9 td ty tv):=by
 intro pins s σ H D I h;refine wpAny_Assign_Subscript (thn (hv pins s σ H _ I h) fun r s1 ⟨v,H1,I1,rv,q1⟩=>thn (ho pins s1 σ H1 _ I1 q1) fun u s2 ⟨x,H2,I2,rx,q2⟩=>thn (hi pins s2 σ H2 _ I2 q2) fun iv s3 ⟨y,H3,I3,ry,a,H4,ex,g,q3⟩=>?_) hs;subst ex;obtain rfl:u=Value.ref a:=rx;exact yV2 hu I3 g ry rv fun s4 I4=>⟨σ,H4,I4,q3⟩
end
theorem yI1 {P:Program}{w:World}{H:Hp}(h:Heap)(hb:sysModules<h.objs.size):ObjOk P w H (h.push { cls:=.type "dict",data:=.dict #[] }) h.objs.size (.dK []) :=
 ⟨Ħ _,beq_eq_false_iff_ne.mpr (Ne.symm (Ĥ hb)),[],.nil,Heap.DictOf.new h⟩
noncomputable def xK5:TE:=fun _ H Q=>∀p,H p=none->Q (.ref p) (upd H p (.dK []))
section
variable {X:Cx}{pos:Pos}
theorem ó:PE X (.Dict [] [] pos) xK5:=fun pins s σ H Q I h =>
 wpAny_Dict_empty ⟨.ref s.heap.objs.size,_,I.laid (a:=s.heap.objs.size) (o:=.dK []) (t':=s.toks) (fun _ _ q=>ć _ q) (ą _) (yI1 s.heap I.big),rfl,h _ (I.hok.fresh (ą _))⟩
end
noncomputable def yM4:List (TE×TE)->St->Hp->(List (V×V)->Hp->Prop)->Prop
 | [],_,H,Q=>Q [] H
 | (tk,tv)::r,σ,H,Q=>tk σ H fun x H1=>tv σ H1 fun y H2=>yM4 r σ H2 fun ps H3=>Q ((x,y)::ps) H3
noncomputable abbrev VV:List (V×V)->List (Value×Value)->Prop:=Paired fun p q=>RelV p.1 q.1 /\ RelV p.2 q.2
noncomputable def PPs (X:Cx)(pos:Pos)(keys:List (Option Expr))(values:List Expr)(trs:List (TE×TE)):Prop :=
 ∀(pins:List (Addr×Obj)) (s:Shared) (σ:St) (H:Hp) (Q:List (V×V)->Hp->Prop),Inv X pins σ H s->yM4 trs σ H Q ->
  wpAny (model X.prog X.w) X.A (evalPairs (pairTrees keys values X.env pos)) (fun vs s'=>∃ps H',Inv X pins σ H' s' /\ VV ps vs /\ Q ps H') X.xe s
theorem xG4 {X:Cx}{pos:Pos}:PPs X pos [] [] []:=fun pins s σ H Q I h=>pairTrees_nil_walk ⟨[],H,I,.nil,h⟩
theorem yY2 {X:Cx}{pos:Pos}{k v:Expr}{ks:List (Option Expr)}{vs:List Expr}{tk tv:TE}{trs:List (TE×TE)}(hk:PE X k tk)(hv:PE X v tv)(hr:PPs X pos ks vs trs) :
  PPs X pos (some k::ks) (v::vs) ((tk,tv)::trs):=fun pins s σ H Q I h =>
 pairTrees_cons_walk (thn (hk pins s σ H _ I h) fun u s1 ⟨x,H1,I1,rx,q1⟩=>thn (hv pins s1 σ H1 _ I1 q1) fun w2 s2 ⟨y,H2,I2,ry,q2⟩ =>
  thn (hr pins s2 σ H2 _ I2 q2) fun ws s3 ⟨ps,H3,I3,rel,q3⟩=>⟨(x,y)::ps,H3,I3,.cons ⟨rx,ry⟩ rel,q3⟩)
noncomputable def ζ (kvs more:List (Key×V)):List (Key×V):=more.foldl (fun acc kv=>putK acc kv.1 kv.2) kvs
theorem KV.merge:∀{more:List (Key×V)} {rs:List (Key×Value)} {kvs:List (Key×V)} {vs:List (Key×Value)},KV more rs->KV kvs vs->KV (ζ kvs more) (merged vs rs):=by
 intro more rs kvs vs r;unfold KV at r
 induction r generalizing kvs vs with
 | nil=>intro q;exact q
 | @cons p q ps qs h t ih =>
  intro r0;have e:KV (putK kvs p.1 p.2) (stored vs q.1 q.2):=by
   have:=r0.put p.1 h.2;rw[<- h.1];exact this
  exact ih e
theorem zG2:∀(more kvs:List (Key×V)),(ζ kvs more).length<=kvs.length+more.length
 | [],kvs=>by show kvs.length<=kvs.length+0;lia
 | p::r,kvs=>by
  have h1:=zG2 r (putK kvs p.1 p.2);have h2:=zA1 kvs p.1 p.2;show (ζ (putK kvs p.1 p.2) r).length<=_;rw[ğ];lia
theorem zP6 {P:Program}{w:World}:∀{kvs:List (Key×V)} {ws:List (Value×Value)},VV (kvs.map fun kv=>(kV kv.1,kv.2)) ws->∃rs,Carries (ç P w) ws rs /\ KV kvs rs
 | [],_,r=>by rw[List.map_nil]at r;cases r;exact⟨[],True.intro,.nil⟩
 | p::kvs,_,r=>by
  rw[ĩ]at r;cases r with
  | @cons a b as bs h t =>
   obtain⟨rs,c,q⟩:=zP6 (P:=P) (w:=w) t;obtain⟨b1,b2⟩:=b;exact⟨(p.1,b2)::rs,⟨yC9 h.1,rfl,c⟩,.cons ⟨rfl,h.2⟩ q⟩
noncomputable def xS6 (trs:List (TE×TE)):TE:=fun σ H Q=>∀p,H p=none->yM4 trs σ (upd H p (.dK [])) fun ps H2=>H2 p=some (.dK []) /\ ∃kvs:List (Key×V),ps=kvs.map (fun kv=>(kV kv.1,kv.2)) /\ kvs.length<=15 /\ Q (.ref p) (upd H2 p (.dK (ζ [] kvs)))
theorem xG9 {X:Cx}{pos:Pos}{keys:List (Option Expr)}{values:List Expr}{trs:List (TE×TE)}(h:PPs X pos keys values trs)(hall:keys.all (·.isSome)=true)(hl:keys.length=values.length)(h0:keys≠[])
  (h15:keys.length<=15):PE X (.Dict keys values pos) (xS6 trs):=by
 intro pins s σ H Q I q;have hn:=I.hok.fresh (ą s.heap.objs.size);have I1:=I.laid (a:=s.heap.objs.size) (o:=.dK []) (h':=s.heap.push { cls:=.type "dict",data:=.dict #[] }) (t':=s.toks) (fun _ _ q=>ć _ q) (ą _) (yI1 s.heap I.big);refine wpAny_Dict_walk (knd:=ç X.prog X.w) hall hl h0 h15 (thn (h pins _ σ _ _ I1 (q _ hn)) fun ws s2 ⟨ps,H2,I2,rel,e,kvs,ep,lk,q2⟩=>?_);subst ep;obtain⟨rs,c,rk⟩:=zP6 (P:=X.prog) (w:=X.w) rel;obtain⟨z,hd,vs0,r0,dd⟩:=ψ I2.hok e;cases r0;refine⟨rs,c,dd,fun h' dd' hs=>⟨.ref s.heap.objs.size,_,?_,rfl,q2⟩⟩;have hz:(ζ [] kvs).length<=sizeLine:=by
  have h1:=zG2 kvs [];rw[List.length_nil]at h1;rw[sizeLine_eq];lia
 have he:∃q,h'.get? s.heap.objs.size=some q:=let ⟨q,_,_,hq,_⟩:=dd';⟨q,hq⟩;exact yD5 I2 (by rw[e];exact True.intro) hs he (xD8 hz hd (rk.merge .nil) dd')
structure M2 (X:Cx)(o:Expr)(m:Str)(apos:Pos)(e f:Expr)(cpos:Pos):Prop where
 base:attributeBase o m X.env (eval o X.env)=eval o X.env
 few:((backTo cpos (starEach [e,f] X.env)).all (fun x=>!x.1)&&(backToKw cpos (keywordEach [] X.env)).all (fun x=>x.1.isSome)
  && decide (([e,f]:List Expr).length+([]:List Keyword).length+(if ([]:List Keyword).isEmpty then 0 else 1)<30))=true
 line:(apos.endLine==cpos.line)=true
 trees:backTo cpos (starEach [e,f] X.env)=[(false,eval e X.env),(false,eval f X.env)]
noncomputable def IsD (H:Hp)(a:Addr):Prop:=(∃kvs,Rd H a (.dK kvs)) \/ ∃kvs,Rd H a (.dT kvs)
theorem xP2 {X:Cx}{pins:List (Addr×Obj)}{σ:St}{H:Hp}{s:Shared}{a:Addr}(I:Inv X pins σ H s)(d:IsD H a) :
  s.TypeIs (.ref a) "dict" /\ (∀b,Value.ref a = .ref b->∃ob,s.heap.get? b=some ob /\ ob.dict=none) /\ (a==sysModules)=false:=by
 rcases d with⟨kvs,e⟩ | ⟨kvs,e⟩
 ·obtain⟨_,hd,vs,_,dd⟩:=yD2 I.hok e;refine⟨dd.typeIs,fun b q=>?_,hd⟩;cases q;obtain⟨ob,_,_,h1,h2,_⟩:=dd;exact⟨ob,h1,h2.2.1⟩
 ·obtain⟨_,hd,xs,_,dd⟩:=yD1 I.hok e;refine⟨dd.typeIs,fun b q=>?_,hd⟩;cases q;obtain⟨ob,_,_,h1,h2,_⟩:=dd;exact⟨ob,h1,h2.2.1⟩
section
variable {X:Cx}{pins:List (Addr×Obj)}{σ:St}{H:Hp}{s:Shared}{a:Addr}{y d:V}{u r:Value}{o:Option V}{A:Around}{E:Value->Shared->Prop}
theorem xQ8 {Q:Value->Shared->Prop}(hu:A.units+1<cLine)(I:Inv X pins σ H s)(g:DGet H a y o)(ry:RelV y u)(rd:RelV d r)(h:∀w' s',Inv X pins σ H s'->RelV (o.getD d) w'->Q w' s') :
  wpAny (model X.prog X.w) A (call (.builtin "dict.get") [.ref a,u,r]) Q E s:=by
 rcases g with⟨kvs,k,e,ey,l⟩ | ⟨kvs,k,b,e,ey,eb,l⟩
 ·subst ey;obtain⟨z,hd,vs,rel,dd⟩:=yD2 I.hok e;refine call_meetsIn PySem.F.slot_dict_get dd.typeIs PySem.F.entry_dict_get (PySem.F.args_dict_get_3 _ _ _) (meets_dict_get_default (ç X.prog X.w) a (yC9 ry) hd r) ⟨_,dd.mapOf,h _ _ (I.tok _) ?_⟩;rw[l];exact(rel.val k).getD rd
 ·subst ey;cases (show u=Value.ref b from ry);obtain⟨z,hd,xs,rel,dd⟩:=yD1 I.hok e;refine call_meetsIn PySem.F.slot_dict_get dd.typeIs PySem.F.entry_dict_get (PySem.F.args_dict_get_3 _ _ _) (meetsH_dict_get_default (tupleKind (ç X.prog X.w)) a b hd r) ⟨tupleKind_room_in1 hu,k,xs,zP3 I.hok eb,dd,h _ _ (I.tok _) ?_⟩;rw[l];exact(rel.val k).getD rd
end
noncomputable def xK6 (td ty tx:TE):TE:=fun σ H Q=>td σ H fun x H1=>∃a,x = .ref a /\ IsD H1 a /\ ty σ H1 fun y H2=>tx σ H2 fun z H3=>∃o,DGet H3 a y o /\ Q (o.getD z) H3
section
variable {X:Cx}{o e f:Expr}{apos cpos:Pos}{td ty tx:TE}
theorem yG7 (hu:X.A.units+1<cLine)(ho:PE X o td)(he:PE X e ty)(hf:PE X f tx)(m:M2 X o "get" apos e f cpos):PE X (.Call (.Attribute o "get" apos) [e,f] [] cpos) (xK6 td ty tx):=by
 intro pins s σ H Q I h;refine wpAny_Call_method m.base m.few m.line PySem.F.plainAttrs_dict PySem.F.slot_dict_get PySem.F.type_dict_get (thn (ho pins s σ H _ I h) fun u s1 ⟨x,H1,I1,rx,a,ex,d,q1⟩=>?_);subst ex;obtain rfl:u=Value.ref a:=rx;obtain⟨t1,t2,_⟩:=xP2 I1 d;refine⟨t1,t2,?_⟩;rw[m.trees];refine Calls.callWith_builtin rfl (Calls.evalArgs_plain (Calls.spliced_cons (thn (he pins s1 σ H1 _ I1 q1) fun iv s2 ⟨y,H2,I2,ry,q2⟩ =>
  Calls.spliced_cons (thn (hf pins s2 σ H2 _ I2 q2) fun fv s3 ⟨z,H3,I3,rz,ov,g,q3⟩=>Calls.spliced_nil ?_))))
 exact xQ8 hu I3 g ry rz fun w' s4 I4 rw'=>⟨_,H3,I4,rw',q3⟩
end
end L2
namespace HT
open PySem PyProof.Rows
section
variable {prog:Program}{w:World}{A:Around}{E:Value->Shared->Prop}{s:Shared}
noncomputable def sIx (n d:Nat):Option Int->Nat
 | none=>d
 | some v=>if v<0 then (v+(n:Int)).toNat else min v.toNat n
theorem sIx_nat (n d k:Nat):sIx n d (some (k:Int))=min k n:=by
 show (if (k:Int)<0 then ((k:Int)+(n:Int)).toNat else min (k:Int).toNat n)=min k n;rw[if_neg (by lia),Ő]
theorem xL5 (n d:Nat)(hd:d<=n)(o:Option Int):sIx n d o<=n:=by
 cases o with
 | none=>exact hd
 | some v =>
  show (if v<0 then (v+(n:Int)).toNat else min v.toNat n)<=n
  by_cases hv:v<0
  ·rw[if_pos hv];lia
  ·rw[if_neg hv];exact Nat.min_le_right _ _
theorem yV5 (v:Int)(n d:Nat):(if v<0 then max (v+(n:Int)) 0 else min v (n:Int))=((sIx n d (some v):Nat):Int):=by
 show (if v<0 then max (v+(n:Int)) 0 else min v (n:Int))=(((if v<0 then (v+(n:Int)).toNat else min v.toNat n):Nat):Int)
 by_cases hv:v<0
 ·simp only[if_pos hv];lia
 ·simp only[if_neg hv];lia
theorem yL5 (lo hi:Option Int)(n:Nat):Builtin.Slice.sliceAdjust lo hi 1 (n:Int)=(((sIx n 0 lo:Nat):Int),((sIx n n hi:Nat):Int)):=by
 have h1:¬((1:Int)<0):=by lia
 unfold Builtin.Slice.sliceAdjust;simp only[h1,if_false];refine Prod.ext ?_ ?_
 ·cases lo with
  | none=>rfl
  | some v=>exact yV5 v n 0
 ·cases hi with
  | none=>rfl
  | some v=>exact yV5 v n n
theorem yJ9 (i j:Nat):Builtin.Slice.slicePlaces (i:Int) (j:Int) 1=j - i:=by
 unfold Builtin.Slice.slicePlaces;have h1:(1:Int) > 0:=by lia
 simp only[h1,if_true,Int.ediv_one]
 split<;>lia
theorem zO9 {v:Value}{o:Option Int}{Q:Option Int->Shared->Prop}(p:IsPart v o)(h:Q o s):wpAny (model prog w) A (Builtin.Slice.slicePartIndex v) Q E s:=by
 cases p with
 | none=>exact slicePart_none h
 | int i t=>exact slicePart_int h
theorem zJ6 {sl:Addr}{vl vu:Value}{lo hi:Option Int}{n:Nat}{Q:Int×Int×Nat->Shared->Prop}(hs:s.heap.IsSliceOf sl vl vu .none)(pl:IsPart vl lo)(pu:IsPart vu hi)
  (h:Q (((sIx n 0 lo:Nat):Int),1,sIx n n hi - sIx n 0 lo) s):wpAny (model prog w) A (Builtin.Slice.sliceApplied (.ref sl) (pure (n:Int))) Q E s:=by
 obtain⟨os,hos,hcs,hds⟩:=id hs;unfold Builtin.Slice.sliceApplied Builtin.Slice.sliceFields;refine wpAny_bind (wpAny_bind (wpAny_field hos hds (x:=vl) rfl (wpAny_bind (wpAny_field hos hds (x:=vu) rfl (wpAny_bind (wpAny_field hos hds (x:=.none) rfl (wpAny_pure ?_)))))));refine wpAny_bind (slicePart_none ?_);show wpAny _ _ (if ((1:Int)==0)=true then _ else _) _ _ s;rw[if_neg (by decide)];refine wpAny_bind (zO9 pl (wpAny_bind (zO9 pu (wpAny_bind (wpAny_pure ?_)))));show wpAny _ _ (match Builtin.Slice.sliceAdjust lo hi 1 (n:Int) with | (lo,hi)=>pure (lo,(1:Int),Builtin.Slice.slicePlaces lo hi 1)) _ _ s;rw[yL5 lo hi n];show wpAny _ _ (pure (((sIx n 0 lo:Nat):Int),(1:Int),Builtin.Slice.slicePlaces ((sIx n 0 lo:Nat):Int) ((sIx n n hi:Nat):Int) 1)) _ _ s;rw[yJ9];exact wpAny_pure h
theorem yY3 (xs:Array Value)(i k:Nat):((ę k).filterMap fun (m:Nat)=>xs[((i:Int)+(m:Int)*1).toNat]?).toArray=((xs.toList.drop i).take k).toArray:=by
 have e:(fun (m:Nat)=>xs[((i:Int)+(m:Int)*1).toNat]?)=fun m=>xs[i+m]?:=by
  funext m
  have:((i:Int)+(m:Int)*1).toNat=i+m:=by lia
  rw[this]
 rw[e];have:=pick_run xs i k;rw[List.filterMap_map]at this;have e2:((fun x=>xs[x]?)∘fun x=>i+x)=fun m=>xs[i+m]?:=rfl;rw[e2]at this;rw[this]
theorem getItem_tuple_cut {t sl:Addr}{items:Array Value}{vl vu:Value}{lo hi:Option Int}{Q:Value->Shared->Prop}(ht:IsTup s.heap t items)(hs:s.heap.IsSliceOf sl vl vu .none)(pl:IsPart vl lo)(pu:IsPart vu hi)
  (hw:¬(sIx items.size 0 lo=0 /\ sIx items.size items.size hi=items.size))
  (h:Q (.ref s.heap.objs.size) { s with heap:=s.heap.push { cls:=.type "tuple",data:=.seq ((items.toList.drop (sIx items.size 0 lo)).take (sIx items.size items.size hi - sIx items.size 0 lo)).toArray } })
  (hsz:items.size<=sizeLine):wpAny (model prog w) A (getItem (.ref t) (.ref sl)) Q E s:=by
 have htake:sizeOk (.seq ((items.toList.drop (sIx items.size 0 lo)).take (sIx items.size items.size hi - sIx items.size 0 lo)).toArray):=by
  show ((items.toList.drop (sIx items.size 0 lo)).take (sIx items.size items.size hi - sIx items.size 0 lo)).toArray.size<=sizeLine;rw[ĕ,ċ,Ĩ,Array.length_toList];lia
 have hj:sIx items.size items.size hi<=items.size:=xL5 _ _ (ą _) hi;obtain⟨os,hos,hcs,hds⟩:=id hs;have hTs:s.TypeIs (.ref sl) "slice":=⟨os,hos,hcs⟩;unfold getItem
 try with_reducible refine wpAny_holding ?_
 first | refine wpAny_bind (wpAny_pure ?_) | skip
 refine wpAny_bind (wpAny_sequenceKey ht.typeIs (by decide) ?_);refine wpAny_bind (wpAny_callSpecial?_slot (name:=Str.ofString "__getitem__") ht.typeIs PyProof.Rows.slot_tuple_getitem
  (wpAny_call_entry PyProof.Rows.slot_tuple_getitem ht.typeIs entry_tuple_getitem ?_ (args_tuple_getitem _ _)))
 show wpAny _ _ (Builtin.Tuple.tupleItemsOf (.ref t) >>= _) _ _ s;refine wpAny_bind (tupleItemsOf_ ht ?_);refine wpAny_bind (wpAny_typeOf hTs ?_);rw[if_pos (by decide)];refine wpAny_bind (zJ6 hs pl pu ?_);have hno:¬((((sIx items.size 0 lo:Nat):Int)==0&&(1:Int)==1&&(sIx items.size items.size hi - sIx items.size 0 lo)==items.size)=true):=by
  intro q;rw[Ń,Ń]at q;have q1:((sIx items.size 0 lo:Nat):Int)=0:=eq_of_beq q.1.1;have q2:sIx items.size items.size hi - sIx items.size 0 lo=items.size:=eq_of_beq q.2;exact hw ⟨by lia,by lia⟩
 show wpAny _ _ (if (((sIx items.size 0 lo:Nat):Int)==0&&(1:Int)==1&&(sIx items.size items.size hi - sIx items.size 0 lo)==items.size)=true then _ else _) _ _ s;rw[if_neg hno,yY3]
 first
  | exact wpAny_bind (m:=Builtin.Tuple.tupleExact _) (wpAny_newObj_type (wpAny_pure ⟨_,rfl,wpAny_pure h⟩) htake)
  | exact wpAny_bind (m:=Builtin.Tuple.tupleExact _) (wpAny_newObj_type (wpAny_bind (wpAny_pure (wpAny_pure ⟨_,rfl,wpAny_pure h⟩))) htake)
  | exact wpAny_bind (wpAny_bind (m:=Builtin.Tuple.tupleExact _) (wpAny_newObj_type (wpAny_pure (wpAny_pure ⟨_,rfl,wpAny_pure h⟩)) htake))
  | exact wpAny_bind (wpAny_bind (m:=Builtin.Tuple.tupleExact _) (wpAny_newObj_type (wpAny_pure ⟨_,rfl,wpAny_pure h⟩) htake))
end
end HT
namespace L2
open PySem PySem.Spec PyProof.Rows
noncomputable abbrev TO:=St->Hp->(Option Int->Hp->Prop)->Prop
noncomputable def PO (X:Cx)(e:Option Expr)(t:TO):Prop :=
 ∀(pins:List (Addr×Obj)) (s:Shared) (σ:St) (H:Hp) (Q:Option Int->Hp->Prop),Inv X pins σ H s->t σ H Q ->
  wpAny (model X.prog X.w) X.A (evalPart e X.env) (fun u s'=>∃o H',Inv X pins σ H' s' /\ IsPart u o /\ Q o H') X.xe s
noncomputable def xF0:TO:=fun _ H Q=>Q none H
noncomputable def xS3 (t:TE):TO:=fun σ H Q=>t σ H fun x H1=>∃i,x = .int i /\ Q (some i) H1
section
variable {X:Cx}{e:Expr}{te:TE}{lo hi:Option Expr}{tl th:TO}{pos p2:Pos}
theorem zM3:PO X none xF0:=by
 intro pins s σ H Q I h;rw[evalPart_none];exact wpAny_pure ⟨none,H,I,.none,h⟩
theorem zM2 (h:PE X e te):PO X (some e) (xS3 te):=by
 intro pins s σ H Q I hw;rw[evalPart_some];refine thn (h pins s σ H _ I hw) fun u s1 ⟨x,H1,I1,r1,q1⟩=>?_;obtain⟨i,rfl,q⟩:=q1;obtain⟨t,rfl⟩:=r1;exact⟨some i,H1,I1,.int i t,q⟩
noncomputable def SlR (X:Cx)(r:V->Option Int->Option Int->Hp->VK->Prop):Prop :=
 ∀(pins:List (Addr×Obj)) (s:Shared) (σ:St) (H:Hp) (x:V) (v vl vu:Value) (lo hi:Option Int) (sl:Addr) (Q:VK),Inv X pins σ H s->RelV x v->s.heap.IsSliceOf sl vl vu .none->IsPart vl lo->IsPart vu hi->r x lo hi H Q ->
  ∃T id,typeLookup (.type T) "__getitem__" = pure (some (.builtin id)) /\ s.TypeIs v T /\ wpAny (model X.prog X.w) X.A (getItem v (.ref sl)) (EP X pins σ Q) X.xe s
noncomputable def tSl (r:V->Option Int->Option Int->Hp->VK->Prop)(te:TE)(tl th:TO):TE:=fun σ H Q=>te σ H fun x H1=>tl σ H1 fun l H2=>th σ H2 fun u H3=>r x l u H3 Q
theorem zF9 {r:V->Option Int->Option Int->Hp->VK->Prop}(hr:SlR X r)(he:PE X e te)(hl:PO X lo tl)(hu:PO X hi th):PE X (.Subscript e (.Slice lo hi none p2) pos) (tSl r te tl th):=by
 intro pins s σ H Q I h;refine Subscript_ (thn (he pins s σ H _ I h) fun v s1 ⟨x,H1,I1,r1,q1⟩=>?_);refine wpAny_Slice (thn (hl pins s1 σ H1 _ I1 q1) fun vl s2 ⟨l,H2,I2,pl,q2⟩=>thn (hu pins s2 σ H2 _ I2 q2) fun vu s3 ⟨u,H3,I3,pu,q3⟩=>?_);rw[evalPart_none];refine wpAny_pure ?_;have I4:Inv X pins σ H3 { s3 with heap:=s3.heap.push { cls:=.type "slice",data:=.fields #[vl,vu,.none] } }:=I3.kept (t':=s3.toks) fun b ob q=>ć _ q;obtain⟨T,id,hT,ht,hg⟩:=hr pins { s3 with heap:=s3.heap.push { cls:=.type "slice",data:=.fields #[vl,vu,.none] } } σ H3 x v vl vu l u s3.heap.objs.size Q I4 r1 (Heap.IsSliceOf.new ..) pl pu q3;show wpAny (model X.prog X.w) X.A (subscriptTail e (.Slice lo hi none p2) v (.ref s3.heap.objs.size)) (EP X pins σ Q) X.xe { s3 with heap:=s3.heap.push { cls:=.type "slice",data:=.fields #[vl,vu,.none] } };exact tail_any (ops:=[.ref s3.heap.objs.size,v]) ht hT hg (by with_unfolding_all rfl)
noncomputable def cutV (xs:List V)(lo hi:Option Int):List V:=(xs.drop (HT.sIx xs.length 0 lo)).take (HT.sIx xs.length xs.length hi - HT.sIx xs.length 0 lo)
theorem zN6 (xs:List V)(lo hi:Option Int):(cutV xs lo hi).length<=xs.length:=by
 unfold cutV;rw[ċ,Ĩ];lia
noncomputable def rSlT (K:Ă):V->Option Int->Option Int->Hp->VK->Prop:=fun x lo hi H Q=>∃a xs,x = .ref a /\ SqT K H a xs /\
 ¬(HT.sIx xs.length 0 lo=0 /\ HT.sIx xs.length xs.length hi=xs.length) /\ ∀p,H p=none->Q (.ref p) (upd H p (.tup (cutV xs lo hi)))
theorem xL4:SlR X (rSlT X.K):=by
 intro pins s σ H x v vl vu lo hi sl Q I rx hs pl pu h;obtain⟨a,xs,rfl,hx,hw,q⟩:=h;cases rx;obtain⟨its,r,ht,hz⟩:=I.tuple hx;have hlen:its.toArray.size=xs.length:=by rw[ĕ];exact r.length.symm
 refine⟨"tuple",_,PyProof.Rows.slot_tuple_getitem.lookup,ht.typeIs,?_⟩;refine HT.getItem_tuple_cut ht hs pl pu (by rw[hlen];exact hw) ?_ (by rw[hlen];exact hz);rw[hlen];refine⟨.ref s.heap.objs.size,_,I.laid (t':=s.toks) (o:=.tup (cutV xs lo hi)) (fun b ob q=>ć _ q) (ą _) ?_,rfl,q _ (I.hok.fresh (ą _))⟩;exact⟨Č (zN6 xs lo hi) hz,_,(r.drop (HT.sIx xs.length 0 lo)).take (HT.sIx xs.length xs.length hi - HT.sIx xs.length 0 lo),IsTup.new _ _⟩
end
noncomputable def ixN (n:Nat)(i:Int):Option Nat:=if 0<=i then (if i<n then some i.toNat else none) else if -(n:Int)<=i then some (i+n).toNat else none
noncomputable def atI {α:Type}(xs:List α)(i:Int):Option α:=(ixN xs.length i).bind fun j=>xs[j]?
theorem yT4 {n:Nat}{i:Int}{j:Nat}(h:ixN n i=some j):seqIndex? i n=some j /\ j<n /\ -(n:Int)<=i /\ i<n:=by
 unfold ixN at h
 by_cases h0:0<=i
 ·rw[if_pos h0]at h
  by_cases h1:i<n
  ·rw[if_pos h1]at h;have e:i.toNat=j:=Option.some.inj h;exact⟨by rw[seqIndex_of h0 h1,e],by lia,by lia,h1⟩
  ·rw[if_neg h1]at h;cases h
 ·rw[if_neg h0]at h
  by_cases h1:-(n:Int)<=i
  ·rw[if_pos h1]at h;have e:(i+n).toNat=j:=Option.some.inj h;exact⟨by rw[seqIndex_neg (by lia) h1,e],by lia,h1,by lia⟩
  ·rw[if_neg h1]at h;cases h
theorem yE1 {α:Type}{xs:List α}{i:Int}{v:α}(h:atI xs i=some v):∃j,seqIndex? i xs.length=some j /\ xs[j]?=some v /\ j<xs.length /\ -(xs.length:Int)<=i /\ i<xs.length:=by
 unfold atI at h;cases e:ixN xs.length i with
 | none=>rw[e]at h;cases h
 | some j =>
  rw[e]at h;obtain⟨h1,h2,h3,h4⟩:=yT4 e;exact⟨j,h1,h,h2,h3,h4⟩
theorem ò {α:Type}{xs:List α}{j:Nat}{v:α}(h:xs[j]?=some v):atI xs (j:Int)=some v:=by
 have hj:j<xs.length:=(Ą.mp h).1;have e:ixN xs.length (j:Int)=some j:=by
  unfold ixN;rw[if_pos (by lia),if_pos (by lia)];simp
 unfold atI;rw[e];exact h
theorem xB7 {α:Type}(xs:List α)(v:α):atI (xs++[v]) (-1)=some v:=by
 have hl:(xs++[v]).length=xs.length+1:=by simp
 have e:ixN (xs++[v]).length (-1)=some xs.length:=by
  unfold ixN;rw[hl,if_neg (by decide),if_pos (by lia)]
  congr 1
  lia
 unfold atI;rw[e];show (xs++[v])[xs.length]?=some v;simp
noncomputable def yE4 (b:Expr):Prop:=∀o i,subscripted b false o i=operate [o,i] (getItem o i)
noncomputable def IxR (X:Cx)(r:R2):Prop :=
 ∀(value slice:Expr) (pins:List (Addr×Obj)) (s:Shared) (σ:St) (H:Hp) (x y:V) (v u:Value) (Q:VK),Inv X pins σ H s->RelV x v->RelV y u->r x y H Q ->
  subscripted slice false v u=operate [v,u] (getItem v u)->wpAny (model X.prog X.w) X.A (subscriptTail value slice v u) (EP X pins σ Q) X.xe s
noncomputable def MtR (X:Cx)(id:String)(r:V->List V->Hp->VK->Prop):Prop :=
 ∀(pins:List (Addr×Obj)) (s:Shared) (σ:St) (H:Hp) (x:V) (xs:List V) (v:Value) (us:List Value) (Q:VK),Inv X pins σ H s->RelV x v->Vals xs us->r x xs H Q ->
  wpAny (model X.prog X.w) X.A (call (.builtin id) (v::us)) (EP X pins σ Q) X.xe s
section
variable {X:Cx}{a b:Expr}{ta tb:TE}{pos:Pos}
theorem xG8 {r:R2}(hr:IxR X r)(ha:PE X a ta)(hb:PE X b tb)(hs:yE4 b):PE X (.Subscript a b pos) (tOp r ta tb):=by
 intro pins s σ H Q I h;exact Subscript_ (binT ha hb I h fun v u s2 x y H2 I2 rx ry q=>hr a b pins s2 σ H2 x y v u Q I2 rx ry q (hs _ _))
noncomputable def rIxL (K:Ă):R2:=fun x y H Q=>∃p xs i v,x = .ref p /\ y = .int i /\ SqL K H p xs /\ atI xs i=some v /\ Q v H
noncomputable def rIxT (K:Ă):R2:=fun x y H Q=>∃p xs i v,x = .ref p /\ y = .int i /\ SqT K H p xs /\ atI xs i=some v /\ Q v H
noncomputable def rIxS:R2:=fun x y H Q=>∃z i c,x = .str z /\ y = .int i /\ z.length<=sizeLine /\ atI z.cps.toList i=some c /\ Q (.str ⟨#[c]⟩) H
theorem xI6:IxR X (rIxL X.K):=by
 intro value slice pins s σ H x y v u Q I rx ry h hs;obtain⟨p,xs,i,z,rfl,rfl,hq,he,q⟩:=h;cases rx;obtain⟨t,rfl⟩:=ry;obtain⟨its,r,pl,hz⟩:=I.list hq;obtain⟨j,h1,h2,h3,h4,h5⟩:=yE1 he;obtain⟨w,ew,rw'⟩:=r.get h2;have hl:=r.length;have hn:=zX7;have fin:EP X pins σ Q w s:=⟨z,H,I,rw',q⟩
 by_cases h0:0<=i
 ·have hj:i.toNat=j:=by
   rw[seqIndex_of h0 h5]at h1;exact Option.some.inj h1
  exact item_listR pl.isList h0 (by lia) (by rw[hj];simpa using ew) fin hs
 ·have hj:(i+(its.toArray.size:Int)).toNat=j:=by
   rw[seqIndex_neg (by lia) h4]at h1;rw[ĕ,<- hl];exact Option.some.inj h1
  exact subscriptTail_builtinR (x:=w) pl.isList.typeIs slot_list_getitem.lookup
   (wpAny_getItem_list_neg (Q:=fun r s'=>r=w /\ EP X pins σ Q r s') pl.isList (by lia) (by rw[ĕ]<;>lia) (by lia) (by rw[hj];simpa using ew) ⟨rfl,fin⟩) hs
theorem xP0:IxR X (rIxT X.K):=by
 intro value slice pins s σ H x y v u Q I rx ry h hs;obtain⟨p,xs,i,z,rfl,rfl,hq,he,q⟩:=h;cases rx;obtain⟨t,rfl⟩:=ry;obtain⟨its,r,pl,hz⟩:=I.tuple hq;obtain⟨j,h1,h2,h3,h4,h5⟩:=yE1 he;obtain⟨w,ew,rw'⟩:=r.get h2;have hl:=r.length;have hn:=zX7;have fin:EP X pins σ Q w s:=⟨z,H,I,rw',q⟩;exact subscriptTail_builtinR (x:=w) pl.typeIs slot_tuple_getitem.lookup
  (getItem_tuple (j:=j) (Q:=fun r s'=>r=w /\ EP X pins σ Q r s') pl (by lia) (by lia) (by rw[ĕ,<- hl];exact h1) (by simpa using ew) ⟨rfl,fin⟩) hs
theorem xP1:IxR X rIxS:=by
 intro value slice pins s σ H x y v u Q I rx ry h hs;obtain⟨z,i,c,rfl,rfl,hz,he,q⟩:=h;obtain⟨t,rfl⟩:=rx;obtain⟨t',rfl⟩:=ry;obtain⟨j,h1,h2,h3,h4,h5⟩:=yE1 he;have hl:z.cps.toList.length=z.length:=by simp[Str.length]
 rw[hl]at h1 h4 h5;have hn:=zX7;exact tail_any (typeIs_str s z t) slot_str_getitem.lookup (getItem_str (c:=c) (by
  have e1:decide (i < -(2^63:Int))=false:=decide_eq_false (by lia);have e2:decide (i ≥ 2^63)=false:=decide_eq_false (by lia);rw[e1,e2,Bool.or_false]) (by rw[h1];simpa using h2) ⟨.str ⟨#[c]⟩,H,I.tok _,⟨_,rfl⟩,q⟩) hs
theorem yL0 (its:List Value)(n j:Nat)(u:Value):Obj.mapSeq (·.setIfInBounds j u) { cls:=.type "list",data:=.seq its.toArray n }={ cls:=.type "list",data:=.seq (its.set j u).toArray n }:=by
 simp[Obj.mapSeq]
theorem Inv.lst {pins:List (Addr×Obj)}{σ:St}{H:Hp}{s:Shared}{p:Addr}{xs:List V}(I:Inv X pins σ H s)(h:H p=some (.lst xs)) :
  ∃(its:List Value) (n:Nat),Vals xs its /\ s.heap.get? p=some { cls:=.type "list",data:=.seq its.toArray n } /\ xs.length<=sizeLine:=by
 obtain⟨z,its,n,r,e⟩:=I.hok p _ h;exact⟨its,n,r,e,z⟩
theorem Inv.lstUpd {pins:List (Addr×Obj)}{σ:St}{H:Hp}{s:Shared}{p:Addr}{xs ys:List V}{its its':List Value}{n n':Nat}{f:Obj->Obj}(I:Inv X pins σ H s)(h:H p=some (.lst xs))
  (ho:s.heap.get? p=some { cls:=.type "list",data:=.seq its.toArray n })(hf:f { cls:=.type "list",data:=.seq its.toArray n }={ cls:=.type "list",data:=.seq its'.toArray n' })(r:Vals ys its')(hz:ys.length<=sizeLine)(t:Nat) :
  Inv X pins σ (upd H p (.lst ys)) { s with heap:=s.heap.update p f,toks:=t }:=by
 have e:(s.heap.update p f).get? p=some { cls:=.type "list",data:=.seq its'.toArray n' }:=by
  rw[Heap.get?_update_self f ho (by rw[hf]<;>rfl),hf]
 refine I.write (x:=p) (e:=p) (by rw[h];trivial) (.inl rfl) (fun b u hb q=>(Heap.get?_update_other _ _ (Ne.symm hb)).trans q) ⟨_,e⟩ ?_;exact⟨hz,its',n',r,e⟩
noncomputable def xT3:V->V->V->Hp->(Hp->Prop)->Prop:=fun o i v H Q=>∃p xs k j,o = .ref p /\ i = .int k /\ H p=some (.lst xs) /\ ixN xs.length k=some j /\ Q (upd H p (.lst (xs.set j v)))
theorem yF7:PSet X xT3:=by
 intro pins s σ H o i v ov iv u Q I ro ri rv h;obtain⟨p,xs,k,j,rfl,rfl,hp,hj,q⟩:=h;cases ro;obtain⟨t,rfl⟩:=ri;obtain⟨its,n,r,ho,hz⟩:=I.lst hp;obtain⟨h1,h2,h3,h4⟩:=yT4 hj;have hl:=r.length;have hn:=zX7;have I':Inv X pins σ (upd H p (.lst (xs.set j v))) { s with heap:=s.heap.update p (Obj.mapSeq (·.setIfInBounds j u)) } :=
  I.lstUpd hp ho (yL0 its n j u) (r.set rv j) (by rw[List.length_set];exact hz) s.toks
 by_cases h0:0<=k
 ·have hk:k.toNat=j:=by
   rw[seqIndex_of h0 h4]at h1;exact Option.some.inj h1
  exact PySem.W.ki_setAt ho h0 (by lia) (by rw[ĕ,<- hl];exact h4) (by rw[hk];exact⟨_,I',q⟩)
 ·have hk:(k+(its.toArray.size:Int)).toNat=j:=by
   rw[seqIndex_neg (by lia) h3]at h1;rw[ĕ,<- hl];exact Option.some.inj h1
  exact PySem.W.ki_setBack ho (by lia) (by rw[ĕ,<- hl];exact h3) (by lia) (by rw[hk];exact⟨_,I',q⟩)
theorem zV7 (lo hi:Option Int)(n:Nat):(sliceBounds lo hi none n).1=((HT.sIx n 0 lo:Nat):Int) /\ (sliceBounds lo hi none n).2.1=((HT.sIx n n hi:Nat):Int) /\ (sliceBounds lo hi none n).2.2=1:=by
 refine⟨?_,?_,rfl⟩
 ·cases lo with
  | none=>simp[sliceBounds,HT.sIx]
  | some i =>
   simp only[sliceBounds,HT.sIx,Option.getD_none,show (1:Int) > 0 by decide,if_true]
   by_cases h:i<0
   ·simp only[h,if_true]<;>lia
   ·simp only[h,if_false]<;>lia
 ·cases hi with
  | none=>simp[sliceBounds,HT.sIx]
  | some i =>
   simp only[sliceBounds,HT.sIx,Option.getD_none,show (1:Int) > 0 by decide,if_true]
   by_cases h:i<0
   ·simp only[h,if_true]<;>lia
   ·simp only[h,if_false]<;>lia
theorem zQ5 (its:List Value)(lo hi:Option Int):slicePick its.toArray lo hi none=((its.drop (HT.sIx its.length 0 lo)).take (HT.sIx its.length its.length hi - HT.sIx its.length 0 lo)).toArray:=by
 obtain⟨h1,h2,h3⟩:=zV7 lo hi its.toArray.size;unfold slicePick;rw[h1,h2,h3];simp only[sliceRange_one,pick_run,ĕ]<;>rfl
noncomputable def rSlL (K:Ă):V->Option Int->Option Int->Hp->VK->Prop:=fun x lo hi H Q=>∃a xs,x = .ref a /\ SqL K H a xs /\ ∀p,H p=none->Q (.ref p) (upd H p (.lst (cutV xs lo hi)))
theorem xF6:SlR X (rSlL X.K):=by
 intro pins s σ H x v vl vu lo hi sl Q I rx hs pl pu h;obtain⟨a,xs,rfl,hx,q⟩:=h;cases rx;obtain⟨its,r,ht,hz⟩:=I.list hx;have hlen:=r.length;refine⟨"list",_,slot_list_getitem.lookup,ht.isList.typeIs,?_⟩;refine wpAny_getItem_list_slice ht.isList hs pl pu .none (by simp) ?_ (by rw[ĕ]<;>lia);rw[zQ5,<- hlen];refine⟨.ref s.heap.objs.size,_,I.laid (t':=s.toks) (o:=.lst (cutV xs lo hi)) (fun b ob q=>ć _ q) (ą _) ?_,rfl,q _ (I.hok.fresh (ą _))⟩;exact⟨Č (zN6 xs lo hi) hz,_,0,(r.drop (HT.sIx xs.length 0 lo)).take (HT.sIx xs.length xs.length hi - HT.sIx xs.length 0 lo),ē _ rfl⟩
theorem zZ1:Φ X (.type "list") (fun xs H Q=>∃p ys,xs=[.ref p] /\ (SqL X.K H p ys \/ SqT X.K H p ys) /\ ∀l,H l=none->Q (.ref l) (upd H l (.lst ys))):=by
 intro pins s σ H xs us Q I r h;obtain⟨p,ys,rfl,hq,q⟩:=h;obtain⟨u,rfl,rx⟩:=ι r;cases rx;have fin:∀(its:List Value),Vals ys its->ys.length<=sizeLine->∀(h':Heap) (c':Nat),(∀b o',s.heap.get? b=some o'->h'.get? b=some o') ->
   h'.get? s.heap.objs.size=some { cls:=.type "list",dict:=none,data:=.seq its.toArray c',slots:=#[] }->EP X pins σ Q (.ref s.heap.objs.size) { s with heap:=h' }:=fun its r' hz h' c' kp e =>
  ⟨.ref s.heap.objs.size,_,I.laid (t':=s.toks) kp (ą _) (show ObjOk X.prog X.w _ h' _ (.lst ys) from⟨hz,its,c',r',e⟩),rfl,q _ (I.hok.fresh (ą _))⟩
 rcases hq with hq | hq
 ·obtain⟨its,r',pl,hz⟩:=I.list hq;have hlen:=r'.length;obtain⟨o,ho,hc,n,hd⟩:=pl.isList;exact call_list_seq p (.inl rfl) ho hc hd (fun h' c' kp e=>fin its r' hz h' c' kp e) (by simp only[ĕ]<;>lia)
 ·obtain⟨its,r',pl,hz⟩:=I.tuple hq;have hlen:=r'.length;obtain⟨o,ho,hc,n,hd⟩:=pl;exact call_list_seq p (.inr rfl) ho hc hd (fun h' c' kp e=>fin its r' hz h' c' kp e) (by simp only[ĕ]<;>lia)
noncomputable def tyV (K:Ă)(T:String)(x:V)(H:Hp):Prop:=match x with
 | .str _=>T = "str"
 | .int _=>T = "int"
 | .ref p=>(T = "list" /\ ∃xs,SqL K H p xs) \/ (T = "tuple" /\ ∃o,K.lookup p=some o /\ o.cls = .type "tuple" /\ o.dict=none) \/
   (T = "dict" /\ ((∃kvs,H p=some (.dK kvs)) \/ ∃kvs,H p=some (.dT kvs))) \/ (T = "set" /\ ∃S n,H p=some (.set S n))
 | _=>False
theorem xC3 {pins:List (Addr×Obj)}{σ:St}{H:Hp}{s:Shared}{T:String}{x:V}{v:Value}(I:Inv X pins σ H s)(r:RelV x v)(ty:tyV X.K T x H) :
  s.TypeIs v T /\ ∀a,v = .ref a->∃ob,s.heap.get? a=some ob /\ ob.dict=none:=by
 cases x with
 | str z =>
  obtain⟨t,rfl⟩:=r;cases (show T = "str" from ty);exact⟨typeIs_str s z t,fun _ e=>nomatch e⟩
 | int i =>
  obtain⟨t,rfl⟩:=r;cases (show T = "int" from ty);exact⟨typeIs_int s i t,fun _ e=>nomatch e⟩
 | ref p =>
  cases r;rcases ty with⟨rfl,xs,hq⟩ | ⟨rfl,o,hk,hc,hd⟩ | ⟨rfl,hk⟩ | ⟨rfl,S,n,hk⟩
  ·obtain⟨its,_,pl,_⟩:=I.list hq;refine⟨pl.isList.typeIs,fun a e=>?_⟩;cases e;obtain⟨o,n,e,c,hd,_⟩:=pl;exact⟨o,e,hd⟩
  ·refine⟨⟨o,I.kIn p o hk,hc⟩,fun a e=>?_⟩;cases e;exact⟨o,I.kIn _ o hk,hd⟩
  ·have z:∃o,s.heap.get? p=some o /\ o.ExactDict:=by
    rcases hk with⟨kvs,hk⟩ | ⟨kvs,hk⟩
    ·obtain⟨_,_,_,_,o,_,_,e,ex,_⟩:=I.hok p _ hk;exact⟨o,e,ex⟩
    ·obtain⟨_,_,_,_,o,_,_,e,ex,_⟩:=I.hok p _ hk;exact⟨o,e,ex⟩
   obtain⟨o,e,ex⟩:=z;refine⟨⟨o,e,ex.1⟩,fun a e2=>?_⟩;cases e2;exact⟨o,e,ex.2.1⟩
  ·obtain⟨o,_,_,_,e,ex,_⟩:=I.hok p _ hk;refine⟨⟨o,e,ex.1⟩,fun a e2=>?_⟩;cases e2;exact⟨o,e,ex.2.1⟩
 | _=>exact False.elim ty
noncomputable def tBM0 (K:Ă)(T:String)(r:V->List V->Hp->VK->Prop)(to:TE):TE:=fun σ H Q=>to σ H fun x H1=>tyV K T x H1 /\ r x [] H1 Q
noncomputable def tBM (K:Ă)(T:String)(r:V->List V->Hp->VK->Prop)(to:TE)(t:TA):TE:=fun σ H Q=>to σ H fun x H1=>tyV K T x H1 /\ t σ H1 fun xs H2=>r x xs H2 Q
variable {o e:Expr}{es:List Expr}{to:TE}{t:TA}{name:Str}{apos cpos:Pos}{T id:String}{r:V->List V->Hp->VK->Prop}
theorem xM8 (pa:PlainAttrs T)(slot:Slot T name id)(hty:typeOf (.builtin id)=pure (.type "method_descriptor"))(hm:MtR X id r)(ho:PE X o to)
  (hbase:attributeBase o name X.env (eval o X.env)=eval o X.env:=by rfl)(hline:(apos.endLine==cpos.line)=true:=by rfl):PE X (.Call (.Attribute o name apos) [] [] cpos) (tBM0 X.K T r to):=by
 intro pins s σ H Q I h;refine wpAny_Call_method0_late hbase hline (thn (ho pins s σ H _ I h) fun v s1 ⟨x,H1,I1,r1,ty,q1⟩=>?_);obtain⟨h1,h2⟩:=xC3 I1 r1 ty;exact⟨T,id,pa,slot,hty,h1,h2,Calls.callWith_builtin rfl (PySem.evalArgs_none (hm pins s1 σ H1 x [] v [] Q I1 r1 .nil q1))⟩
theorem θ (pa:PlainAttrs T)(slot:Slot T name id)(hty:typeOf (.builtin id)=pure (.type "method_descriptor"))(hm:MtR X id r)(ho:PE X o to)(ha:PA X (e::es) t)
  (hbase:attributeBase o name X.env (eval o X.env)=eval o X.env:=by rfl)
  (hfew:((backTo cpos (starEach (e::es) X.env)).all (fun x=>!x.1)&&(backToKw cpos (keywordEach [] X.env)).all (fun x=>x.1.isSome)
   && decide ((e::es).length+([]:List Keyword).length+(if ([]:List Keyword).isEmpty then 0 else 1)<30))=true:=by rfl)
  (hline:(apos.endLine==cpos.line)=true:=by rfl)(hs:starEach (e::es) X.env=(false,eval e X.env)::starEach es X.env:=by rfl)(hplain:(backTo cpos (starEach es X.env)).any (·.1)=false:=by rfl) :
  PE X (.Call (.Attribute o name apos) (e::es) [] cpos) (tBM X.K T r to t):=by
 intro pins s σ H Q I h;refine wpAny_Call_method_late hbase hfew hline rfl (thn (ho pins s σ H _ I h) fun v s1 ⟨x,H1,I1,r1,ty,q1⟩=>?_);obtain⟨h1,h2⟩:=xC3 I1 r1 ty;refine⟨T,id,pa,slot,hty,h1,h2,?_⟩;have hA:=ha cpos pins s1 σ H1 _ I1 q1;rw[hs]at hA ⊢;refine Calls.callWith_builtin (by show (false||(backTo cpos (starEach es X.env)).any (·.1))=false;rw[hplain]<;>rfl) (Calls.evalArgs_plain ?_);exact thn hA fun us s2 ⟨vs,H2,I2,r2,q2⟩=>hm pins s2 σ H2 x vs v us Q I2 r1 r2 q2
end
noncomputable def MtM (X:Cx)(id:String)(r:V->List V->Hp->VK->Prop):Prop :=
 ∀(pins:List (Addr×Obj)) (s:Shared) (σ:St) (H:Hp) (x:V) (xs:List V) (v:Value) (us:List Value) (Q:VK),Inv X pins σ H s->RelV x v->Vals xs us->r x xs H Q ->
  wpAny (model X.prog X.w) X.A (call (.builtin id) (v::us)) (EP X pins σ Q) X.xe s
theorem Vals.one:∀{x:V} {us:List Value},Vals [x] us->∃u,us=[u] /\ RelV x u
 | _,_,.cons r .nil=>⟨_,rfl,r⟩
theorem Vals.zero:∀{us:List Value},Vals [] us->us=[]
 | _,.nil=>rfl
theorem Vals.reverse {xs:List V}{us:List Value}(h:Vals xs us):Vals xs.reverse us.reverse:=by
 induction h with
 | nil=>exact .nil
 | cons r t ih=>rw[List.reverse_cons,List.reverse_cons];exact Vals.append ih (.cons r .nil)
section
variable {X:Cx}{pins:List (Addr×Obj)}{σ:St}{H:Hp}{s:Shared}{l b:Addr}{xs ys zs:List V}
theorem Inv.lset {its its':List Value}{n:Nat}{f:Array Value->Array Value}{t':Nat}(I:Inv X pins σ H s)(hH:H l=some (.lst xs))
  (e:s.heap.get? l=some { cls:=.type "list",data:=.seq its.toArray n })(hf:f its.toArray=its'.toArray)(hv:Vals ys its')(hz:ys.length<=sizeLine) :
  Inv X pins σ (upd H l (.lst ys)) { s with heap:=s.heap.update l (Obj.mapSeq f),toks:=t' }:=by
 have q:=PySem.IsL.update e f;rw[hf]at q;refine I.write (x:=l) (e:=l) (by rw[hH];exact trivial) (.inl rfl) (fun b' u hb hu=>(Heap.get?_update_other s.heap (Obj.mapSeq f) (Ne.symm hb)).trans hu) ⟨_,q⟩ ?_;exact⟨hz,its',_,hv,q⟩
theorem Inv.lnew {its:List Value}{t':Nat}(I:Inv X pins σ H s)(hv:Vals ys its)(hz:ys.length<=sizeLine) :
  Inv X pins σ (upd H s.heap.objs.size (.lst ys)) { s with heap:=s.heap.push { cls:=.type "list",data:=.seq its.toArray },toks:=t' } :=
 I.laid (fun _ _ q=>ć _ q) (ą _) ⟨hz,its,0,hv,ē _ rfl⟩
theorem Inv.fresh (I:Inv X pins σ H s):H s.heap.objs.size=none:=I.hok.fresh (ą _)
theorem Inv.lstM (I:Inv X pins σ H s)(hH:H l=some (.lst xs)):xs.length<=sizeLine /\ ∃(its:List Value) (n:Nat),Vals xs its /\ xs.length=its.length /\ s.heap.get? l=some { cls:=.type "list",data:=.seq its.toArray n }:=by
 obtain⟨z,its,n,r,e⟩:=I.hok l _ hH;exact⟨z,its,n,r,r.length,e⟩
end
section
variable {X:Cx}
noncomputable def xG2:V->List V->Hp->VK->Prop:=fun x vs H Q=>∃l xs y,x = .ref l /\ vs=[y] /\ H l=some (.lst xs) /\ xs.length<sizeLine /\ Q .non (upd H l (.lst (xs++[y])))
theorem è:MtM X "list.append" xG2:=by
 intro pins s σ H x vs v us Q I rx rv h;obtain⟨l,xs,y,rfl,rfl,hH,hz,q⟩:=h;cases rx;obtain⟨u,rfl,ru⟩:=rv.one;obtain⟨z,its,n,r,hl,e⟩:=I.lstM hH;refine call_meets F.slot_list_append ⟨_,e,rfl⟩ F.entry_list_append (F.args_list_append_2 _ _) (PySem.list_append l its.toArray n u (by rw[ĕ];lia)) ⟨e,?_⟩;refine⟨.non,_,I.lset (its':=its++[u]) hH e (by simp) (r.append (.cons ru .nil)) ?_,rfl,q⟩;rw[Ď,List.length_singleton];lia
noncomputable def yX9:V->List V->Hp->VK->Prop:=fun x vs H Q=>∃l xs,x = .ref l /\ vs=[] /\ H l=some (.lst xs) /\ Q .non (upd H l (.lst xs.reverse))
theorem yK9:MtM X "list.reverse" yX9:=by
 intro pins s σ H x vs v us Q I rx rv h;obtain⟨l,xs,rfl,rfl,hH,q⟩:=h;cases rx;have hus:=rv.zero;subst hus;obtain⟨z,its,n,r,hl,e⟩:=I.lstM hH;refine call_meets F.slot_list_reverse ⟨_,e,rfl⟩ F.entry_list_reverse (F.args_list_reverse_1 _) (AutoSeq1.list_reverse_list_0 l its.toArray n (by rw[ĕ];lia)) ⟨e,?_⟩;refine⟨.non,_,I.lset (its':=its.reverse) hH e (by simp) r.reverse ?_,rfl,q⟩;rw[List.length_reverse];lia
noncomputable def rCat:R2:=fun x y H Q=>∃l b xs zs,x = .ref l /\ y = .ref b /\ H l=some (.lst xs) /\ H b=some (.lst zs) /\ xs.length+zs.length<=sizeLine /\ ∀p,H p=none->Q (.ref p) (upd H p (.lst (xs++zs)))
theorem zW9:OpR X (binaryOp .Add) rCat:=by
 intro pins s σ H x y v u Q I rx ry h;obtain⟨l,b,xs,zs,rfl,rfl,hH,hB,hz,q⟩:=h;cases rx;cases ry;obtain⟨z,its,n,r,hl,e⟩:=I.lstM hH;obtain⟨z2,its2,n2,r2,hl2,e2⟩:=I.lstM hB;refine PySem.P.add_list e e2 ?_ (by rw[ĕ,ĕ];lia);have ea:its.toArray++its2.toArray=(its++its2).toArray:=by simp
 rw[ea];exact⟨.ref _,_,I.lnew (t':=s.toks) (r.append r2) (by rw[Ď];lia),rfl,q _ I.fresh⟩
end
end L2
namespace Att
open PySem PySem.W PySem.Calls PyProof.Rows
theorem zN3 {P:Params}{h:Heap}:∀(ns:List Int) (vs:List Value),WellAll P h vs (ns.map WData.int)->IntsAre vs ns:=by
 intro ns
 induction ns with
 | nil =>
  intro vs w;rw[List.map_nil]at w;cases w;exact .nil
 | cons n ns ih =>
  intro vs w;rw[ĩ]at w;cases w with
  | cons a b =>
   cases a;exact .cons _ _ (ih _ b)
theorem yO1 {l:OpenLaw}{n:Nat}(hn:l.most=some n){P:Params}{h:Heap}{args:List WData}{vals:List Value}
  (hpre:l.row.toRowW.claim.pre args=true)(hwl:WellAll P h vals args) :
  ∃a vs ns,vals=[Value.ref a] /\ args=[WData.list (ns.map WData.int)] /\ h.get? a=some { cls:=.type "list",data:=.seq vs.toArray } /\ IntsAre vs ns /\ ns.length<=n:=by
 have hsh:WShape.hasAll [] args [.list .int]=true:=(pre_splitW hpre).1;have hc:l.pre.holds [] { args:=args }=true:=(pre_splitW hpre).2;obtain⟨d,r,rfl,h1,h2⟩:=hasAllW_cons hsh;obtain rfl:=hasAllW_nil h2;obtain⟨xs,rfl,h3⟩:=hasW_list h1;obtain⟨ns,rfl⟩:=items_int h3;have hlen:ns.length<=n:=by
  unfold OpenLaw.pre at hc;have h4:(WTm.not (.lt (.lit (.int (n:Int))) (.len (.arg 0)))).holds [] { args:=[.list (ns.map .int)] }=true:=by
   have h4:=(holds_andW hc).1;rw[hn]at h4;exact h4
  have h5:=condW_of h4 (w_not (w_lt w_lit (w_len_list (w_arg rfl))));rw[ā]at h5;refine Nat.le_of_not_lt fun q=>?_;have q':(n:Int)<((ns.length:Nat):Int):=by lia
  first
   | (rw[decide_eq_true q']at h5;exact absurd h5 (by decide))
   | (simp at h5;lia)
 cases hwl with
 | cons w1 w2 =>
  cases w2;cases w1 with
  | list ho hall=>exact⟨_,_,ns,rfl,rfl,ho,zN3 ns _ hall,hlen⟩
theorem yP9 (l:OpenLaw)(args:List WData):l.row.toRowW.claim.post args (.bool true) args=true :=
 postW_of (r:=l.row.toRowW) (X:=(true==true))
  (show WShape.has [] (.bool true) .bool=true by first | rfl | decide | simp[WShape.has,WShape.arms,WShape.armsAll])
  (show (WTm.eq .res (.lit (.bool true))).value [] { args:=args,res:=some (.bool true),after:=args }=some (.bool (true==true)) from w_eq_bool (w_res rfl) w_lit) rfl
theorem attach_call {l:OpenLaw}{n:Nat}{q:Program}{loose:List Str}{XP:(Str->Option Value)->Heap->Prop}{YP:World->Heap->Prop}{d:DefRec}
  (hn:l.most=some n)(hdf:d.params.defaults=[])
  (call:∀(w:World) (s₀ s₁:Shared) (mg mb:Str->Option Value) (fa:Addr) (o:Obj) (pm cd doc:Value) (a:Addr) (vs:List Value) (ns:List Int),
   Ground q loose [] XP w s₀ mg mb s₁.heap->YP w s₁.heap ->
   s₁.heap.get? fa=some o->o.data = .func (docDef d.name d.params d.body d.scope pm cd doc)->s₁.heap.CodeRec cd d.name->mg d.name=some (.ref fa) ->
   s₁.heap.get? a=some { cls:=.type "list",data:=.seq vs.toArray }->IntsAre vs ns->ns.length<=n->s₁.gens=#[] ->
   codeAny (model l.prog w) callerA (.call (.ref fa) ⟨[.ref a],[]⟩) (fun r s'=>r = .ok (.ret (.bool true)) /\ OldK s₁.heap s'.heap /\ s'.os=s₁.os /\ AllBare s'.gens) s₁) :
  WalkO q loose XP YP l.row.toRowW d [] (fun f vs=>PySem.call f vs):=by
 intro w s₀ s₁ mg mb G Y fa o pm cd doc dV kV ho hd hcd hD hmg hg args vals as hpre hlay hrd hwl hlo;obtain rfl:dV = .none:=Dflts.none hD hdf;obtain rfl:kV = .none:=Dflts.noKw hD;obtain⟨a,vs,ns,rfl,rfl,hobj,hints,hlen⟩:=yO1 hn hpre hwl;refine enter_call (codeAny_mono (call w s₀ s₁ mg mb fa o pm cd doc a vs ns G Y ho (fd_plain hd) hcd hmg hobj hints hlen hg) fun r s' hq=>?_);obtain⟨rfl,h2,h3,h4⟩:=hq;exact⟨.inl ⟨.bool true,.bool true,[],rfl,fun _=>rfl,.bool true,yP9 l _,fun _=>⟨List.Pairwise.nil,fun _ hm=>(nomatch hm)⟩⟩,h2,h3,h4⟩
end Att
namespace L2
open PySem PySem.Spec PyProof.Rows
theorem zU4:∀{vs:List Value} {ns:List Int},IntsAre vs ns->Vals (ns.map V.int) vs
 | _,_,.nil=>.nil
 | _,_,.cons n t h=>.cons ⟨t,rfl⟩ (zU4 h)
noncomputable def Only (H:Hp):Prop:=∀b,H b=none \/ ∃o xs,H b=some (.frz o (.lst xs))
theorem yZ7 {P:Program}{w:World}{K:Ă}{mg mb:Str->Option Value}{CX:CXT}{k:Nat}{fa a:Addr}{fd:FuncData}{x:Str}{sp:Sp}{s₁:Shared}{vs:List Value}{ns:List Int}
  (KX:K.In s₁.heap)(hns:s₁.heap.Ns mainGlobals mg)(hb:s₁.heap.Ns builtinsNs mb)(hbb:∀x:Str,x ≠ "__name__"->mb x=bootBuiltins x)(hlim:s₁.heap.NoLimit)(hg:s₁.gens=#[])
  (ha:s₁.heap.get? a=some { cls:=.type "list",data:=.seq vs.toArray })(hi:IntsAre vs ns)(hl:ns.length<=sizeLine)(hr:Room k callerA)
  (F:∀base:Heap,K.In base->base.Ns mainGlobals mg->FnOk P w K mg base CX k fa fd [x] sp)(hbind:∀(s:Shared) (u:Value),BindsTo s fd ⟨[u],[]⟩ [(x,u)])
  (hsp:∀H:Hp,Only H->SqL K H a (ns.map V.int)->sp [.ref a] H (fun v _=>v = .bl true) fun _ _ _=>False)
  (hCX:∀H e s',CX [] H s₁ (fun _ _ _=>False) e s'->False) :
  codeAny (model P w) callerA (.call (.ref fa) ⟨[.ref a],[]⟩) (fun r s'=>r = .ok (.ret (.bool true)) /\ OldK s₁.heap s'.heap /\ s'.os=s₁.os /\ AllBare s'.gens) s₁:=by
 have rv:=zU4 hi;have lenV:=hi.length;have core:∀H:Hp,Only H->SqL K H a (ns.map V.int)->HOk P w H s₁.heap->(∀b,H b≠none->b=a)->(H a≠none->K.lookup a=none) ->
   codeAny (model P w) callerA (.call (.ref fa) ⟨[.ref a],[]⟩) (fun r s'=>r = .ok (.ret (.bool true)) /\ OldK s₁.heap s'.heap /\ s'.os=s₁.os /\ AllBare s'.gens) s₁:=by
  intro H hO hS hok hA hK;have base_of:∀{b:Addr} {o:Obj},s₁.heap.get? b=some o->H b=none->(hidT s₁.heap H).get? b=some o:=fun e n=>xA3 e n;have noA:∀{b:Addr} {o:Obj} {es:Array DictEntry} {ep:Nat},s₁.heap.get? b=some o->o.data = .dict es ep->H b=none:=fun {b o es ep} e d=>by
   cases q:H b with
   | none=>rfl
   | some u =>
    have e':b=a:=hA b (by rw[q];simp);subst e';rw[ha]at e;cases e;have d':Data.seq vs.toArray _=Data.dict es ep:=d;cases d'
  have nsK:∀{b:Addr} {m:Str->Option Value},s₁.heap.Ns b m->(hidT s₁.heap H).Ns b m:=fun {b m} ⟨o,es,ep,e,d,r⟩=>⟨o,es,ep,base_of e (noA e d),d,r⟩;have hKb:K.In (hidT s₁.heap H):=fun b o e=>base_of (KX b o e) (by
   cases q:H b with
   | none=>rfl
   | some u =>
    have e':b=a:=hA b (by rw[q];simp);subst e';rw[hK (by rw[q];simp)]at e;cases e)
  have hM:Mod K mg (hidT s₁.heap H):=⟨hKb,nsK hns,⟨mb,nsK hb,hbb⟩,let ⟨mc,h1,h2⟩:=hlim;⟨mc,nsK h1,h2⟩⟩;have e0:Env0 P w K mg (hidT s₁.heap H) callerA [] s₁ H:=⟨rfl,hM,fun b o e=>xH8 e,Nat.le_of_eq (yU1 _ _),trivial,fun b hb=>absurd (show b∈([]:List Addr) from hb) (by simp),hok,.of_eq hg⟩;refine codeAny_mono ((F _ hKb (nsK hns)).run callerA [] s₁ H ⟨[.ref a],[]⟩ [.ref a] [.ref a] _ _ hr e0 (hbind s₁ (.ref a)) (.cons rfl .nil) (hsp H hO hS)) fun r s' h=>?_;cases r with
  | error e=>exact(hCX H e s' h).elim
  | ok fl =>
   cases fl with
   | next=>exact False.elim h
   | brk=>exact False.elim h
   | cont=>exact False.elim h
   | ret u =>
    obtain⟨v,H',os,bare,un,hok',r',q⟩:=h;have q':v = .bl true:=q;subst q';obtain rfl:u=Value.bool true:=r';refine⟨rfl,OldK.of_keep fun b o e=>?_,os,bare⟩;cases q:H b with
    | none=>exact un.keep b o e q (by intro z;exact absurd (show b∈([]:List Addr) from z) (by simp)) (by simp)
    | some u =>
     rcases hO b with z | ⟨ob,xs,z⟩
     ·rw[q]at z;cases z
     ·have z2:=un.frzs b ob _ z;obtain⟨e1,_⟩:=hok b _ z;obtain⟨e2,_⟩:=hok' b _ z2;rw[e]at e1;cases e1;exact e2
 cases hk:K.lookup a with
 | some o =>
  have e:=KX a o hk;rw[ha]at e;cases e;refine core (fun _=>none) (fun _=>.inl rfl) (.inr ⟨_,vs.toArray,_,hk,rfl,rfl,rfl,by rw[ĕ,lenV];exact hl,by simpa using rv⟩) (fun b u z=>by have z':(none:Option HO)=some u:=z;cases z') (fun b z=>absurd rfl z) fun z=>absurd rfl z
 | none =>
  refine core (fun b=>if b=a then some (.frz { cls:=.type "list",data:=.seq vs.toArray } (.lst (ns.map V.int))) else none) (fun b=>?_) (.inl (.inr ⟨{ cls:=.type "list",data:=.seq vs.toArray },if_pos rfl⟩)) (fun b u z=>?_) (fun b z=>?_) fun _=>hk
  ·by_cases hb:b=a
   ·exact .inr ⟨_,_,if_pos hb⟩
   ·exact .inl (if_neg hb)
  ·by_cases hb:b=a
   ·have z':=(if_pos hb).symm.trans z;cases z';subst hb;exact⟨ha,by rw[ā];exact hl,vs,_,rv,ha⟩
   ·have z':=(if_neg hb).symm.trans z;cases z'
  ·by_cases hb:b=a
   ·exact hb
   ·exact absurd (if_neg hb) z
theorem walk_of {l:PySem.W.OpenLaw}{n k:Nat}{q:Program}{loose:List Str}{XP:(Str->Option Value)->Heap->Prop}{YP:World->Heap->Prop}{d:DefRec}{K:Params->Ă}{CX:World->CXT}{sp:World->Sp}{x:Str}
  (hn:l.most=some n)(hn2:n<=sizeLine)(hdf:d.params.defaults=[])(hr:Room k callerA)
  (hY:∀(w:World) (h:Heap),YP w h->(K w.params).In h)
  (F:∀(w:World) (mg:Str->Option Value) (fa:Addr) (h:Heap),(K w.params).In h->h.Ns mainGlobals mg->mg d.name=some (.ref fa) ->
   ∃fd:FuncData,(∀(s:Shared) (u:Value),BindsTo s fd ⟨[u],[]⟩ [(x,u)]) /\
    ∀base:Heap,(K w.params).In base->base.Ns mainGlobals mg->FnOk l.prog w (K w.params) mg base (CX w) k fa fd [x] (sp w))
  (hsp:∀(w:World) (H:Hp) (a:Addr) (ns:List Int),ns.length<=n->Only H->SqL (K w.params) H a (ns.map V.int)->sp w [.ref a] H (fun v _=>v = .bl true) fun _ _ _=>False)
  (hCX:∀(w:World) (H:Hp) (s:Shared) (e:Value) (s':Shared),CX w [] H s (fun _ _ _=>False) e s'->False) :
  PySem.W.WalkO q loose XP YP l.row.toRowW d [] (fun f vs=>PySem.call f vs):=by
 refine Att.attach_call hn hdf fun w s₀ s₁ mg mb fa o pm cd doc a vs ns G Y ho hd hcd hmg hobj hints hlen hg=>?_;have KX:=hY w _ Y;obtain⟨fd,hb,hF⟩:=F w mg fa _ KX G.T.g hmg;exact yZ7 KX G.T.g G.T.b G.T.builtins G.T.nolimit hg hobj hints (Č hlen hn2) hr hF hb (fun H hO hS=>hsp w H a ns hlen hO hS) fun H e s'=>hCX w H s₁ e s'
theorem walk_ofK {l:PySem.W.OpenLaw}{n k:Nat}{q:Program}{loose:List Str}{XP:(Str->Option Value)->Heap->Prop}{YP:World->Heap->Prop}{d:DefRec}{K:Params->Ă}{CX:CXT}{sp:Ă->Sp}{x:Str}
  (hn:l.most=some n)(hn2:n<=sizeLine)(hdf:d.params.defaults=[])(hr:Room k callerA)
  (hY:∀(w:World) (h:Heap),YP w h->(K w.params).In h)
  (F:∀(w:World) (mg:Str->Option Value) (fa:Addr) (h:Heap),(K w.params).In h->h.Ns mainGlobals mg->mg d.name=some (.ref fa) ->
   ∃fd:FuncData,(∀(s:Shared) (u:Value),BindsTo s fd ⟨[u],[]⟩ [(x,u)]) /\
    ∀base:Heap,(K w.params).In base->base.Ns mainGlobals mg->FnOk l.prog w (K w.params) mg base CX k fa fd [x] (sp (K w.params)))
  (hsp:∀(K:Ă) (H:Hp) (a:Addr) (ns:List Int),ns.length<=n->Only H->SqL K H a (ns.map V.int)->sp K [.ref a] H (fun v _=>v = .bl true) fun _ _ _=>False)
  (hCX:∀(H:Hp) (s:Shared) (e:Value) (s':Shared),CX [] H s (fun _ _ _=>False) e s'->False) :
  PySem.W.WalkO q loose XP YP l.row.toRowW d [] (fun f vs=>PySem.call f vs) :=
 walk_of (K:=K) (CX:=fun _=>CX) (sp:=fun w=>sp (K w.params)) hn hn2 hdf hr hY F (fun w H a ns h1 h2 h3=>hsp (K w.params) H a ns h1 h2 h3) fun _ H s e s'=>hCX H s e s'
end L2
namespace L2
open PySem PySem.Spec PyProof.Rows
noncomputable def Ρ (s:Stmt):Arguments:=match s with
 | .FunctionDef _ a _ _ _ _ _ _ _ _=>a
 | _=>{ posonlyargs:=[],args:=[],vararg:=none,kwonlyargs:=[],kw_defaults:=[],kwarg:=none,defaults:=[] }
noncomputable def Ζ (s:Stmt):List Stmt:=match s with
 | .FunctionDef _ _ b _ _ _ _ _ _ _=>b
 | _=>[]
noncomputable def Ç (s:Stmt):Scope:=match s with
 | .FunctionDef _ _ _ _ _ _ sc _ _ _=>sc
 | _=>{ kind:=.function,names:=[],isGenerator:=false,isCoroutine:=false }
noncomputable abbrev CX0:CXT:=fun _ _ _ _ _ _=>False
noncomputable abbrev E0:XK:=fun _ _ _=>False
theorem xT5 {X:Cx}:yA1 CX0 X E0:=fun _ _ _ _ _ _ _ h=>h.elim
structure Fun (K:Ă)(x qual:Str)(st:Stmt)(f:Addr)(fd:FuncData):Prop where
 ex:∃(oc:Value) (od:Option Addr) (kV doc pm:Value) (an:Option Addr) (cdv ct:Value) (osl:Array (Option Value)),
  fd=ő x qual (Ρ st) (Ζ st) (Ç st) .none kV doc pm an cdv ct /\ K.lookup f=some ⟨oc,od,.func fd,osl⟩ /\ PySem.W.codeIn K cdv qual=true
 kp:PySem.W.keepIn K (.ref f)=true
section
variable {P:Program}{w:World}{K:Ă}{mg:Str->Option Value}{base:Heap}
theorem Fun.ok {x qual:Str}{st:Stmt}{f:Addr}{fd:FuncData}{N ps:List Str}{k:Nat}{sp:Sp}(F:Fun K x qual st f fd)(S:Ë N ps (Ç st))(len:∀vs H Q E,sp vs H Q E->vs.length=ps.length)
  (hbody:∀(cdv:Value) (A:Around) (outer:List Env) (s:Shared) (H:Hp) (vs:List V) (Q:VK) (E:XK),Room k (A.deeper (envOfC qual (Ç st) s.heap.objs.size f cdv))->sp vs H Q E ->
   ∃t,PSs (cxOf CX0 P w K mg base N qual (Ç st) f cdv A outer s H E).nox (Ζ st) t /\ t { nx:=fun _ H'=>Q .non H',rt:=Q } (start N vs) H):FnOk P w K mg base CX0 (k+1) f fd ps sp:=by
 obtain⟨oc,od,kV,doc,pm,an,cdv,ct,osl,rfl,lk,hcd⟩:=F.ex;refine xQ1 lk hcd S len fun A outer s H vs Q E hr hsp=>?_;obtain⟨t,h,q⟩:=hbody cdv A outer s H vs Q E hr hsp;exact⟨t,h.nox,q⟩
theorem Fun.binds {x qual:Str}{st:Stmt}{f:Addr}{fd:FuncData}{ps:List Str}(F:Fun K x qual st f fd)
  (h:∀(kV doc pm:Value) (an:Option Addr) (cdv ct:Value) (us:List Value),us.length=ps.length->bindArgs (ő x qual (Ρ st) (Ζ st) (Ç st) .none kV doc pm an cdv ct) ⟨us,[]⟩=pure (ps.zip us)):Binds K fd ps []:=by
 obtain⟨oc,od,kV,doc,pm,an,cdv,ct,osl,rfl,lk,hcd⟩:=F.ex;exact .all (h kV doc pm an cdv ct)
theorem xD7 {x qual:Str}{st:Stmt}{f:Addr}{oc:Value}{od an:Option Addr}{osl:Array (Option Value)}{kV doc pm cdv ct:Value}(l:K.lookup f=some ⟨oc,od,.func (ő x qual (Ρ st) (Ζ st) (Ç st) .none kV doc pm an cdv ct),osl⟩)
  (c:PySem.W.codeIn K cdv qual=true)(k:PySem.W.keepIn K (.ref f)=true):Fun K x qual st f (ő x qual (Ρ st) (Ζ st) (Ç st) .none kV doc pm an cdv ct):=⟨⟨oc,od,kV,doc,pm,an,cdv,ct,osl,rfl,l,c⟩,k⟩
end
theorem Ù {A:Around}{k:Nat}(hr:Room k A):A.units+1<cLine:=ď (Nat.add_le_add_left (by decide:1<=64) _) hr.units
theorem zF5 {n:Nat}(h:n<=1000):n<sizeLine:=ď h (by decide)
section
variable {X:Cx}
theorem pv (i:Nat){x:Str}{pos:Pos}(hN:X.N[i]?=some x:=by rfl)(hv:Vis X.env.scope x:=by first | exact Or.inl rfl | exact Or.inr (Or.inl rfl) | exact Or.inr (Or.inr rfl))(hd:(x==("__debug__":Str))=false:=by decide)
  (hcd:(x==("__classdict__":Str))=false:=by decide):PE X (.Name x pos) (tVar i):=xM5 hN hv hd hcd
end
theorem iteF {A B:Prop}(h:B):if false=true then A else B:=by
 rw[if_neg Ę];exact h
theorem iteT {A B:Prop}(h:A):if true=true then A else B:=by
 rw[if_pos rfl];exact h
theorem ite2 {c A B:Prop}[Decidable c](h1:c->A)(h2:¬c->B):if c then A else B:=by
 by_cases h:c
 ·rw[if_pos h];exact h1 h
 ·rw[if_neg h];exact h2 h
noncomputable def Same (H H':Hp):Prop:=∀b o,H b=some o->H' b=some o
theorem Same.refl (H:Hp):Same H H:=fun _ _ h=>h
theorem Same.trans {H H1 H2:Hp}(a:Same H H1)(b:Same H1 H2):Same H H2:=fun c o h=>b c o (a c o h)
theorem Same.free {H H':Hp}(e:Same H H'){l:Addr}(h:H' l=Option.none):H l=Option.none:=by
 cases q:H l with
 | none=>rfl
 | some o =>
  rw[e l o q]at h;cases h
theorem Same.seq {K:Ă}{H H':Hp}{a:Addr}{xs:List V}(e:Same H H')(h:SqL K H a xs):SqL K H' a xs:=by
 rcases h with (h | ⟨o,h⟩) | h
 ·exact .inl (.inl (e _ _ h))
 ·exact .inl (.inr ⟨o,e _ _ h⟩)
 ·exact .inr h
end L2
namespace Tc
noncomputable def dv (t b:Int):Int:=if b<0 then -(ĭ t b:Int) else (ĭ t b:Int)
theorem zK7 {t b:Int}(h:0<b):0<=t.fmod b /\ t.fmod b<b:=by
 rw[Int.fmod_eq_emod_of_nonneg _ (Int.le_of_lt h)];exact⟨Int.emod_nonneg _ (by lia),Int.emod_lt_of_pos _ h⟩
theorem yI0 {t b:Int}(h:b<0):b<t.fmod b /\ t.fmod b<=0:=by
 have e:t.fmod b = -((-t).fmod (-b)):=by
  have h1:=Int.mul_fdiv_add_fmod t b;have h2:=Int.mul_fdiv_add_fmod (-t) (-b);rw[Int.neg_fdiv_neg]at h2;have h3:-b*t.fdiv b = -(b*t.fdiv b):=Int.neg_mul _ _;rw[h3]at h2;lia
 have p:=zK7 (t:=-t) (b:=-b) (by lia);lia
theorem yH7 (t b:Int):ĭ b (t.fmod b)=ĭ t b:=by
 have h1:=Int.mul_fdiv_add_fmod t b;have e:t.fmod b=t+b*(-(t.fdiv b)):=by
  rw[Int.mul_neg];lia
 rw[e,Int.gcd_comm,Int.gcd_add_mul_left_left]
structure Dv (t₀ b₀ t b:Int):Prop where
 g:ĭ t b=ĭ t₀ b₀
 p:0<b₀->0<=b /\ (b=0->0<t)
 n:b₀<0->b<=0 /\ (b=0->t<0)
theorem Dv.start {t b:Int}(h:b≠0):Dv t b t b:=⟨rfl,fun p=>⟨Int.le_of_lt p,fun e=>absurd e h⟩,fun p=>⟨Int.le_of_lt p,fun e=>absurd e h⟩⟩
theorem Dv.turn {t₀ b₀ t b:Int}(d:Dv t₀ b₀ t b)(h:b≠0):Dv t₀ b₀ b (t.fmod b):=by
 refine⟨(yH7 t b).trans d.g,fun p=>?_,fun p=>?_⟩
 ·have q:=d.p p;have r:=zK7 (t:=t) (b:=b) (by lia);exact⟨r.1,fun _=>by lia⟩
 ·have q:=d.n p;have r:=yI0 (t:=t) (b:=b) (by lia);exact⟨r.2,fun _=>by lia⟩
theorem Dv.less {t b:Int}(h:b≠0):(t.fmod b).natAbs<b.natAbs:=by
 rcases Int.lt_or_gt_of_ne h with q | q
 ·have r:=yI0 (t:=t) q;lia
 ·have r:=zK7 (t:=t) q;lia
theorem Dv.done {t₀ b₀ t b:Int}(d:Dv t₀ b₀ t b)(h:b=0)(h0:b₀≠0):t=dv t₀ b₀:=by
 subst h;have g:=d.g;rw[Int.gcd_zero_right]at g;unfold dv;rw[<- g]
 split
 ·rename_i q;have:=(d.n q).2 rfl;lia
 ·have:=(d.p (by lia)).2 rfl;lia
theorem zT0 {t b:Int}(h:b≠0):0<ĭ t b:=Nat.pos_of_ne_zero fun e=>h (Int.gcd_eq_zero_iff.mp e).2
theorem χ {t b:Int}(h:b≠0):dv t b≠0:=by
 have:=zT0 (t:=t) h;unfold dv;split<;>lia
theorem zC4 (t b:Int):dv t b∣t:=by
 have:=Int.gcd_dvd_left t b;unfold dv;split
 ·exact Int.neg_dvd.mpr this
 ·exact this
theorem zB3 (t b:Int):dv t b∣b:=by
 have:=Int.gcd_dvd_right t b;unfold dv;split
 ·exact Int.neg_dvd.mpr this
 ·exact this
theorem yU7 (t b:Int):(dv t b).natAbs=ĭ t b:=by
 unfold dv;split<;>lia
theorem yU6 {t b:Int}(h:b≠0):(dv t b).natAbs<=b.natAbs:=by
 rw[yU7];have:=Int.gcd_dvd_right t b;exact Nat.le_of_dvd (by lia) (Int.natAbs_dvd_natAbs.mpr this |> (by simpa using ·))
theorem zY4 {t b:Int}(h:b≠0):t.fdiv (dv t b)=(Ě t b).num:=by
 rw[Int.fdiv_eq_ediv_of_dvd (zC4 t b),Rat.num_divInt,Int.gcd_comm];unfold dv;rcases Int.lt_or_gt_of_ne h with q | q
 ·rw[if_pos q,Int.sign_eq_neg_one_of_neg q,Int.ediv_neg,Int.neg_one_mul,Int.neg_ediv_of_dvd (Int.gcd_dvd_left t b)]
 ·rw[if_neg (by lia),Int.sign_eq_one_of_pos q,Int.one_mul]
theorem zY5 {t b:Int}(h:b≠0):b.fdiv (dv t b)=((Ě t b).den:Int):=by
 rw[Int.fdiv_eq_ediv_of_dvd (zB3 t b),Rat.den_divInt,if_neg h,Int.gcd_comm];unfold dv;rw[Int.natCast_ediv];rcases Int.lt_or_gt_of_ne h with q | q
 ·rw[if_pos q,Int.ediv_neg,<- Int.neg_ediv_of_dvd (Int.gcd_dvd_right t b)]
  congr 1;lia
 ·rw[if_neg (by lia)]
  congr 1;lia
theorem zP5 {t b:Int}(h:0<b):dv t b=(ĭ t b:Int):=by unfold dv;rw[if_neg (by lia)]
theorem low {n d:Int}(hd:0<d)(hg:ĭ n d=1):(Ě n d).num=n /\ ((Ě n d).den:Int)=d:=by
 have h1:=zY4 (t:=n) (b:=d) (by lia);have h2:=zY5 (t:=n) (b:=d) (by lia);rw[zP5 hd,hg]at h1 h2
 constructor
 ·rw[<- h1];simp
 ·rw[<- h2];simp
theorem Þ (r:Rat):(0:Int)<r.den:=by have:=r.den_pos;lia
theorem zR0 (r:Rat):ĭ r.num r.den=1:=by
 have:=r.reduced;unfold Nat.Coprime at this;unfold ĭ;simpa using this
theorem xG5 (r q:Rat){s rest top d:Int}(hs:s=dv r.den q.den)(hr:rest=(r.den:Int).fdiv s)(ht:top=r.num*((q.den:Int).fdiv s)+q.num*rest)(hd:d=dv top s) :
  top.fdiv d=(r+q).num /\ rest*((q.den:Int).fdiv d)=((r+q).den:Int):=by
 have p1:=r.den_pos;have p2:=q.den_pos;have gp:0<ŕ r.den q.den:=Nat.gcd_pos_of_pos_left _ p1;have es:s=((ŕ r.den q.den:Nat):Int):=by
  rw[hs,zP5 (by lia)];unfold ĭ;simp
 have e1:(r.den:Int).fdiv s=((r.den / ŕ r.den q.den:Nat):Int):=by
  rw[es,ť _ (by lia),Int.natCast_ediv]
 have e2:(q.den:Int).fdiv s=((q.den / ŕ r.den q.den:Nat):Int):=by
  rw[es,ť _ (by lia),Int.natCast_ediv]
 have er:rest=((r.den / ŕ r.den q.den:Nat):Int):=hr.trans e1;have et:top=r.num*((q.den / ŕ r.den q.den:Nat):Int)+q.num*((r.den / ŕ r.den q.den:Nat):Int):=by rw[ht,e2,er]
 have key:top.natAbs.gcd (ŕ r.den q.den)=top.natAbs.gcd ((r.den / ŕ r.den q.den)*q.den):=by
  rw[et];exact Rat.add.aux r q rfl rfl rfl
 have ed:d=((top.natAbs.gcd (ŕ r.den q.den):Nat):Int):=by
  rw[hd,es,zP5 (by lia)];unfold ĭ;simp
 have hrd:ŕ r.den q.den∣r.den:=Nat.gcd_dvd_left _ _;have hqd:ŕ r.den q.den∣q.den:=Nat.gcd_dvd_right _ _;have rp:0<r.den / ŕ r.den q.den:=Nat.div_pos (Nat.le_of_dvd p1 hrd) gp;have sum:r+q=Ě top (((r.den / ŕ r.den q.den)*q.den:Nat):Int):=by
  have h:=Rat.divInt_add_divInt r.num q.num (d₁:=r.den) (d₂:=q.den) (by lia) (by lia);rw[ķ,ķ]at h;rw[h];rw[Rat.divInt_eq_divInt_iff (Int.mul_ne_zero (by lia) (by lia)) (by have:=Ņ rp p2;lia)];rw[et];obtain⟨a,ha⟩:=hrd;obtain⟨b,hb⟩:=hqd;generalize ŕ r.den q.den=g at *;have a1:r.den / g=a:=by rw[ha];exact Nat.mul_div_cancel_left _ gp
  have b1:q.den / g=b:=by rw[hb];exact Nat.mul_div_cancel_left _ gp
  rw[a1,b1];rw[ha,hb]
  push_cast
  grind
 have dp:(0:Int)<(((r.den / ŕ r.den q.den)*q.den:Nat):Int):=by have:=Ņ rp p2;lia
 have n1:=zY4 (t:=top) (b:=(((r.den / ŕ r.den q.den)*q.den:Nat):Int)) (by lia);have n2:=zY5 (t:=top) (b:=(((r.den / ŕ r.den q.den)*q.den:Nat):Int)) (by lia);have edd:dv top (((r.den / ŕ r.den q.den)*q.den:Nat):Int)=d:=by
  rw[ed,zP5 dp,key];unfold ĭ;rw[Int.natAbs_natCast]
 rw[<- sum,edd]at n1 n2;refine⟨n1,?_⟩;rw[<- n2,er];have dq:d∣(q.den:Int):=by
  rw[ed];exact Int.natCast_dvd_natCast.mpr (Nat.dvd_trans (Nat.gcd_dvd_right _ _) hqd)
 have dpos:0<d:=by
  rw[ed];have:=Nat.gcd_pos_of_pos_right top.natAbs gp;lia
 rw[ť _ (by lia),ť _ (by lia)]
 push_cast
 exact(Int.mul_ediv_assoc _ dq).symm
theorem yV4 {a d t b:Int}(h:ĭ t b=1)(ha:a∣t)(hd:d∣b):ĭ a d=1 :=
 Nat.Coprime.coprime_dvd_left (Int.natAbs_dvd_natAbs.mpr ha) (Nat.Coprime.coprime_dvd_right (Int.natAbs_dvd_natAbs.mpr hd) h)
theorem xJ8 {a b c d:Int}(h1:ĭ a d=1)(h2:ĭ a b=1)(h3:ĭ c d=1)(h4:ĭ c b=1):ĭ (a*c) (d*b)=1:=by
 show Nat.Coprime (a*c).natAbs (d*b).natAbs;rw[ł,ł];exact Nat.coprime_mul_iff_left.mpr ⟨Nat.coprime_mul_iff_right.mpr ⟨h1,h2⟩,Nat.coprime_mul_iff_right.mpr ⟨h3,h4⟩⟩
theorem yW8 {t1 b1 t2 b2:Int}(h1:0<b1)(h2:b2≠0)(c1:ĭ t1 b1=1)(c2:ĭ t2 b2=1){l r:Int}(hl:l=dv t1 b2)(hr:r=dv t2 b1) :
  (t1.fdiv l)*(t2.fdiv r)=(Ě (t1*t2) (b1*b2)).num /\ (b1.fdiv r)*(b2.fdiv l)=((Ě (t1*t2) (b1*b2)).den:Int):=by
 have l0:l≠0:=by rw[hl];exact χ h2
 have r0:0<r:=by rw[hr,zP5 h1];have:=zT0 (t:=t2) (b:=b1) (by lia);lia
 obtain⟨a,ha⟩:l∣t1:=by rw[hl];exact zC4 _ _
 obtain⟨b,hb⟩:l∣b2:=by rw[hl];exact zB3 _ _
 obtain⟨c,hc⟩:r∣t2:=by rw[hr];exact zC4 _ _
 obtain⟨d,hd⟩:r∣b1:=by rw[hr];exact zB3 _ _
 have e1:t1.fdiv l=a:=by rw[ha,ū _ l0]
 have e2:b2.fdiv l=b:=by rw[hb,ū _ l0]
 have e3:t2.fdiv r=c:=by rw[hc,ū _ (by lia)]
 have e4:b1.fdiv r=d:=by rw[hd,ū _ (by lia)]
 have gl:ĭ t1 b2=l.natAbs:=by rw[hl,yU7]
 have gr:ĭ t2 b1=r.natAbs:=by rw[hr,yU7]
 have la:0<l.natAbs:=by lia
 have ra:0<r.natAbs:=by lia
 have cab:ĭ a b=1:=by
  rw[ha,hb,Int.gcd_mul_left]at gl;exact Nat.eq_of_mul_eq_mul_left la (by lia)
 have ccd:ĭ c d=1:=by
  rw[hc,hd,Int.gcd_mul_left]at gr;exact Nat.eq_of_mul_eq_mul_left ra (by lia)
 have cad:ĭ a d=1:=yV4 c1 ⟨l,by rw[ha,Int.mul_comm]⟩ ⟨r,by rw[hd,Int.mul_comm]⟩;have cbc:ĭ c b=1:=yV4 c2 ⟨r,by rw[hc,Int.mul_comm]⟩ ⟨l,by rw[hb,Int.mul_comm]⟩;have dp:0<d:=by
  rcases Int.lt_trichotomy d 0 with z | z | z
  ·have:=Int.mul_neg_of_pos_of_neg r0 z;lia
  ·subst z;lia
  ·exact z
 have bp:0<b:=by
  rcases Int.lt_or_gt_of_ne h2 with z | z
  ·have ln:l<0:=by
    rw[hl];unfold dv;rw[if_pos z];have:=zT0 (t:=t1) h2;lia
   rcases Int.lt_trichotomy b 0 with y | y | y
   ·have:=Int.mul_pos_of_neg_of_neg ln y;lia
   ·subst y;lia
   ·exact y
  ·have lp:0<l:=by
    rw[hl,zP5 z];have:=zT0 (t:=t1) h2;lia
   rcases Int.lt_trichotomy b 0 with y | y | y
   ·have:=Int.mul_neg_of_pos_of_neg lp y;lia
   ·subst y;lia
   ·exact y
 have lw:=low (n:=a*c) (d:=d*b) (Int.mul_pos dp bp) ?_
 ·have ee:Ě (t1*t2) (b1*b2)=Ě (a*c) (d*b):=by
   rw[Rat.divInt_eq_divInt_iff (Int.mul_ne_zero (by lia) h2) (Int.mul_ne_zero (by lia) (by lia))];rw[ha,hb,hc,hd];grind
  rw[e1,e2,e3,e4,ee];exact⟨lw.1.symm,lw.2.symm⟩
 ·exact xJ8 cad cab ccd cbc
theorem xD4 (r q:Rat):Ě (r.num*q.num) (r.den*q.den)=r*q:=by
 rw[<- Rat.divInt_mul_divInt,ķ,ķ]
theorem xQ6 (r q:Rat)(h:q.num≠0):Ě (r.num*q.den) (r.den*q.num)=r / q:=by
 rw[<- Rat.divInt_mul_divInt,ķ,Rat.div_def]
 congr 1
 rw[Rat.inv_def]
theorem yH6 (r:Rat):ĭ (r.den:Int) r.num=1:=by rw[Int.gcd_comm];exact zR0 r
theorem xD3 (r:Rat):(0 - r.num)=(-r).num /\ (r.den:Int)=((-r).den:Int):=by
 constructor
 ·rw[Rat.neg_num];lia
 ·rw[Rat.neg_den]
theorem xK8 (r q:Rat):r + -q=r - q:=(Rat.sub_eq_add_neg r q).symm
theorem lt_ok (r q:Rat):decide (r.num*q.den<q.num*r.den)=decide (r<q):=by
 rw[decide_eq_decide,Rat.lt_iff]
theorem xQ0 {r q:Rat}(h1:r.num=q.num)(h2:(r.den:Int)=q.den):r=q:=Rat.ext h1 (by lia)
end Tc
namespace L2
open PySem PySem.Spec PyProof.Rows
theorem xR2:bootBuiltins "abs" = some (.builtin "abs"):=by decide +kernel
theorem zG7:bootBuiltins "isinstance" = some (.builtin "isinstance"):=by decide +kernel
theorem zN8:bootBuiltins "sorted" = some (.builtin "sorted"):=by decide +kernel
theorem yI6:bootBuiltins "int" = some (.type "int"):=by decide +kernel
theorem zJ2:bootBuiltins "list" = some (.type "list"):=by decide +kernel
theorem xB3:bootBuiltins "tuple" = some (.type "tuple"):=by decide +kernel
theorem zN9:bootBuiltins "dict" = some (.type "dict"):=by decide +kernel
section
variable {X:Cx}
theorem û:OpR X (binaryOp .Mult) (rI IntMulOk fun i j=>.int (i*j)):=opI fun _ _ _ _ _ _ _ hc q=>mul_int q hc
noncomputable def υ (_ j:Int):Prop:=j≠0 /\ j.natAbs.log2<9000
theorem ä:OpR X (binaryOp .FloorDiv) (rI υ fun i j=>.int (i.fdiv j)):=opI fun _ _ _ _ _ _ _ hc q=>floordiv_int hc.1 q (.inl (PyProof.noPylong_of_log2 hc.2))
theorem log2_lt {n k:Nat}(h:n<2^k)(hk:0<k):n.log2<k:=by
 rcases Nat.eq_zero_or_pos n with h0 | hp
 ·subst h0;have:Nat.log2 0=0:=by decide
  lia
 ·exact(Nat.log2_lt (ĥ hp)).mpr h
theorem ì {a b:Int}(k:Nat)(ha:a.natAbs<2^k)(hb:b.natAbs<2^k)(h:k<=67108864):IntMulOk a b:=by
 have bits:∀x:Int,x.natAbs<2^k->Builtin.Int.intBits x<=k:=fun x hx=>by
  unfold Builtin.Int.intBits
  split
  ·exact Ħ _
  ·rename_i hx0;rcases Nat.eq_zero_or_pos k with h0 | hp
   ·subst h0;have:x=0:=by
     have:x.natAbs<1:=hx;lia
    simp[this]at hx0
   ·have:=log2_lt hx hp;lia
 exact IntMulOk.of_le (bits a ha) (bits b hb) (by lia)
theorem zI8 {i j:Int}(h:j≠0)(hb:j.natAbs<2^9000):υ i j:=⟨h,log2_lt hb (by decide)⟩
theorem xB0:Φ X (.builtin "isinstance") (fun xs H Q=>∃x n t b,xs=[x,.ty n] /\ TyOf X.K H x t /\ PySem.W.kitOne X.K t (.type n)=some b /\ Q (.bl b) H):=by
 intro pins s σ H xs us Q I r h;obtain⟨x,n,t,b,rfl,ty,e,q⟩:=h;obtain⟨u,u',rfl,ru,ru'⟩:=xE9 r;cases ru';exact yT6 I ru ty e fun tk=>⟨.bl b,H,I.tok tk,rfl,q⟩
noncomputable def ItrS (lo c:Int)(n:Nat):It:=⟨fun i _=>i<n,fun i H x H'=>H'=H /\ x = .int (lo+(i:Int)*c),fun i _=>n<=i⟩
theorem yA2 {P:Program}{w:World}{K:Ă}{tg:Expr}(it:Addr)(lo c:Int)(n:Nat):Turn P w K tg (ItrS lo c n) [it] it (fun i h=>IsRangeIter h it (lo+(i:Nat)*c) ((n:Int) - (i:Nat)) c) where
 mem:=by simp
 obj:=fun i h st b hb=>by
  have e:b=it:=by simpa using hb
  subst e;exact⟨_,st,fun v z=>by
   have z':Data.fields _=Data.cell v:=z;cases z'⟩
 keep:=fun i h h' st k=>k it (by simp) _ st
 item:=by
  intro X hP hw hK hc i pins s σ H E I hf st hg;subst hP hw hK;obtain⟨f0,f1,f2,f3,f4,f5⟩:=hf it (by simp);have W:=Walks.range (prog:=X.prog) (w:=X.w) (I.ok.hd hc) it lo c n;refine W.item i s _ _ hg st fun v h' tk hv st' kk=>?_;obtain⟨t,rfl⟩:=hv;have I1:Inv X pins σ H { s with heap:=h',toks:=tk }:=I.turned (fun b o hb e=>kk b o (by simpa using hb) e) f0 f1 f3 f4 f5;exact⟨_,rfl,yL2 (s:={ s with heap:=h',toks:=tk }) (n:="range_iterator") st' rfl rfl (by decide) ⟨.int (lo+(i:Int)*c),H,I1,⟨t,rfl⟩,⟨rfl,rfl⟩,st',fun b hb=>(hf b hb).1⟩⟩
 done:=by
  intro X hP hw hK hc i pins s σ H E I hf st hg;subst hP hw hK;obtain⟨f0,f1,f2,f3,f4,f5⟩:=hf it (by simp);exact wpAny_pyNext_range_end (I.ok.hd hc) st (by have:n<=i:=hg;lia) fun h' eb=>⟨rfl,I.turned (t':=s.toks) (fun b o hb e=>eb b o hb e) f0 f1 f3 f4 f5⟩
 self:=fun _ _ _ _ _ st h=>wpAny_pyIter_rangeiter st h
theorem yL3 {lo c:Int}{n:Nat}{g:TG}{tb:TS}{D:Ends}{σ:St}{H:Hp}(Pv:Nat->St->Hp->Prop)(h0:Pv 0 σ H)
  (hs:∀i σ H,i<n->Pv i σ H->g (.int (lo+(i:Int)*c)) σ H fun σ2 H2=>tb { D with nx:=Pv (i+1),ct:=Pv (i+1),bk:=D.nx } σ2 H2)(hd:∀σ H,Pv n σ H->D.nx σ H) :
  ∃W:Nat->Nat->St->Hp->Prop,(∃m,W 0 m σ H) /\ ∀i m σ H,W i m σ H ->
   ((ItrS lo c n).stop i H /\ D.nx σ H) \/ ((ItrS lo c n).go i H /\ ∃N:St->Hp->Prop,(∀σ' H',N σ' H'->∃m',m'<m /\ W (i+1) m' σ' H') /\ ∀x H',(ItrS lo c n).yld i H x H'->g x σ H' fun σ2 H2=>tb { D with nx:=N,ct:=N,bk:=D.nx } σ2 H2):=by
 refine⟨fun i m σ H=>m=n - i /\ i<=n /\ Pv i σ H,⟨n,by simp,Ħ _,h0⟩,?_⟩;rintro i m σ H ⟨rfl,hi,p⟩
 by_cases hlt:i<n
 ·refine .inr ⟨hlt,Pv (i+1),fun σ' H' p'=>⟨n - (i+1),by lia,rfl,hlt,p'⟩,fun x H' y=>?_⟩;obtain⟨e,y⟩:=y;subst e y;exact hs i σ _ hlt p
 ·have e:i=n:=by lia
  subst e;exact .inl ⟨ą _,hd σ H p⟩
end
structure FnAt (P:Program)(w:World)(K:Ă)(mg:Str->Option Value)(base:Heap)(CX:CXT)(k:Nat)(x:Str)(ps:List Str)(sp:Sp):Prop where
 ex:∃(f:Addr) (fd:FuncData),FnOk P w K mg base CX k f fd ps sp /\ mg x=some (.ref f) /\ PySem.W.keepIn K (.ref f)=true /\ Binds K fd ps []
structure DefAt (K:Ă)(mg:Str->Option Value)(x:Str)(st:Stmt):Prop where
 ex:∃(f:Addr) (fd:FuncData),Fun K x x st f fd /\ mg x=some (.ref f)
theorem DefAt.mk' {K:Ă}{h:Heap}{mg:Str->Option Value}{x:Str}{st:Stmt}{f:Addr}{oc:Value}{od an:Option Addr}{osl:Array (Option Value)}{kV doc pm cdv ct:Value}(X:K.In h)(G:h.Ns mainGlobals mg)
  (a:Ĺ K mainGlobals x=some (some (.ref f)))(l:K.lookup f=some ⟨oc,od,.func (ő x x (Ρ st) (Ζ st) (Ç st) .none kV doc pm an cdv ct),osl⟩)
  (c:PySem.W.codeIn K cdv x=true)(k:PySem.W.keepIn K (.ref f)=true):DefAt K mg x st:=⟨f,_,xD7 (st:=st) l c k,PySem.W.mg_of X G a⟩
section
variable {P:Program}{w:World}{K:Ă}{mg:Str->Option Value}{base:Heap}
theorem DefAt.ok {x:Str}{st:Stmt}{N ps:List Str}{k:Nat}{sp:Sp}(D:DefAt K mg x st)(S:Ë N ps (Ç st))(len:∀vs H Q E,sp vs H Q E->vs.length=ps.length)
  (hb:∀(kV doc pm:Value) (an:Option Addr) (cdv ct:Value) (us:List Value),us.length=ps.length->bindArgs (ő x x (Ρ st) (Ζ st) (Ç st) .none kV doc pm an cdv ct) ⟨us,[]⟩=pure (ps.zip us))
  (hbody:∀(f:Addr) (cdv:Value) (A:Around) (outer:List Env) (s:Shared) (H:Hp) (vs:List V) (Q:VK) (E:XK),Room k (A.deeper (envOfC x (Ç st) s.heap.objs.size f cdv))->sp vs H Q E ->
   ∃t,PSs (cxOf CX0 P w K mg base N x (Ç st) f cdv A outer s H E).nox (Ζ st) t /\ t { nx:=fun _ H'=>Q .non H',rt:=Q } (start N vs) H):FnAt P w K mg base CX0 (k+1) x ps sp:=by
 obtain⟨f,fd,F,m⟩:=D.ex;exact⟨f,fd,F.ok S len fun cdv A outer s H vs Q E hr h=>hbody f cdv A outer s H vs Q E hr h,m,F.kp,F.binds hb⟩
end
section
variable {X:Cx}{CX:CXT}{k j:Nat}{ps:List Str}{sp:Sp}{E:XK}{x:Str}{p pos:Pos}{e:Expr}{es:List Expr}{t:TA}
theorem yY5 (F:FnAt X.prog X.w X.K X.mg X.base CX j x ps sp)(hr:Room k X.A)(hg:Gl X x)(hx:yA1 CX X E)(ha:PA X (e::es) t)(hj:j<=k:=by decide)
  (hdb:(x==("__debug__":Str))=false:=by decide)(he:starEach (e::es) X.env=(false,eval e X.env)::starEach es X.env:=by rfl)(hpl:(backTo pos (starEach es X.env)).any (·.1)=false:=by rfl) :
  PE X (.Call (.Name x p) (e::es) [] pos) (xF2 sp [] E t):=by
 obtain⟨f,fd,G,m,kp,b⟩:=F.ex;exact xH0 G (hr.mono hj) hg m kp b .nil hx ha hdb he hpl
end
noncomputable def tyH:Option HO->Option String
 | some (.lst _)=>some "list"
 | some (.frz _ (.lst _))=>some "list"
 | some (.tup _)=>some "tuple"
 | some (.dK _)=>some "dict"
 | some (.dT _)=>some "dict"
 | _=>none
noncomputable def tyS (H:Hp):V->Option String
 | .non=>some "NoneType"
 | .bl _=>some "bool"
 | .int _=>some "int"
 | .str _=>some "str"
 | .ref a=>tyH (H a)
 | _=>none
theorem yL8 {o:Option HO}{n:String}(h:tyH o=some n) :
  (n = "list" /\ ((∃xs,o=some (.lst xs)) \/ ∃ob xs,o=some (.frz ob (.lst xs)))) \/ (n = "tuple" /\ ∃xs,o=some (.tup xs)) \/ (n = "dict" /\ ((∃kvs,o=some (.dK kvs)) \/ ∃kvs,o=some (.dT kvs))):=by
 cases o with
 | none=>cases h
 | some u =>
  cases u with
  | lst xs=>cases h;exact .inl ⟨rfl,.inl ⟨xs,rfl⟩⟩
  | tup xs=>cases h;exact .inr (.inl ⟨rfl,xs,rfl⟩)
  | dK kvs=>cases h;exact .inr (.inr ⟨rfl,.inl ⟨kvs,rfl⟩⟩)
  | dT kvs=>cases h;exact .inr (.inr ⟨rfl,.inr ⟨kvs,rfl⟩⟩)
  | frz ob v =>
   cases v with
   | lst xs=>cases h;exact .inl ⟨rfl,.inr ⟨ob,xs,rfl⟩⟩
   | _=>cases h
  | _=>cases h
theorem yL7 {K:Ă}{H:Hp}{v:V}{n:String}(h:tyS H v=some n):TyOf K H v (.type n):=by
 cases v with
 | non=>cases h;exact .non
 | bl b=>cases h;exact .bl b
 | int i=>cases h;exact .int i
 | str x=>cases h;exact .str x
 | byt b=>cases h
 | flt b=>cases h
 | ty b=>cases h
 | ref a =>
  rcases yL8 (show tyH (H a)=some n from h) with⟨rfl,⟨xs,e⟩ | ⟨ob,xs,e⟩⟩ | ⟨rfl,xs,e⟩ | ⟨rfl,⟨kvs,e⟩ | ⟨kvs,e⟩⟩
  ·exact .lst e
  ·exact .frz e
  ·exact .tup e
  ·exact .dK e
  ·exact .dT e
noncomputable def subS (n m:String):Bool:=n==m||(n == "bool" && m == "int")
theorem xD5 {K:Ă}{n m:String}(hn:n∈["NoneType","bool","int","str","list","tuple","dict"])(hm:m∈["int","bool","str","list","tuple","dict"]) :
  PySem.W.kitOne K (.type n) (.type m)=some (subS n m):=by
 simp only[Ē,Ŗ,or_false]at hn hm;rcases hn with rfl | rfl | rfl | rfl | rfl | rfl | rfl<;>rcases hm with rfl | rfl | rfl | rfl | rfl | rfl<;>first | rfl | (with_unfolding_all rfl) | decide +kernel
theorem Same.upd {H:Hp}{p:Addr}{o:HO}(h:H p=none):Same H (upd H p o):=fun b u e=>by
 rw[upd_ne (Æ e h)];exact e
section
variable {P:Program}{w:World}{H H':Hp}{h h':Heap}{a:Addr}{o:HO}
theorem ObjOk.there (x:ObjOk P w H h a o):∃ob,h.get? a=some ob:=by
 cases o with
 | lst xs=>obtain⟨_,_,_,_,e⟩:=x;exact⟨_,e⟩
 | tup xs=>obtain⟨_,_,_,ob,e,_⟩:=x;exact⟨ob,e⟩
 | dK kvs=>obtain⟨_,_,_,_,ob,_,_,e,_⟩:=x;exact⟨ob,e⟩
 | dT kvs=>obtain⟨_,_,_,_,ob,_,_,e,_⟩:=x;exact⟨ob,e⟩
 | set S n=>obtain⟨ob,_,_,_,e,_⟩:=x;exact⟨ob,e⟩
 | ins C dx fs=>obtain⟨_,_,_,e,_⟩:=x;exact⟨_,e⟩
 | own y=>obtain⟨ob,e⟩:=x;exact⟨ob,e⟩
 | xd fs=>obtain⟨_,⟨ob,_,_,e,_⟩,_⟩:=x;exact⟨ob,e⟩
 | rng lo hi=>obtain⟨_,_,_,e⟩:=x;exact⟨_,e⟩
 | frz ob u=>obtain⟨e,_⟩:=x;exact⟨_,e⟩
 | tbl ps=>exact⟨_,(show h.get? a=some _ from x)⟩
 | met f y=>exact⟨_,(show h.get? a=some _ from x)⟩
 | ext φ=>obtain⟨_,⟨ob,e⟩,_⟩:=x;exact⟨ob,e⟩
theorem HOk.via (x:HOk P w H h)(k:∀b u ob,H b=some u->h.get? b=some ob->h'.get? b=some ob):HOk P w H h':=fun b u e =>
 (x b u e).stay (fun c ob hc q=>by
  rcases hc with z | z
  ·subst z;exact k c u ob e q
  ·exact k c _ ob z q) (fun _ q=>q) fun _ _ q=>q
end
theorem xA4 {env:Env}{L:Addr}{outer:List Env}(hf:env.frame=some L):frs (env::outer)=L::frs outer:=by
 unfold frs;rw[List.filterMap_cons,hf]
structure Kp (P:Program)(w:World)(outer:List Env)(H:Hp)(h:Heap)(H':Hp)(h':Heap)(B:Heap):Prop where
 hok:HOk P w H' h'
 un:Un (frs outer) [] H H' h h'
 old:∀b o,h.get? b=some o->H b=none->b∉frs outer->B.get? b=some o
 has:∀b o,h.get? b=some o->b∉frs outer->∃o',B.get? b=some o'
 trk:∀b u,H' b=some u->∃o,h'.get? b=some o /\ B.get? b=some o
section
variable {X:Cx}{pins:List (Addr×Obj)}{σ:St}{H1 H2:Hp}{s1:Shared}{h2 h3 B:Heap}{a:Addr}{C a0:Value}{vs:List Value}
theorem Kp.raise (I:Inv X pins σ H1 s1)(hx:Heap.MadeExcOf s1.heap h2 a C vs):Kp X.prog X.w X.stack H1 s1.heap H1 h2 (PySem.W.hideAll s1.heap (frs X.stack)) where
 hok:=I.hok.kept hx.keeps
 un:=Un.kept hx.keeps
 old:=fun b o e _ hb=>PySem.W.hideAll_get _ e hb
 has:=fun b o e hb=>⟨o,PySem.W.hideAll_get _ e hb⟩
 trk:=fun b u e=>by
  obtain⟨o,q⟩:=(I.hok b u e).there;refine⟨o,hx.keeps b o q,PySem.W.hideAll_get _ q fun hb=>?_⟩;rw[I.stkFree b hb]at e;cases e
theorem Kp.slots (I:Inv X pins σ H1 s1)(K:Kp X.prog X.w X.stack H1 s1.heap H2 h2 B)(st:B.StaysIn h3)(sl:h2.UpToSlots h3):Kp X.prog X.w X.stack H1 s1.heap H2 h3 B:=by
 have trk3:∀b u,H2 b=some u->∃o,h3.get? b=some o /\ B.get? b=some o:=fun b u e=>by
  obtain⟨o,_,q⟩:=K.trk b u e;exact⟨o,st b o q,q⟩
 have fr:∀b o,s1.heap.get? b=some o->H1 b=none->b∈frs X.stack->∃sl,h3.get? b=some { o with slots:=sl }:=fun b o e n hb=>by
  obtain⟨sl1,e1⟩:=K.un.slot b o e n hb (by simp);obtain⟨_,o',e',d⟩:=I.stack.mem hb;rw[e]at e';cases e';obtain⟨sl2,e2⟩:=sl b _ e1 d;exact⟨sl2,e2⟩
 refine⟨K.hok.via fun b u ob e q=>?_,⟨fun b o e n hb _=>st b o (K.old b o e n hb),fun b o e n hb _=>fr b o e n hb,K.un.free,fun b o e hx=>?_,K.un.tups,K.un.frzs,K.un.tbls⟩,K.old,K.has,trk3⟩
 ·obtain⟨o,q1,q2⟩:=K.trk b u e;rw[q]at q1;cases q1;exact st b ob q2
 ·by_cases hb:b∈frs X.stack
  ·obtain⟨sl1,e1⟩:=fr b o e (I.stkFree b hb) hb;exact⟨_,e1⟩
  ·obtain⟨o',e'⟩:=K.has b o e hb;exact⟨o',st b o' e'⟩
theorem Kp.leave (I:Inv X pins σ H1 s1)(hex:X.ex=[])(hst:X.stack=X.env::X.outer)(hf:X.env.frame=some X.env.locals)(K:Kp X.prog X.w X.stack H1 s1.heap H2 h2 B)(st:B.StaysIn h3)(sl:h2.UpToSlots h3) :
  Kp X.prog X.w X.outer X.H₀ X.s₀.heap H2 h3 B:=by
 have K3:=K.slots I st sl;have fe:frs X.stack=X.env.locals::X.fs:=by rw[hst];exact xA4 hf
 have nex:∀b:Addr,b∉X.ex:=fun b z=>by rw[hex]at z;cases z
 have nin:∀b o,X.s₀.heap.get? b=some o->b∉X.fs->b∉frs X.stack:=fun b o e hb z=>by
  rw[fe]at z;rcases Ē.mp z with z | z
  ·have h1:=ĉ e;have h2:=I.ok.above;rw[z]at h1;exact absurd (č h1 h2) (ņ _)
  ·exact hb z
 have old:∀b o,X.s₀.heap.get? b=some o->X.H₀ b=none->b∉frs X.outer->B.get? b=some o:=fun b o e n hb =>
  K.old b o (I.base.keep b o e n hb (nex b)) (I.base.free b o e n (nex b)) (nin b o e hb)
 refine⟨K3.hok,⟨fun b o e n hb _=>st b o (old b o e n hb),fun b o e n hb _=>?_,fun b o e n _=>?_,fun b o e _=>?_,fun b xs e=>K3.un.tups b xs (I.base.tups b xs e),fun b o u e=>K3.un.frzs b o u (I.base.frzs b o u e),fun b ps e=>?_⟩,old,fun b o e hb=>?_,K3.trk⟩
 ·obtain⟨sl1,e1⟩:=I.base.slot b o e n hb (nex b);obtain⟨sl2,e2⟩:=K3.un.slot b _ e1 (I.base.free b o e n (nex b)) (by rw[fe];exact ă _ hb) (by simp);exact⟨sl2,e2⟩
 ·obtain⟨o1,e1⟩:=I.base.there b o e (nex b);exact K3.un.free b o1 e1 (I.base.free b o e n (nex b)) (by simp)
 ·obtain⟨o1,e1⟩:=I.base.there b o e (nex b);exact K3.un.there b o1 e1 (by simp)
 ·obtain⟨m1,e1⟩:=I.base.tbls b ps e;obtain⟨m2,e2⟩:=K3.un.tbls b _ e1;exact⟨m1++m2,by rw[e2,Array.append_assoc]⟩
 ·obtain⟨o1,e1⟩:=I.base.there b o e (nex b);exact K.has b o1 e1 (nin b o e hb)
end
noncomputable def CXE (P:Program)(w:World):CXT:=fun outer H s E e s'=>∃(a:Addr) (C:Value) (H':Hp) (B:Heap) (a0:Value),
 e = .ref a /\ s'.os=s.os /\ AllBare s'.gens /\ Kp P w outer H s.heap H' s'.heap B /\ Heap.FlyingW B outer a C a0 s'.heap /\ E C none H'
noncomputable def xE7 (X:Cx)(E:XK):Prop:=∀(C:Value) (pins:List (Addr×Obj)) (σ:St) (H1:Hp) (s1:Shared) (h2:Heap) (a:Addr) (vs:List Value),Inv X pins σ H1 s1->Heap.MadeExcOf s1.heap h2 a C vs->E C none H1->X.xe (.ref a) { s1 with heap:=h2 }
section
variable {P:Program}{w:World}{K:Ă}{mg:Str->Option Value}{base:Heap}{N:List Str}{qual:Str}{scope:Scope}{f:Addr}{cd:Value}{A:Around}{outer:List Env}{s:Shared}{H:Hp}{E:XK}
theorem yP3:xE7 (cxOf (CXE P w) P w K mg base N qual scope f cd A outer s H E) E:=by
 intro C pins σ H1 s1 h2 a vs I hx q;have hl:=PySem.W.funFrames_hide (as:=frs (cxOf (CXE P w) P w K mg base N qual scope f cd A outer s H E).stack) I.stack fun env he b hb=>Ŭ.mpr ⟨env,he,hb⟩;refine wpAny_leaves_madeW I.ok.frames rfl (fun b o q=>PySem.W.of_hideAll _ q) hl hx fun h3 t fl _ _ sl=>?_;exact⟨a,C,H1,_,.ref t,rfl,I.os,I.bare,(Kp.raise I hx).leave I rfl rfl rfl fl.1 sl,fl,q⟩
end
theorem yU4 {K:Ă}{h:Heap}{C:Addr}{bmB:List Value}{newId:String}(X:K.In h)(q:PySem.W.excIn K C bmB newId=true) :
  ∃bm N nm qn bs hdct sn sub ab col dd k0 k1 k2 k3 k5 mN,h.get? C=some (excClassObj nm qn C N bs bm hdct sn sub ab col dd k0 k1 k2 k3 k5 newId) /\ h.Ns N mN /\ mN "__init__" = none /\ OwnTail h bmB bm:=by
 unfold PySem.W.excIn at q
 split at q
 ·rename_i d1 cd1 sl1 look
  split at q
  ·rename_i C1 bm1 s0 s1 s2 s3 n1 s5 hmro hslots;simp only[beq_iff_eq,Bool.not_eq_true',Ń]at q;obtain⟨⟨⟨⟨⟨q1,q2⟩,hdel⟩,htl⟩,hns⟩,hini⟩:=q;subst q1 q2;obtain⟨u1,u2,u3,u4,u5,u6,u7,u8,u9,u10,u11⟩:=cd1;dsimp only at hmro hdel hns hini;subst hmro hdel;have es:sl1=#[s0,s1,s2,s3,some (.builtin n1),s5]:=by
    cases sl1 with
    | mk l =>
     have:l=[s0,s1,s2,s3,some (.builtin n1),s5]:=hslots;rw[this]
   subst es;have at_:=X _ _ look;refine⟨bm1,u4,u1,u5,u2,u6,u7,u8,u9,u10,d1,s0,s1,s2,s3,s5,_,at_,.of_isNs (PySem.W.isNs_of_in X hns),?_,PySem.W.tail_of_in X htl⟩;exact PySem.W.nsMap_none_of_in X hns hini
  ·cases q
 ·cases q
section
variable {X:Cx}{E:XK}{C:Addr}{B newId initId:String}{bmB:List Value}{x:Str}{np cpos pos:Pos}{e₀:Expr}{rest:List Expr}{t:TA}
noncomputable def xK3 (C:Addr)(E:XK)(t:TA):TS:=fun _ σ H=>t σ H fun vs H1=>vs.length<=sizeLine /\ E (.ref C) none H1
theorem yY1 (R:xE7 X E)(hc:X.calm=true)(hg:Gl X x)(hm:X.mg x=some (.ref C))(hq:PySem.W.excIn X.K C bmB newId=true)(FB:ExcBaseFacts B newId initId bmB)(ha:PA X (e₀::rest) t)
  (he:starEach (e₀::rest) X.env=(false,eval e₀ X.env)::starEach rest X.env:=by rfl)(hpl:(backTo cpos (starEach rest X.env)).any (·.1)=false:=by rfl)(hd:(x==("__debug__":Str))=false:=by decide) :
  PS X (.Raise (some (.Call (.Name x np) (e₀::rest) [] cpos)) none pos) (xK3 C E t):=by
 intro pins s σ H D I h;obtain⟨tl,N,nm,qn,bs,hdct,sn,sub,ab,col,dd,k0,k1,k2,k3,k5,mN,hC,hN,hni,T⟩:=yU4 I.mod.kin hq;refine wpAny_Raise_call_subT (k5:=k5) (k3:=k3) (k2:=k2) (k1:=k1) (k0:=k0) (dd:=dd) (col:=col) (ab:=ab) (sub:=sub) (sn:=sn) (hdct:=hdct) (bm:=tl) (bs:=bs) (N:=N) (q:=qn) (nm:=nm) (C:=C) FB (mN:=mN) (T.hasType FB.hasBase) (I.ok.hd hc) ?_ hni (yS7 I hg hm ⟨rfl,?_⟩ hd)
 ·rw[he];show (false||(backTo cpos (starEach rest X.env)).any (·.1))=false;rw[hpl];rfl
 ·have h1:=ha cpos pins s σ H _ I h;rw[he]at h1 ⊢;refine Calls.evalArgs_plain (wpAny_mono h1 (fun us s1 z=>?_) fun _ _ y=>y);obtain⟨vs,H1,I1,r,hz,q⟩:=z;exact⟨rfl,by rw[<- r.length];exact hz,I1.bk _ _ hC,hN.keeps I1.bk,T.keeps I1.bk,fun h' a hx=>R _ pins σ H1 s1 h' a us I1 hx q⟩
end
section
variable {X:Cx}{pins:List (Addr×Obj)}{σ:St}{H:Hp}{s:Shared}{a:Addr}{o:HO}
theorem Inv.track (I:Inv X pins σ H s)(hn:H a=none)(hnew:X.s₀.heap.get? a=none)(hL:a≠X.env.locals)(hC:∀x c,X.env.cells.lookup x=some c->c≠a)(hP:∀p∈X.pn++pins,p.1≠a)
  (ho:ObjOk X.prog X.w (upd H a o) s.heap a o):Inv X pins σ (upd H a o) s:=by
 have ne:∀b u,H b=some u->b≠a:=fun b u e z=>by rw[z,hn]at e;cases e
 refine⟨I.ok,I.os,I.bare,⟨I.base.keep,I.base.slot,fun b ob e n hx=>?_,I.base.there,fun b xs e=>?_,fun b ob u e=>?_,fun b ps e=>?_⟩,I.loc,I.cell,?_,fun x c e=>?_,fun p hp=>?_,fun b u e=>?_,I.len⟩
 ·rw[upd_ne (fun z=>by rw[z,hnew]at e;cases e)];exact I.base.free b ob e n hx
 ·have q:=I.base.tups b xs e;rw[upd_ne (ne b _ q)];exact q
 ·have q:=I.base.frzs b ob u e;rw[upd_ne (ne b _ q)];exact q
 ·obtain⟨m,q⟩:=I.base.tbls b ps e;exact⟨m,by rw[upd_ne (ne b _ q)];exact q⟩
 ·rw[upd_ne (Ne.symm hL)];exact I.free
 ·rw[upd_ne (hC x c e)];exact I.freeC x c e
 ·obtain⟨e1,e2,e3⟩:=I.pin p hp;exact⟨e1,by rw[upd_ne (hP p hp)];exact e2,e3⟩
 ·by_cases z:b=a
  ·subst z;rw[Á]at e;cases e;exact ho
  ·rw[upd_ne z]at e;exact(I.hok b u e).stay (fun _ _ _ q=>q) (fun c q=>by rw[upd_ne (ne c _ q)];exact q) fun c xs q=>by rw[upd_ne (ne c _ q)];exact q
end
open PySem PySem.Spec PyProof.Rows PySem.W PySem.Builtin PySem.Builtin.ObjectAttr PySem.Builtin.Getset_descriptor
section
variable {prog:Program}{w:World}{A:Around}{E:Value->Shared->Prop}
structure ExcK (K:Frag)(C:Addr):Prop where
 ga:findIn K (.ref C) "__getattribute__" = some (some (.builtin "BaseException.__getattribute__"))
 g2:findIn K (.ref C) "__getattr__" = some none
 cl:findIn K (.ref C) "__class__" = some (some (.builtin "object.__class__"))
 mB:mroIn K C (.type "BaseException")=some true
 mO:mroIn K C (.type "object")=some true
end
noncomputable def Ů (cells:List (Str×Addr)):List (Str×NameKind)->List (Str×Addr)->List (Str×Addr)
 | [],cs=>cs
 | x::r,cs=>Ů cells r (if x.2 == .free then (match cells.lookup x.1 with | some a=>(x.1,a)::cs | none=>cs) else cs)
theorem zG5 {scope:Scope}{env:Env}(h:∀x∈scope.names,x.2 = .free->∃a,env.cells.lookup x.1=some a):closureFor scope env=pure (Ů env.cells scope.names []):=by
 have aux:∀(names:List (Str×NameKind)) (cs:List (Str×Addr)),(∀x∈names,x.2 = .free->∃a,env.cells.lookup x.1=some a) ->
   (forIn (m:=Sem) names cs fun x r=>do
    if (x.2==NameKind.free)=true then do
     let a <- cellOf env x.1
     pure (ForInStep.yield ((x.1,a)::r))
    else pure (ForInStep.yield r))=pure (Ů env.cells names cs):=by
  intro names
  induction names with
  | nil=>intro cs _;rfl
  | cons x r ih =>
   intro cs hx;rw[List.forIn_cons];cases hk:(x.2==NameKind.free) with
   | false =>
    simp only[Ī,if_false,pure_bind];rw[ih cs fun y hy=>hx y (ă _ hy)];show _=pure (Ů env.cells r (if x.2 == .free then _ else cs));rw[hk];rfl
   | true =>
    obtain⟨a,ha⟩:=hx x Ć (by simpa using hk);have e:cellOf env x.1=pure a:=by unfold cellOf;rw[ha]
    simp only[if_true,e,pure_bind];rw[ih _ fun y hy=>hx y (ă _ hy)];show _=pure (Ů env.cells r (if x.2 == .free then (match env.cells.lookup x.1 with | some a=>(x.1,a)::cs | none=>cs) else cs));rw[hk,ha];rfl
 have h1:=aux scope.names [] h;unfold closureFor;simp only[bind_pure];exact h1
theorem zI9 {cells:List (Str×Addr)}:∀{names:List (Str×NameKind)} {cs:List (Str×Addr)},(∀p∈cs,cells.lookup p.1=some p.2)->∀p∈Ů cells names cs,cells.lookup p.1=some p.2
 | [],_,h=>h
 | x::r,cs,h=>zI9 (names:=r) fun p hp=>by
  split at hp
  ·split at hp
   ·rename_i a ha;rcases Ē.mp hp with rfl | hp
    ·exact ha
    ·exact h p hp
   ·exact h p hp
  ·exact h p hp
theorem zN7 {cells:List (Str×Addr)}:∀{names:List (Str×NameKind)} {cs:List (Str×Addr)} {p:Str×Addr},p∈cs->p∈Ů cells names cs
 | [],_,_,h=>h
 | x::r,cs,p,h=>zN7 (names:=r) (by
  split
  ·split
   ·exact ă _ h
   ·exact h
  ·exact h)
theorem zJ0 {cells:List (Str×Addr)}{x:Str}{a:Addr}(ha:cells.lookup x=some a):∀{names:List (Str×NameKind)} {cs:List (Str×Addr)},(x,NameKind.free)∈names->(x,a)∈Ů cells names cs
 | y::r,cs,h=>by
  rcases Ē.mp h with rfl | h
  ·refine zN7 (names:=r) ?_;simp[ha]
  ·exact zJ0 ha (names:=r) h
theorem zC0 {α:Type}{x:Str}{v:α}:∀{l:List (Str×α)},l.lookup x=some v->(x,v)∈l
 | [],h=>by simp at h
 | (y,u)::r,h=>by
  rw[ŗ]at h;cases e:x==y with
  | true=>rw[e]at h;cases h;rw[beq_iff_eq.mp e];exact Ć
  | false=>rw[e]at h;exact ă _ (zC0 h)
theorem zI7 {α:Type}{x:Str}{v:α}:∀{l:List (Str×α)},(x,v)∈l->∃u,l.lookup x=some u
 | (y,u)::r,h=>by
  rw[ŗ];cases e:x==y with
  | true=>exact⟨u,rfl⟩
  | false =>
   rcases Ē.mp h with z | z
   ·cases z;simp at e
   ·exact zI7 z
noncomputable def yI3 (osc scope:Scope)(N Tn Fn:List Str)(js:List Nat):Bool :=
 (scope.kind == .function)&&(osc.kind == .function)&&(scope.names.all fun y=>match y.2 with
  | .cell=>false
  | .local=>scope.names.lookup y.1==some .local
  | .free=>osc.names.lookup y.1==some .cell&&scope.names.lookup y.1==some .free
  | _=>true)&&(js.map (fun j=>N[j]?)==Fn.map some)&&(Fn.all fun x=>scope.names.lookup x==some .free)&&(Tn.all fun x=>scope.names.lookup x==some .local)&&decide (Tn++Fn).Nodup
structure CompScope (osc scope:Scope)(N Tn Fn:List Str)(js:List Nat):Prop where
 kind:scope.kind = .function
 okind:osc.kind = .function
 nocell:∀y∈scope.names,y.2 ≠ .cell
 loc:∀y∈scope.names,y.2 = .local->scope.names.lookup y.1=some .local
 fre:∀y∈scope.names,y.2 = .free->osc.names.lookup y.1=some .cell
 idx:js.map (fun j=>N[j]?)=Fn.map some
 fn:∀x∈Fn,scope.names.lookup x=some .free
 tn:∀x∈Tn,scope.names.lookup x=some .local
 nd:(Tn++Fn).Nodup
theorem CompScope.of {osc scope:Scope}{N Tn Fn:List Str}{js:List Nat}(h:yI3 osc scope N Tn Fn js=true):CompScope osc scope N Tn Fn js:=by
 unfold yI3 at h;simp only[Ń,beq_iff_eq,decide_eq_true_eq,List.all_eq_true]at h;obtain⟨⟨⟨⟨⟨⟨h1,h1'⟩,h2⟩,h3⟩,h4⟩,h5⟩,h6⟩:=h;refine⟨h1,h1',fun y hy e=>?_,fun y hy e=>?_,fun y hy e=>?_,h3,h4,h5,h6⟩
 ·have:=h2 y hy;rw[e]at this;cases this
 ·have:=h2 y hy;rw[e]at this;simpa using this
 ·have:=h2 y hy;rw[e]at this;simp only[Ń,beq_iff_eq]at this;exact this.1
noncomputable def cxIn (X:Cx)(N:List Str)(scope:Scope)(cl:List (Str×Addr))(C:Addr)(s:Shared)(H:Hp)(fp:List Addr):Cx :=
 { X with N:=N,s₀:=s,H₀:=H,env:=compEnvC scope cl C X.env,outer:=X.stack,ex:=fp,fn:=fun _=>false,pn:=[],xe:=fun _ _=>False }
noncomputable def innS (k:Nat)(js:List Nat)(σ:St):St:=List.replicate k none++js.map fun j=>(σ[j]?).join
theorem zE2 {env:Env}(hk:env.scope.kind = .function):∀{names:List (Str×NameKind)} {x:Str} {k:NameKind},(∀y∈names,y.2 = .free->env.kindOf y.1=some .cell)->names.lookup x=some k ->
  (names.map fun (n,k)=>if (k==NameKind.free&&env.scope.kind == .function&&env.kindOf n==some .cell) then (n,NameKind.cell) else (n,k)).lookup x=some (if k = .free then .cell else k)
 | [],_,_,_,h=>by simp at h
 | (n,k')::r,x,k,hf,h=>by
  have ih:=@zE2 env hk r x k fun y hy=>hf y (ă _ hy);have h0:=hf (n,k') Ć;rw[ĩ];show List.lookup x ((if (k'==NameKind.free&&env.scope.kind == .function&&env.kindOf n==some .cell)=true then (n,NameKind.cell) else (n,k'))::_)=_;rw[ŗ]at h
  by_cases hk':k' = .free
  ·subst hk';have e:(NameKind.free==NameKind.free&&env.scope.kind == .function&&env.kindOf n==some .cell)=true:=by rw[h0 rfl,hk];decide
   rw[if_pos e,ŗ];cases hx:x==n with
   | true=>rw[hx]at h;cases h;rfl
   | false=>rw[hx]at h;exact ih h
  ·have e:¬(k'==NameKind.free&&env.scope.kind == .function&&env.kindOf n==some .cell)=true:=by
    intro z;simp only[Ń,beq_iff_eq]at z;exact hk' z.1.1
   rw[if_neg e,ŗ];cases hx:x==n with
   | true=>rw[hx]at h;cases h;simp[hk']
   | false=>rw[hx]at h;exact ih h
theorem zI1 {env:Env}:∀{names:List (Str×NameKind)} {x:Str} {k:NameKind},(names.map fun (n,k)=>if (k==NameKind.free&&env.scope.kind == .function&&env.kindOf n==some .cell) then (n,NameKind.cell) else (n,k)).lookup x=some k ->
  ∃k',(x,k')∈names /\ (k'=k \/ (k' = .free /\ k = .cell))
 | [],_,_,h=>by simp at h
 | (n,k')::r,x,k,h=>by
  have ih:=@zI1 env r x k;rw[ĩ]at h;have h:List.lookup x ((if (k'==NameKind.free&&env.scope.kind == .function&&env.kindOf n==some .cell)=true then (n,NameKind.cell) else (n,k'))::_)=some k:=h
  by_cases e:(k'==NameKind.free&&env.scope.kind == .function&&env.kindOf n==some .cell)=true
  ·rw[if_pos e,ŗ]at h;cases hx:x==n with
   | true =>
    rw[hx]at h;cases h;simp only[Ń,beq_iff_eq]at e;refine⟨.free,?_,.inr ⟨rfl,rfl⟩⟩;rw[beq_iff_eq.mp hx,<- e.1.1];exact Ć
   | false=>rw[hx]at h;obtain⟨q,m,z⟩:=ih h;exact⟨q,ă _ m,z⟩
  ·rw[if_neg e,ŗ]at h;cases hx:x==n with
   | true=>rw[hx]at h;cases h;refine⟨k',?_,.inl rfl⟩;rw[beq_iff_eq.mp hx];exact Ć
   | false=>rw[hx]at h;obtain⟨q,m,z⟩:=ih h;exact⟨q,ă _ m,z⟩
section
variable {X:Cx}{pins:List (Addr×Obj)}{σ:St}{H:Hp}{s:Shared}{scope:Scope}{Tn Fn:List Str}{js:List Nat}{fp:List Addr}
theorem xP3 {C:Addr}{h1:Heap}{tk:Nat}{mC:Str->Option Value}(cs:CompScope X.env.scope scope X.N Tn Fn js)(I:Inv X pins σ H s)(hC:C=s.heap.objs.size)(hn:h1.Ns C mC)(k1:∀b o,s.heap.get? b=some o->h1.get? b=some o)
  (hf:∀b∈fp,FpOk X pins H b)(ho:∀b∈fp,∃o,s.heap.get? b=some o) :
  Inv (cxIn X (Tn++Fn) scope (Ů X.env.cells scope.names []) C s H fp) (X.pn++pins) (innS Tn.length js σ) H { s with heap:=h1,toks:=tk }:=by
 have hcl:∀x c,(Ů X.env.cells scope.names []).lookup x=some c->X.env.cells.lookup x=some c:=fun x c e=>zI9 (names:=scope.names) (cs:=[]) (fun _ z=>nomatch z) _ (zC0 e);have hlen:(js.map fun j=>X.N[j]?).length=(Fn.map some).length:=congrArg List.length cs.idx;rw[ā,ā]at hlen;have hfr:∀y∈scope.names,y.2 = .free->X.env.kindOf y.1=some .cell:=cs.fre;subst hC;refine⟨⟨I.ok.mod,cs.kind,I.ok.glob,I.ok.blt,ą _,fun x y c e1 e2=>I.ok.inj x y c (hcl x c e1) (hcl y c e2),fun x hx=>?_,fun x c z=>absurd z Ę,I.ok.hd,I.ok.frames,.inl rfl,fun b hb=>⟨?_,fun x c e=>(hf b hb).2.2.2.2.1 x c (hcl x c e)⟩,I.bs,
  Č I.ok.bsz I.sz,fun b o e hb=>?_,fun b hb z=>?_,I.stack,I.stkFree⟩,rfl,I.bare,Un.kept k1,⟨mC,hn,fun i x v e1 e2 e3=>?_⟩,fun x c e=>?_,I.fresh,fun x c e=>I.freeC x c (hcl x c e),fun p hp=>?_,I.hok.kept k1,?_⟩
 ·-- has
  have hx:(relabel scope X.env).names.lookup x=some .cell \/ (relabel scope X.env).names.lookup x=some .free:=hx;have key:(x,NameKind.free)∈scope.names:=by
   rcases hx with hx | hx
   ·obtain⟨k',m,z⟩:=zI1 hx;rcases z with z | ⟨z,_⟩
    ·subst z;exact absurd rfl (cs.nocell _ m)
    ·subst z;exact m
   ·obtain⟨k',m,z⟩:=zI1 hx;rcases z with z | ⟨_,z⟩
    ·subst z;exact m
    ·cases z
  obtain⟨a,ha⟩:=I.ok.has x (.inl (hfr _ key rfl));exact zI7 (zJ0 ha key)
 ·obtain⟨o,e⟩:=ho b hb;exact Ĥ (ĉ e)
 ·rcases (hf b hb).2.2.2.1 with z | z
  ·exact I.ok.noex b o e z
  ·exact absurd (č (ĉ (I.ok.bs b o e).1) z) (ņ _)
 ·rcases Ē.mp (I.stkSub b z) with q | q
  ·exact(hf b hb).2.1 q
  ·exact(hf b hb).2.2.1 q
 ·-- names
  have e1:(Tn++Fn)[i]?=some x:=e1;have e2:(List.replicate Tn.length none++js.map fun j=>(σ[j]?).join)[i]?=some (some v):=e2
  by_cases hi:i<Tn.length
  ·rw[List.getElem?_append_left (by simpa using hi),List.getElem?_replicate]at e2
   split at e2<;>cases e2
  ·rw[Œ (by simpa using hi)]at e2;rw[Œ (by simpa using hi)]at e1;rw[List.length_replicate,Ĉ]at e2;cases ej:js[i - Tn.length]? with
   | none=>rw[ej]at e2;cases e2
   | some j =>
    rw[ej]at e2;have e2:(σ[j]?).join=some v:=by simpa using e2
    have e2':σ[j]?=some (some v):=by
     cases q:σ[j]? with
     | none=>rw[q]at e2;cases e2
     | some o=>rw[q]at e2;cases o with
      | none=>cases e2
      | some v'=>cases e2;rfl
    have ej':X.N[j]?=some x:=by
     have h0:(js.map fun j=>X.N[j]?)[i - Tn.length]?=(Fn.map some)[i - Tn.length]?:=by rw[cs.idx]
     rw[Ĉ,ej,Ĉ,e1]at h0;simpa using h0
    have hx:scope.names.lookup x=some .free:=cs.fn x (Ċ e1);have hox:X.env.kindOf x=some .cell:=hfr _ (zC0 hx) rfl;obtain⟨m,hm,hl⟩:=I.loc;obtain⟨u,r,l⟩:=hl j x v ej' e2' (.inr (.inl hox));refine⟨u,r,.inr ⟨.inl ?_,?_⟩⟩
    ·show (relabel scope X.env).names.lookup x=some .cell;have z:=zE2 (env:=X.env) cs.okind (names:=scope.names) hfr hx;rw[if_pos rfl]at z;exact z
    ·rcases l with⟨k,_⟩ | ⟨_,c,ec,z⟩
     ·rw[hox]at k;cases k
     ·obtain⟨c',e'⟩:=zI7 (zJ0 (cs:=[]) ec (zC0 hx));have:c'=c:=Option.some.inj ((hcl x c' e').symm.trans ec);subst this;obtain⟨o,q1,q2⟩:=z;exact⟨c',e',o,k1 _ _ q1,q2⟩
 ·obtain⟨v,o,q1,q2⟩:=I.cell x c (hcl x c e);exact⟨v,o,k1 _ _ q1,q2⟩
 ·have hp:p∈([]:List (Addr×Obj))++(X.pn++pins):=hp;rw[List.nil_append]at hp;obtain⟨e,n,ne,nf,d⟩:=I.pin p hp;refine⟨k1 _ _ e,n,Ĥ (ĉ e),fun z=>?_,d⟩;rcases Ē.mp (I.stkSub p.1 z) with q | q
  ·exact ne q
  ·exact nf q
 ·show (List.replicate Tn.length none++js.map fun j=>(σ[j]?).join).length=(Tn++Fn).length;rw[Ď,Ď,List.length_replicate,ā,hlen]
structure xC0 (X:Cx)(pins:List (Addr×Obj))(C:Addr):Prop where
 nl:C≠X.env.locals
 yg:X.s₀.heap.objs.size<=C
 nc:∀x c,X.env.cells.lookup x=some c->c≠C
 np:∀p∈X.pn++pins,p.1≠C
theorem Inv.letgo {C:Addr}{h2:Heap}(I:Inv X pins σ H s)(hn:H C=none)(c:xC0 X pins C)(sb:Heap.SameBut C s.heap h2):Inv X pins σ H { s with heap:=h2 } :=
 I.turned (t':=s.toks) (it:=C) (fun b o hb e=>(sb.2 b hb).trans e) hn c.nl (.inr c.yg) c.nc c.np
theorem Inv.cfree {C:Addr}(I:Inv X pins σ H s)(hC:C=s.heap.objs.size):xC0 X pins C:=by
 refine⟨by rw[hC];exact ĥ I.lt,by rw[hC];exact I.sz,fun x c e z=>?_,fun p hp z=>?_⟩
 ·obtain⟨v,q⟩:=I.cell x c e;have:=q.lt;rw[z,hC]at this;exact absurd this (ņ _)
 ·have:=ĉ (I.pin p hp).1;rw[z,hC]at this;exact absurd this (ņ _)
theorem xI8 {C:Addr}{cl:List (Str×Addr)}{N:List Str}{σ':St}{H':Hp}{pins':List (Addr×Obj)}{s':Shared}(I:Inv X pins σ H s)(hf:∀b∈fp,FpOk X pins H b)(J:Inv (cxIn X N scope cl C s H fp) pins' σ' H' s'):Inv X pins σ H' s' :=
 I.call' (ch:=fp) J.os J.base J.hok J.bare fun b hb=>⟨(hf b hb).2.2.2.1,(hf b hb).2.1,(hf b hb).2.2.2.2.1,(hf b hb).2.2.2.2.2⟩
end
section
variable {prog:Program}{w:World}{A:Around}{s:Shared}
theorem yD6 {elt target iter:Expr}{ifs:List Expr}{scope:Scope}{pos:Pos}{it acc:Value}{env:Env}{R:Result->Shared->Prop}(I:Nat->Shared->Prop)
  (turn:∀n s,I n s->wpAny (model prog w) A (pyNext it) (fun r s₁=>match r with
   | none=>R (.ok .next) s₁
   | some v=>wpAny (model prog w) A (letOwnedTupleGo target it v) (fun _ s₀=>wpAny (model prog w) A (assign target env v) (fun _ s₂ =>
     wpAny (model prog w) A (forIn ifs true fun c r=>if r=true then do let ok <- isTrue c env (eval c env);pure (ForInStep.yield ok) else pure (ForInStep.yield r)) (fun ok s₃ =>
      if ok=true then wpAny (model prog w) A (eval elt env) (fun x s₄ =>
       wpAny (model prog w) A (call (.builtin "list.append") [acc,x]) (fun _ s₅=>∃m,m<n /\ I m s₅) (fun _ _=>False) s₄) (fun _ _=>False) s₃
      else ∃m,m<n /\ I m s₃) (fun _ _=>False) s₂) (fun _ _=>False) s₀) (fun _ _=>False) s₁) (fun _ _=>False) s)
  (n:Nat)(h:I n s):codeAny (model prog w) A (.compLoop (.ListComp elt [⟨target,iter,ifs,0⟩] scope pos) 0 it acc env) R s:=by
 refine codeAny_loop rfl I (fun n s hI=>?_) n h;show wpAny _ A ((compTurn (.ListComp elt [⟨target,iter,ifs,0⟩] scope pos) 0 it acc env).onRaise (fun x=>do noteFrame x env;theTreesLotGoes x)) _ _ s;refine wpAny_noted ?_;rw[compTurn_list];refine wpAny_bind (wpAny_standAt (wpAny_bind (wpAny_mono (turn n s hI) (fun r s₁ h₁=>?_) fun _ _ h'=>h'.elim)));cases r with
 | none=>exact wpAny_pure h₁
 | some v =>
  refine wpAny_bind (wpAny_mono h₁ (fun _ s₀ h₀'=>?_) fun _ _ h'=>h'.elim);refine wpAny_bind (wpAny_mono h₀' (fun _ s₂ h₂=>wpAny_bind (wpAny_mono h₂ (fun ok s₃ h₃=>?_) fun _ _ h'=>h'.elim)) fun _ _ h'=>h'.elim);cases ok with
  | false=>exact wpAny_pure ⟨rfl,h₃⟩
  | true =>
   exact wpAny_bind (wpAny_bind (wpAny_mono h₃ (fun x s₄ h₄=>wpAny_bind (wpAny_mono h₄ (fun _ s₅ h₅=>wpAny_pure (wpAny_pure ⟨rfl,h₅⟩)) fun _ _ h'=>h'.elim)) fun _ _ h'=>h'.elim))
end
noncomputable def PIfs (X:Cx)(ifs:List Expr)(t:TT):Prop :=
 ∀(pins:List (Addr×Obj)) (s:Shared) (σ:St) (H:Hp) (Q:Bool->Hp->Prop),Inv X pins σ H s->t σ H Q ->
  wpAny (model X.prog X.w) X.A (forIn ifs true fun c r=>if r=true then do let ok <- isTrue c X.env (eval c X.env);pure (ForInStep.yield ok) else pure (ForInStep.yield r)) (TP X pins σ Q) X.xe s
noncomputable abbrev xS0:TT:=fun _ H Q=>Q true H
theorem Θ {X:Cx}:PIfs X [] xS0:=fun _ _ _ H _ I h=>wpAny_tests_nil ⟨H,I,h⟩
theorem zR2 {X:Cx}{c:Expr}{t:TT}(h:PT X c t):PIfs X [c] t:=fun pins s σ H Q I hq=>wpAny_tests_one (h pins s σ H Q I hq)
noncomputable def zK9 (J:It)(g:TG)(tc:TT)(te:TE)(D:Addr)(Z:Hp->Prop)(σ:St)(H:Hp):Prop :=
 ∃W:Nat->Nat->St->Hp->Prop,(∃m,W 0 m σ H) /\ ∀i m σ H,W i m σ H ->
  (J.stop i H /\ Z H) \/ (J.go i H /\ ∃N:St->Hp->Prop,(∀σ' H',N σ' H'->∃m',m'<m /\ W (i+1) m' σ' H') /\
   ∀x H',J.yld i H x H'->g x σ H' fun σ2 H2=>tc σ2 H2 fun b H3=>if b=true then te σ2 H3 fun y H4=>∃ys,H4 D=some (.lst ys) /\ ys.length<sizeLine /\ N σ2 (upd H4 D (.lst (ys++[y]))) else N σ2 H3)
section
variable {X:Cx}{scope:Scope}{Tn Fn:List Str}{js:List Nat}{tg iter elt:Expr}{ifs:List Expr}{wi:TI}{g:TG}{tc:TT}{te:TE}{pos:Pos}
theorem zZ4 {pins:List (Addr×Obj)}{σ:St}{H2:Hp}{s2:Shared}{it:Addr}{fp:List Addr}{tn:Nat->Heap->Prop}{J:It}{Z:Addr->Hp->Prop}{RR:Value->Addr->Result->Shared->Prop}{E:Value->Shared->Prop}(hc:X.calm=true)
  (cs:CompScope X.env.scope scope X.N Tn Fn js)
  (hg:∀C s H fp,PG (cxIn X (Tn++Fn) scope (Ů X.env.cells scope.names []) C s H fp) tg g)(ht:∀C s H fp,PIfs (cxIn X (Tn++Fn) scope (Ů X.env.cells scope.names []) C s H fp) ifs tc)
  (he:∀C s H fp,PE (cxIn X (Tn++Fn) scope (Ů X.env.cells scope.names []) C s H fp) elt te)
  (I2:Inv X pins σ H2 s2)(T:Turn X.prog X.w X.K tg J fp it tn)(st2:tn 0 s2.heap)(f2:∀b∈fp,FpOk X pins H2 b)
  (hb:∀D,H2 D=none->zK9 J g tc te D (Z D) (innS Tn.length js σ) (upd H2 D (.lst [])))
  (fin:∀D C s' H' m,s'.heap.Ns C m->Inv X pins σ H' s'->H' C=none->xC0 X pins C->Z D H'->RR (.ref D) C (.ok .next) s') :
  wpAny (model X.prog X.w) X.A (newList []) (fun acc s₃=>wpAny (model X.prog X.w) X.A (newFunctionEnv scope X.env.globals (Ů X.env.cells scope.names []) [] X.env.qual none .none (some X.env)) (fun cenv s₄ =>
   codeAny (model X.prog X.w) X.A (.compStart (.ListComp elt [⟨tg,iter,ifs,0⟩] scope pos) 0 (.ref it) acc { cenv with scope:=relabel scope X.env }) (RR acc cenv.locals) s₄) E s₃) E s2:=by
 refine wpAny_newObj_type (wpAny_newFunctionEnv cs.nocell (by intro y hy;simp at hy) (fun h₁ hns₁ hsb₁=>?_) cs.kind);dsimp only at hns₁ hsb₁ ⊢;have I3:=I2.lnew (its:=[]) (ys:=[]) (t':=s2.toks) .nil (Ħ _);have fD:H2 s2.heap.objs.size=none:=I2.fresh;obtain⟨W,⟨m0,w0⟩,turn⟩:=hb _ fD;generalize hH2:s2.heap.push { cls:=.type "list",dict:=none,data:=.seq ([]:List Value).toArray }=g2 at hns₁ hsb₁ I3 ⊢;have up2:∀b o,s2.heap.get? b=some o->g2.get? b=some o:=fun b o e=>hH2▸ć _ e;generalize hD:s2.heap.objs.size=D at *;have up3:∀b o,g2.get? b=some o->h₁.get? b=some o:=fun b o e=>hsb₁.extBut b o (Ĥ (ĉ e)) (ć _ e);have hob:∀b∈fp,∃o,s2.heap.get? b=some o:=fun b hb=>let ⟨o,e,_⟩:=T.obj 0 _ st2 b hb;⟨o,e⟩;have neD:∀b∈fp,b≠D:=fun b hb=>by
  obtain⟨o,e⟩:=hob b hb;rw[<- hD];exact Ĥ (ĉ e)
 have f3:∀b∈fp,FpOk X pins (upd H2 D (.lst [])) b:=fun b hb=>⟨by rw[upd_ne (neD b hb)];exact(f2 b hb).1,(f2 b hb).2⟩;have J0:=xP3 (fp:=fp) (tk:=s2.toks+([]:List (Str×Value)).length) cs I3 rfl hns₁ up3 f3 fun b hb=>let ⟨o,e⟩:=hob b hb;⟨o,up2 b o e⟩;have tn0:tn 0 h₁:=T.keep _ _ _ st2 fun b hb o e=>up3 b o (up2 b o e);have cf:xC0 X pins g2.objs.size:=I3.cfree rfl;generalize hX':cxIn X (Tn++Fn) scope (Ů X.env.cells scope.names []) g2.objs.size { s2 with heap:=g2,toks:=s2.toks } (upd H2 D (.lst [])) fp=X' at J0;have eP:X'.prog=X.prog:=by rw[<- hX'];rfl
 have ew:X'.w=X.w:=by rw[<- hX'];rfl
 have eK:X'.K=X.K:=by rw[<- hX'];rfl
 have eA:X'.A=X.A:=by rw[<- hX'];rfl
 have ec:X'.calm=true:=by rw[<- hX'];exact hc
 have ee:X'.env=compEnvC scope (Ů X.env.cells scope.names []) g2.objs.size X.env:=by rw[<- hX'];rfl
 have ex:X'.xe=fun _ _=>False:=by rw[<- hX'];rfl
 have Hg:PG X' tg g:=by rw[<- hX'];exact hg _ _ _ _
 have Ht:PIfs X' ifs tc:=by rw[<- hX'];exact ht _ _ _ _
 have He:PE X' elt te:=by rw[<- hX'];exact he _ _ _ _
 have out:∀{pins' σ' H' s'},Inv X' pins' σ' H' s'->Inv X pins σ H' s':=by
  intro pins' σ' H' s' J;rw[<- hX']at J;exact xI8 I3 f3 J
 have fsX:∀b∈fp,b∉X'.fs:=by
  intro b hb z;rw[<- hX']at z;rcases Ē.mp (I3.stkSub b z) with q | q
  ·exact(f3 b hb).2.1 q
  ·exact(f3 b hb).2.2.1 q
 have stat:∀{H':Hp},(∀b∈fp,H' b=none)->∀b∈fp,FpOk X' (X.pn++pins) H' b:=fun {H'} hn b hb=>by
  refine⟨hn b hb,?_,fsX b hb,.inl (by rw[<- hX'];exact hb),?_,?_⟩
  ·rw[ee];obtain⟨o,e⟩:=hob b hb;exact Ĥ (ĉ (up2 b o e))
  ·intro x c e;rw[ee]at e;exact(f3 b hb).2.2.2.2.1 x c (zI9 (names:=scope.names) (cs:=[]) (fun _ z=>nomatch z) _ (zC0 e))
  ·intro p hp;have hp:p∈X.pn++pins:=by rw[<- hX']at hp;simpa[cxIn] using hp
   exact(f3 b hb).2.2.2.2.2 p hp
 have loop:∀s4:Shared,s4={ s2 with heap:=h₁,toks:=s2.toks+([]:List (Str×Value)).length } ->
   codeAny (model X.prog X.w) X.A (.compLoop (.ListComp elt [⟨tg,iter,ifs,0⟩] scope pos) 0 (.ref it) (.ref D) (compEnvC scope (Ů X.env.cells scope.names []) g2.objs.size X.env)) (RR (.ref D) g2.objs.size) s4:=by
  rintro s4 rfl;refine yD6 (fun n s'=>∃i σ' H',Inv X' (X.pn++pins) σ' H' s' /\ tn i s'.heap /\ (∀b∈fp,H' b=none) /\ W i n σ' H') ?_ m0 ⟨0,_,_,J0,tn0,fun b hb=>(f3 b hb).1,w0⟩;rintro n s5 ⟨i,σ5,H5,I5,st5,fr5,w5⟩;rw[<- ee,<- eA,<- eP,<- ew,<- ex];rcases turn i n σ5 H5 w5 with⟨stop,qz⟩ | ⟨go,N,hN,step⟩
  ·have td:=T.done X' eP ew eK ec i (X.pn++pins) s5 σ5 H5 X'.xe I5 (stat fr5) st5 stop;rw[<- eP,<- ew]at td;refine thn td fun r s6 ⟨hr,I6⟩=>?_;subst hr;obtain⟨m,hm,_⟩:=id I6.loc;rw[ee]at hm;have hfr:=I6.free;rw[ee]at hfr;exact fin D _ s6 H5 m hm (out I6) hfr cf qz
  ·have ti:=T.item X' eP ew eK ec i (X.pn++pins) s5 σ5 H5 X'.xe I5 (stat fr5) st5 go;rw[<- eP,<- ew]at ti;refine thn ti fun r s6 ⟨u,hr,h6⟩=>?_;subst hr;refine thn h6 fun _ s7 ⟨x,H7,I7,r7,y7,st7,fr7⟩=>?_;have I7':=I7.pinned (stat fr7) (T.obj _ _ st7);refine thn (Hg _ s7 σ5 H7 x u _ I7' r7 (step x H7 y7)) fun _ s8 ⟨σ8,H8,I8,q8⟩=>?_;refine thn (Ht _ s8 σ8 H8 _ I8 q8) fun ok s9 ⟨H9,I9,q9⟩=>?_;have again:∀{σa:St} {Ha:Hp} {sa:Shared},Inv X' ((X.pn++pins)++zW7 fp s7.heap) σa Ha sa->N σa Ha->∃m,m<n /\ ∃i σ' H',Inv X' (X.pn++pins) σ' H' sa /\ tn i sa.heap /\ (∀b∈fp,H' b=none) /\ W i m σ' H':=fun {σa Ha sa} Ia na=>by
    obtain⟨m',hm,wa⟩:=hN σa Ha na;refine⟨m',hm,i+1,σa,Ha,Ia.unpinned,T.keep _ _ _ st7 fun b hb o e=>(Ia.pin (b,o) (į _ (į _ (zD9 hb e)))).1,fun b hb=>?_,wa⟩;obtain⟨o,e,d⟩:=T.obj _ _ st7 b hb;exact(Ia.pin (b,o) (į _ (į _ (zD9 hb e)))).2.1
   cases ok with
   | false=>exact again I9 q9
   | true =>
    refine thn (He _ s9 σ8 H9 _ I9 q9) fun y s10 ⟨yv,H10,I10,r10,ys,e10,l10,n10⟩=>?_;exact thn (è (X:=X') _ s10 σ8 H10 (.ref D) [yv] (.ref D) [y] (fun _ H'=>N σ8 H') I10 rfl (.cons r10 .nil) ⟨D,ys,yv,rfl,rfl,e10,l10,n10⟩) fun _ s11 ⟨_,H11,I11,_,n11⟩=>again I11 n11
 exact codeAny_compStart_list (loop _ rfl) (T.self _ 0 _ _ _ tn0 (loop _ rfl))
noncomputable def xK7 (wi:TI)(g:TG)(tc:TT)(te:TE)(k:Nat)(js:List Nat):TE:=fun σ H Q=>wi σ H fun J H1=>∀D,H1 D=none->zK9 J g tc te D (Q (.ref D)) (innS k js σ) (upd H1 D (.lst []))
theorem Λ (Tn Fn:List Str)(js:List Nat)(hc:X.calm=true)(h:yI3 X.env.scope scope X.N Tn Fn js=true)(hi:PI X tg iter wi)
  (hg:∀C s H fp,PG (cxIn X (Tn++Fn) scope (Ů X.env.cells scope.names []) C s H fp) tg g)(ht:∀C s H fp,PIfs (cxIn X (Tn++Fn) scope (Ů X.env.cells scope.names []) C s H fp) ifs tc)
  (he:∀C s H fp,PE (cxIn X (Tn++Fn) scope (Ů X.env.cells scope.names []) C s H fp) elt te)(hs:∀x,foldedSetIterable iter X.env x=pure x:=by intro _;rfl) :
  PE X (.ListComp elt [⟨tg,iter,ifs,0⟩] scope pos) (xK7 wi g tc te Tn.length js):=by
 intro pins s σ H Q I hq;have cs:=CompScope.of h;rw[eval_ListComp];refine wpAny_comprehension_free (use:=none) rfl hs (zG5 ?_) cs.kind cs.loc (thn (hi pins s σ H _ I hq) fun xv s1 h1=>thn h1 fun itv s2 h2=>?_)
 ·intro x hx e;exact I.ok.has x.1 (.inl (cs.fre x hx e))
 obtain⟨it,fp,tn,J,H2,rfl,I2,T,st2,f2,hb⟩:=h2;refine zZ4 (Z:=fun D H'=>Q (.ref D) H') (RR:=fun acc C=>compPost (model X.prog X.w) X.A X.xe none (EP X pins σ Q) acc C) hc cs hg ht he I2 T st2 f2 hb ?_;intro D C s' H' m hm I' hn cf z;exact⟨m,hm,fun h' sb=>⟨.ref D,H',I'.letgo hn cf sb,rfl,z⟩⟩
theorem zI2 (Tn Fn:List Str)(js:List Nat){i:Nat}{y:Str}{py spos:Pos}(hN:X.N.Nodup)(hiN:X.N[i]?=some y)(hy:X.env.scope.names.lookup y=some .local)(hc:X.calm=true)(h:yI3 X.env.scope scope X.N Tn Fn js=true)(hi:PI X tg iter wi)
  (hg:∀C s H fp,PG (cxIn X (Tn++Fn) scope (Ů X.env.cells scope.names []) C s H fp) tg g)(ht:∀C s H fp,PIfs (cxIn X (Tn++Fn) scope (Ů X.env.cells scope.names []) C s H fp) ifs tc)
  (he:∀C s H fp,PE (cxIn X (Tn++Fn) scope (Ů X.env.cells scope.names []) C s H fp) elt te)(hsw:swapsWith (.ListComp elt [⟨tg,iter,ifs,0⟩] scope pos) (some (.Name y py)) spos.line X.env=pure true:=by rfl)
  (hs:∀x,foldedSetIterable iter X.env x=pure x:=by intro _;rfl) :
  PS X (.Assign [.Name y py] (.ListComp elt [⟨tg,iter,ifs,0⟩] scope pos) spos) (tAsg (xK7 wi g tc te Tn.length js) (xJ2 i)):=by
 intro pins s σ H D0 I hq;have cs:=CompScope.of h;rw[exec_Assign_Name_used _ _ _ _ hsw];refine wpAny_bind (wpAny_standAt (wpAny_bind ?_));show wpAny _ X.A (do let _ <- comprehension (.ListComp elt [⟨tg,iter,ifs,0⟩] scope pos) scope X.env _ (newList []) false (eval iter X.env) (some (assign (.Name y py) X.env))) _ _ s;refine wpAny_bind (wpAny_mono (wpAny_comprehension_free (use:=some (assign (.Name y py) X.env)) (Q:=fun _ s'=>SP X pins D0 .next s') rfl hs (zG5 ?_) cs.kind cs.loc
  (thn (hi pins s σ H _ I hq) fun xv s1 h1=>thn h1 fun itv s2 h2=>?_)) (fun _ s' hq=>wpAny_pure (wpAny_pure hq)) fun _ _ e=>e)
 ·intro x hx e;exact I.ok.has x.1 (.inl (cs.fre x hx e))
 obtain⟨it,fp,tn,J,H2,rfl,I2,T,st2,f2,hb⟩:=h2;refine zZ4 (Z:=fun D H'=>D0.nx (σ.set i (some (.ref D))) H') (RR:=fun acc C=>compPost (model X.prog X.w) X.A X.xe (some (assign (.Name y py) X.env)) (fun _ s'=>SP X pins D0 .next s') acc C) hc cs hg ht he I2 T st2 f2 hb ?_;intro D C s' H' m hm I' hn cf z;show wpAny _ X.A (assign (.Name y py) X.env (.ref D)) _ _ s';refine wpAny_assign_Name (zU8 (v:=.ref D) I' hN hiN (.inl hy) rfl (fun s'' I'' sb=>?_) (.inr hy));obtain⟨a,sb,ha⟩:=sb;have hCa:C≠a:=by
  rcases ha with e | e
  ·rw[e];exact cf.nl
  ·exact fun z=>cf.nc _ _ e z.symm
 exact⟨m,hm.sameBut sb hCa,fun h' sb'=>⟨_,H',I''.letgo hn cf sb',z⟩⟩
end
theorem zA9 {K:Ă}{a:Addr}{xs:List V}{g:TG}{tc:TT}{te:TE}{D:Addr}{Z:Hp->Prop}{σ:St}{H:Hp}(Pv:Nat->St->Hp->Prop)(h0:Pv 0 σ H)(hl:∀i σ H,i<=xs.length->Pv i σ H->SqL K H a xs)
  (hs:∀i x σ H,xs[i]?=some x->Pv i σ H->g x σ H fun σ2 H2=>tc σ2 H2 fun b H3=>if b=true then te σ2 H3 fun y H4=>∃ys,H4 D=some (.lst ys) /\ ys.length<sizeLine /\ Pv (i+1) σ2 (upd H4 D (.lst (ys++[y]))) else Pv (i+1) σ2 H3)
  (hd:∀σ H,Pv xs.length σ H->Z H):zK9 (Itl K a) g tc te D Z σ H:=by
 refine⟨fun i m σ H=>m=xs.length - i /\ i<=xs.length /\ Pv i σ H,⟨xs.length,by simp,Ħ _,h0⟩,?_⟩;rintro i m σ H ⟨rfl,hi,p⟩;have q:=hl i σ H hi p
 by_cases hlt:i<xs.length
 ·refine .inr ⟨⟨xs,xs[i],q,by simp[hlt]⟩,Pv (i+1),fun σ' H' p'=>⟨xs.length - (i+1),by lia,rfl,hlt,p'⟩,fun x H' y=>?_⟩;obtain⟨e,y⟩:=y;subst e;exact hs i x σ _ (y xs q) p
 ·have e:i=xs.length:=by lia
  subst e;exact .inl ⟨⟨xs,q,ą _⟩,hd σ H p⟩
theorem zF1 {lo:Int}{n:Nat}{g:TG}{tc:TT}{te:TE}{D:Addr}{Z:Hp->Prop}{σ:St}{H:Hp}(Pv:Nat->St->Hp->Prop)(h0:Pv 0 σ H)
  (hs:∀i σ H,i<n->Pv i σ H->g (.int (lo+i)) σ H fun σ2 H2=>tc σ2 H2 fun b H3=>if b=true then te σ2 H3 fun y H4=>∃ys,H4 D=some (.lst ys) /\ ys.length<sizeLine /\ Pv (i+1) σ2 (upd H4 D (.lst (ys++[y]))) else Pv (i+1) σ2 H3)
  (hd:∀σ H,Pv n σ H->Z H):zK9 (Itr lo n) g tc te D Z σ H:=by
 refine⟨fun i m σ H=>m=n - i /\ i<=n /\ Pv i σ H,⟨n,by simp,Ħ _,h0⟩,?_⟩;rintro i m σ H ⟨rfl,hi,p⟩
 by_cases hlt:i<n
 ·refine .inr ⟨hlt,Pv (i+1),fun σ' H' p'=>⟨n - (i+1),by lia,rfl,hlt,p'⟩,fun x H' y=>?_⟩;obtain⟨e,y⟩:=y;subst e y;exact hs i σ _ hlt p
 ·have e:i=n:=by lia
  subst e;exact .inl ⟨ą _,hd σ H p⟩
mutual
noncomputable def RepD (K:Ă)(H:Hp):PyData->V->Prop
 | .none,v=>v = .non
 | .bool b,v=>v = .bl b
 | .int i,v=>v = .int i
 | .str x,v=>v = .str x /\ (PyData.str x).canLay0=true
 | .tuple xs,v=>∃a vs,v = .ref a /\ SqT K H a vs /\ RepDs K H xs vs
 | .list xs,v=>∃a vs,v = .ref a /\ SqL K H a vs /\ RepDs K H xs vs
 | .dict _,_=>False
noncomputable def RepDs (K:Ă)(H:Hp):List PyData->List V->Prop
 | [],vs=>vs=[]
 | d::ds,vs=>∃v r,vs=v::r /\ RepD K H d v /\ RepDs K H ds r
end
section
variable {X:Cx}{pins:List (Addr×Obj)}{σ:St}{H:Hp}{s:Shared}
mutual
theorem RepD.reads (I:Inv X pins σ H s):∀{d:PyData} {v:V} {u:Value},RepD X.K H d v->RelV v u->∃as,Reads s.heap u d as
 | .none,v,u,h,r=>by
  have h:v = .non:=by simpa[RepD] using h
  subst h;cases r;exact⟨_,.none⟩
 | .bool b,v,u,h,r=>by
  have h:v = .bl b:=by simpa[RepD] using h
  subst h;cases r;exact⟨_,.bool b⟩
 | .int i,v,u,h,r=>by
  have h:v = .int i:=by simpa[RepD] using h
  subst h;obtain⟨t,rfl⟩:=r;exact⟨_,.int i t⟩
 | .str x,v,u,h,r=>by
  simp only[RepD]at h;obtain⟨rfl,_⟩:=h;obtain⟨t,rfl⟩:=r;exact⟨_,.str x t⟩
 | .tuple xs,v,u,h,r=>by
  have h:∃a vs,v = .ref a /\ SqT X.K H a vs /\ RepDs X.K H xs vs:=by simpa[RepD] using h
  obtain⟨a,vs,rfl,q,rs⟩:=h;cases r;obtain⟨its,rv,p,_⟩:=I.tuple q;obtain⟨o,e,c,n,d⟩:=(show s.heap.IsTuple a its.toArray from p);obtain⟨as,ra⟩:=RepDs.reads I rs rv;exact⟨_,.tuple e c d (by simpa using ra)⟩
 | .list xs,v,u,h,r=>by
  have h:∃a vs,v = .ref a /\ SqL X.K H a vs /\ RepDs X.K H xs vs:=by simpa[RepD] using h
  obtain⟨a,vs,rfl,q,rs⟩:=h;cases r;obtain⟨its,rv,p,_⟩:=I.list q;obtain⟨o,e,c,n,d⟩:=p.isList;obtain⟨as,ra⟩:=RepDs.reads I rs rv;exact⟨_,.list e c d (by simpa using ra)⟩
 | .dict _,v,u,h,r=>by
  have h:False:=by simpa[RepD] using h
  exact h.elim
theorem RepDs.reads (I:Inv X pins σ H s):∀{ds:List PyData} {vs:List V} {us:List Value},RepDs X.K H ds vs->Vals vs us->∃as,ReadsAll s.heap us ds as
 | [],vs,us,h,r=>by
  have h:vs=[]:=by simpa[RepDs] using h
  subst h;cases r;exact⟨_,.nil⟩
 | d::ds,vs,us,h,r=>by
  have h:∃v r,vs=v::r /\ RepD X.K H d v /\ RepDs X.K H ds r:=by simpa[RepDs] using h
  obtain⟨v,rs,rfl,h1,h2⟩:=h;cases r with
  | cons a b =>
   obtain⟨as,r1⟩:=RepD.reads I h1 a;obtain⟨bs,r2⟩:=RepDs.reads I h2 b;exact⟨_,.cons r1 r2⟩
end
mutual
theorem RepD.lay {K:Ă}:∀{d:PyData} {v:V},RepD K H d v->d.canLay0=true
 | .none,_,_=>rfl
 | .bool _,_,_=>rfl
 | .int _,_,_=>rfl
 | .str x,v,h=>by
  simp only[RepD]at h;exact h.2
 | .tuple xs,v,h=>by
  have h:∃a vs,v = .ref a /\ SqT K H a vs /\ RepDs K H xs vs:=by simpa[RepD] using h
  obtain⟨a,vs,rfl,q,rs⟩:=h;have:=RepDs.lay rs;simpa[PyData.canLay0] using this
 | .list xs,v,h=>by
  have h:∃a vs,v = .ref a /\ SqL K H a vs /\ RepDs K H xs vs:=by simpa[RepD] using h
  obtain⟨a,vs,rfl,q,rs⟩:=h;have:=RepDs.lay rs;simpa[PyData.canLay0] using this
 | .dict _,v,h=>by
  have h:False:=by simpa[RepD] using h
  exact h.elim
theorem RepDs.lay {K:Ă}:∀{ds:List PyData} {vs:List V},RepDs K H ds vs->PyData.canLayAll0 ds=true
 | [],_,_=>rfl
 | d::ds,vs,h=>by
  have h:∃v r,vs=v::r /\ RepD K H d v /\ RepDs K H ds r:=by simpa[RepDs] using h
  obtain⟨v,rs,rfl,h1,h2⟩:=h;have a:=RepD.lay h1;have b:=RepDs.lay h2;simp[PyData.canLayAll0,a,b]
end
end
section
variable {X:Cx}{k:Nat}
noncomputable def rEqD (K:Ă):R2:=fun x y H Q=>∃d d',RepD K H d x /\ RepD K H d' y /\ d.depth<=64 /\ Q (.bl (PyData.eqv d d')) H
noncomputable def rNeD (K:Ă):R2:=fun x y H Q=>∃d d',RepD K H d x /\ RepD K H d' y /\ d.depth<=64 /\ Q (.bl (!PyData.eqv d d')) H
theorem xN5 (hr:Room k X.A):OpR X (compareOp .Eq) (rEqD X.K):=by
 intro pins s σ H x y v u Q I rx ry h;obtain⟨d,d',h1,h2,hd,q⟩:=h;obtain⟨as,r1⟩:=h1.reads I rx;obtain⟨bs,r2⟩:=h2.reads I ry;exact SeqAt.compareEq_reads r1 r2 h1.lay h2.lay (by have:=hr.units;have:min d.depth d'.depth<=d.depth:=Nat.min_le_left _ _;lia) ⟨.bl _,H,I,rfl,q⟩
theorem xN1 (hr:Room k X.A):OpR X (compareOp .NotEq) (rNeD X.K):=by
 intro pins s σ H x y v u Q I rx ry h;obtain⟨d,d',h1,h2,hd,q⟩:=h;obtain⟨as,r1⟩:=h1.reads I rx;obtain⟨bs,r2⟩:=h2.reads I ry;exact SeqAt.compareNe_reads r1 r2 h1.lay h2.lay (by have:=hr.units;have:min d.depth d'.depth<=d.depth:=Nat.min_le_left _ _;lia) ⟨.bl _,H,I,rfl,q⟩
end
noncomputable def pq (t b:Int):PyData:=.tuple [.int t,.int b]
theorem ν {K:Ă}{H:Hp}{a:Addr}{t b:Int}(h:SqT K H a [.int t,.int b]):RepD K H (pq t b) (.ref a):=by
 simp only[pq,RepD,RepDs];exact⟨a,_,rfl,h,_,_,rfl,rfl,_,_,rfl,rfl,rfl⟩
theorem zN4 (t b t' b':Int):PyData.eqv (pq t b) (pq t' b')=decide (t=t' /\ b=b'):=by
 simp[pq,PyData.eqv,PyData.eqvAll,Bool.beq_eq_decide_eq]
theorem Ż (t b:Int):(pq t b).depth<=64:=by
 simp[pq,PyData.depth,PyData.depthAll]
section
variable {P:Program}{w:World}{K:Ă}{mg:Str->Option Value}{base:Heap}
theorem DefAt.okE {x:Str}{st:Stmt}{N ps:List Str}{k:Nat}{sp:Sp}(D:DefAt K mg x st)(S:Ë N ps (Ç st))(len:∀vs H Q E,sp vs H Q E->vs.length=ps.length)
  (hb:∀(kV doc pm:Value) (an:Option Addr) (cdv ct:Value) (us:List Value),us.length=ps.length->bindArgs (ő x x (Ρ st) (Ζ st) (Ç st) .none kV doc pm an cdv ct) ⟨us,[]⟩=pure (ps.zip us))
  (hbody:∀(f:Addr) (cdv:Value) (A:Around) (outer:List Env) (s:Shared) (H:Hp) (vs:List V) (Q:VK) (E:XK),Room k (A.deeper (envOfC x (Ç st) s.heap.objs.size f cdv))->sp vs H Q E ->
   ∃t,PSs (cxOf (CXE P w) P w K mg base N x (Ç st) f cdv A outer s H E) (Ζ st) t /\ t { nx:=fun _ H'=>Q .non H',rt:=Q } (start N vs) H):FnAt P w K mg base (CXE P w) (k+1) x ps sp:=by
 obtain⟨f,fd,F,m⟩:=D.ex;have hF:=F;obtain⟨oc,od,kV,doc,pm,an,cdv,ct,osl,rfl,lk,hcd⟩:=F.ex;exact⟨f,_,xQ1 lk hcd S len fun A outer s H vs Q E hr hsp=>hbody f cdv A outer s H vs Q E hr hsp,m,hF.kp,hF.binds hb⟩
end
theorem yQ8 {X:Cx}:yA1 (CXE X.prog X.w) X E0:=fun _ _ _ _ _ _ _ ⟨_,_,_,_,_,_,_,_,_,_,q⟩=>q.elim
end L2
namespace Tc
open PySem L2
noncomputable abbrev fq (r:Rat):List V:=[.int r.num,.int (r.den:Nat)]
noncomputable def FrV (H:Hp)(v:V)(r:Rat):Prop:=∃a,v = .ref a /\ H a=some (.tup (fq r))
theorem FrV.same {H H':Hp}{v:V}{r:Rat}(h:FrV H v r)(s:Same H H'):FrV H' v r:=let ⟨a,e,h⟩:=h;⟨a,e,s _ _ h⟩
theorem FrV.upd {H:Hp}{v:V}{r:Rat}{p:Addr}{o:HO}(h:FrV H v r)(n:H p=none):FrV (upd H p o) v r:=h.same (Same.upd n)
theorem FrV.new {H:Hp}{r:Rat}{p:Addr}:FrV (L2.upd H p (.tup (fq r))) (.ref p) r:=⟨p,rfl,Á⟩
theorem FrV.newOf {H:Hp}{r:Rat}{p:Addr}{t b:Int}(h1:t=r.num)(h2:b=(r.den:Int)):FrV (L2.upd H p (.tup [.int t,.int b])) (.ref p) r:=by
 subst h1 h2;exact FrV.new
theorem FrV.rep {K:Ă}{H:Hp}{v:V}{r:Rat}(h:FrV H v r):RepD K H (pq r.num r.den) v:=by
 obtain⟨a,rfl,h⟩:=h;exact ν (SqT.of h)
theorem ο (r q:Rat):decide (r.num=q.num /\ (r.den:Int)=q.den)=decide (r=q):=by
 rw[decide_eq_decide]
 constructor
 ·rintro⟨h1,h2⟩;exact xQ0 h1 h2
 ·rintro rfl;exact⟨rfl,rfl⟩
structure Bd (n:Nat)(r:Rat):Prop where
 num:r.num.natAbs<2^n
 den:r.den<2^n
theorem þ {m n:Nat}(h:m<=n):(2:Nat)^m<=2^n:=ħ (by decide) h
theorem Bd.mono {m n:Nat}{r:Rat}(b:Bd m r)(h:m<=n):Bd n r:=⟨č b.num (þ h),č b.den (þ h)⟩
theorem Bd.neg {n:Nat}{r:Rat}(b:Bd n r):Bd n (-r):=⟨by rw[Rat.neg_num,Int.natAbs_neg];exact b.num,by rw[Rat.neg_den];exact b.den⟩
theorem Bd.inv {n:Nat}{r:Rat}(b:Bd n r)(h:r≠0):Bd n r⁻¹:=by
 have hn:r.num≠0:=fun z=>h (Rat.num_eq_zero.mp z);have e:r⁻¹=Ě r.den r.num:=Rat.inv_def r;have e1:=zY4 (t:=(r.den:Int)) (b:=r.num) hn;have e2:=zY5 (t:=(r.den:Int)) (b:=r.num) hn;have g:ĭ (r.den:Int) r.num=1:=yH6 r;refine⟨?_,?_⟩
 ·rw[e,<- e1];have:((r.den:Int).fdiv (dv r.den r.num)).natAbs<=r.den:=by
   unfold dv;rw[g]
   split
   ·have e:((r.den:Int)).fdiv (-((1:Nat):Int)) = -(r.den:Int):=by
     show ((r.den:Int)).fdiv (-1)=_;rw[Int.fdiv_neg (by simp)];simp
    rw[e];lia
   ·have e:((r.den:Int)).fdiv (((1:Nat):Int))=(r.den:Int):=by
     show ((r.den:Int)).fdiv 1=_;simp
    rw[e];lia
  exact ď this b.den
 ·rw[e];have:((r.num).fdiv (dv r.den r.num)).natAbs<=r.num.natAbs:=by
   unfold dv;rw[g]
   split
   ·have e:(r.num).fdiv (-((1:Nat):Int)) = -r.num:=by
     show (r.num).fdiv (-1)=_;rw[Int.fdiv_neg (by simp)];simp
    rw[e];lia
   ·have e:(r.num).fdiv (((1:Nat):Int))=r.num:=by
     show (r.num).fdiv 1=_;simp
    rw[e];lia
  rw[e2]at this;have q:=b.num;lia
theorem zA0 {a b:Int}{m n:Nat}(ha:a.natAbs<2^m)(hb:b.natAbs<2^n):(a*b).natAbs<2^(m+n):=by
 rw[ł,ī];exact Nat.mul_lt_mul'' ha hb
theorem zS3 {a b:Int}{n:Nat}(ha:a.natAbs<2^n)(hb:b.natAbs<2^n):(a+b).natAbs<2^(n+1):=by
 rw[ģ];lia
theorem yU2 (t b:Int)(hb:b≠0):(Ě t b).num.natAbs<=t.natAbs:=by
 rw[<- zY4 hb];have h:=Int.fdiv_mul_cancel (zC4 t b);have h2:((t.fdiv (dv t b))*dv t b).natAbs=t.natAbs:=by rw[h]
 rw[ł]at h2;have h3:0<(dv t b).natAbs:=by have:=χ (t:=t) hb;lia
 rw[<- h2];exact Nat.le_mul_of_pos_right _ h3
theorem zY1 (t b:Int)(hb:b≠0):(Ě t b).den<=b.natAbs:=by
 have e:=zY5 (t:=t) hb;have h:=Int.fdiv_mul_cancel (zB3 t b);have h2:((b.fdiv (dv t b))*dv t b).natAbs=b.natAbs:=by rw[h]
 rw[ł,e]at h2;have h3:0<(dv t b).natAbs:=by have:=χ (t:=t) hb;lia
 have:(((Ě t b).den:Int)).natAbs<=b.natAbs:=by rw[<- h2];exact Nat.le_mul_of_pos_right _ h3
 lia
theorem Bd.divInt {n:Nat}{t b:Int}(hb:b≠0)(h1:t.natAbs<2^n)(h2:b.natAbs<2^n):Bd n (Ě t b):=⟨ď (yU2 t b hb) h1,ď (zY1 t b hb) h2⟩
theorem xE5 (r q:Rat):r+q=Ě (r.num*q.den+q.num*r.den) (r.den*q.den):=by
 have h:=Rat.divInt_add_divInt r.num q.num (d₁:=r.den) (d₂:=q.den) (by have:=Þ r;lia) (by have:=Þ q;lia);rw[ķ,ķ]at h;exact h
theorem Bd.add {m n:Nat}{r q:Rat}(b1:Bd m r)(b2:Bd n q):Bd (m+n+1) (r+q):=by
 rw[xE5];have d1:=Þ r;have d2:=Þ q;have n1:((r.den:Int)).natAbs<2^m:=b1.den;have n2:((q.den:Int)).natAbs<2^n:=b2.den;refine Bd.divInt (Int.mul_ne_zero (by lia) (by lia)) ?_ ?_
 ·refine zS3 (zA0 b1.num n2) ?_;have:=zA0 b2.num n1;rw[Nat.add_comm];exact this
 ·exact č (zA0 n1 n2) (þ (by lia))
theorem Bd.mul {m n:Nat}{r q:Rat}(b1:Bd m r)(b2:Bd n q):Bd (m+n) (r*q):=by
 rw[<- xD4];have d1:=Þ r;have d2:=Þ q;have n1:((r.den:Int)).natAbs<2^m:=b1.den;have n2:((q.den:Int)).natAbs<2^n:=b2.den;exact Bd.divInt (Int.mul_ne_zero (by lia) (by lia)) (zA0 b1.num b2.num) (zA0 n1 n2)
theorem Bd.divR {n:Nat}{r:Rat}(b:Bd n r)(h:n<=8999){i d:Int}(hd:d≠0)(hl:d.natAbs<=r.den):υ i d :=
 zI8 hd (ď hl (č b.den (þ (by lia))))
theorem Ü {α β:Type}{F:α->β->Prop}:∀{xs:List α} {ys:List β} {i:Nat} {x:α},Paired F xs ys->xs[i]?=some x->∃y,ys[i]?=some y /\ F x y
 | _,_,_,_,.nil,e=>by simp at e
 | _,_,0,_,.cons r _,e=>by simp at e;subst e;exact⟨_,rfl,r⟩
 | _,_,i+1,x,.cons _ t,e=>by
  obtain⟨u,h1,h2⟩:=Ü (i:=i) (x:=x) t (by simpa using e);exact⟨u,by simpa using h1,h2⟩
noncomputable def spCd:Sp:=fun vs H Q _=>∃t b:Int,vs=[.int t,.int b] /\ b≠0 /\ Q (.int (dv t b)) H
noncomputable def sp2 (n:Nat)(f:Rat->Rat->Rat):Sp:=fun vs H Q _=>∃x y r q,vs=[x,y] /\ FrV H x r /\ FrV H y q /\ Bd n r /\ Bd n q /\ ∀v H',Same H H'->FrV H' v (f r q)->Q v H'
noncomputable abbrev π:Sp:=sp2 8000 (·+·)
noncomputable abbrev zH1:Sp:=sp2 8000 (· - ·)
noncomputable abbrev spTimes:Sp:=fun vs H Q _=>∃x y a b t1 b1 t2 b2,vs=[x,y] /\ x = .ref a /\ H a=some (.tup [.int t1,.int b1]) /\ y = .ref b /\ H b=some (.tup [.int t2,.int b2]) /\ 0<b1 /\ b2≠0 /\ ĭ t1 b1=1 /\ ĭ t2 b2=1 /\
 (t1.natAbs<2^8000 /\ b1.natAbs<2^8000 /\ t2.natAbs<2^8000 /\ b2.natAbs<2^8000) /\ ∀v H',Same H H'->FrV H' v (Ě (t1*t2) (b1*b2))->Q v H'
theorem spTimes.of {vs:List V}{H:Hp}{Q:VK}{E:XK}{x y:V}{r q:Rat}(e:vs=[x,y])(h1:FrV H x r)(h2:FrV H y q)(b1:Bd 8000 r)(b2:Bd 8000 q)(k:∀v H',Same H H'->FrV H' v (r*q)->Q v H'):spTimes vs H Q E:=by
 obtain⟨a,rfl,ha⟩:=h1;obtain⟨b,rfl,hb⟩:=h2;have d1:=Þ r;have d2:=Þ q;exact⟨_,_,a,b,r.num,r.den,q.num,q.den,e,rfl,ha,rfl,hb,d1,by lia,zR0 r,zR0 q,⟨b1.num,b1.den,b2.num,b2.den⟩,fun v H' s h=>k v H' s (by rw[<- xD4];exact h)⟩
noncomputable def yF1 (C:Addr):Sp:=fun vs H Q E=>∃x y r q,vs=[x,y] /\ FrV H x r /\ FrV H y q /\ Bd 8000 r /\ Bd 8000 q /\ (q≠0->∀v H',Same H H'->FrV H' v (r / q)->Q v H') /\ (q=0->E (.ref C) none H)
noncomputable def zE4:Sp:=fun vs H Q _=>∃x y r q,vs=[x,y] /\ FrV H x r /\ FrV H y q /\ Bd 8000 r /\ Bd 8000 q /\ Q (.bl (decide (r<q))) H
noncomputable def sumQ (rs:List Rat):Rat:=rs.foldl (·+·) 0
theorem yM6 {rs:List Rat}{i:Nat}{r:Rat}(h:rs[i]?=some r):sumQ (rs.take (i+1))=sumQ (rs.take i)+r:=by
 unfold sumQ;rw[Ŀ,h,Ţ];rfl
noncomputable def yA4 (K:Ă):Sp:=fun vs H Q _=>∃(a:Addr) (xs:List V) (rs:List Rat),vs=[.ref a] /\ SqL K H a xs /\ Paired (FrV H) xs rs /\ (∀r∈rs,Bd 8000 r) /\ (∀k,k<=rs.length->Bd 8000 (sumQ (rs.take k))) /\ ∀v H',Same H H'->FrV H' v (sumQ rs)->Q v H'
noncomputable def xC9 (K:Ă):Sp:=fun vs H Q _=>∃(a:Addr) (ns:List Int) (k:Int),vs=[.ref a,.int k] /\ SqL K H a (ns.map V.int) /\ 0<=k /\ ∀c:Int,Q (.int c) H
noncomputable def zV3:Sp:=fun vs H Q _=>∃a b:Int,vs=[.int a,.int b] /\ Q (.int (ĭ a b:Nat)) H
noncomputable def spLaw (K:Ă):Sp:=fun vs H Q _=>∃(a:Addr) (ns:List Int),vs=[.ref a] /\ SqL K H a (ns.map V.int) /\ ns.length<=63 /\ ∀H',Q (.bl true) H'
theorem sz {n:Nat}(h:n<=1000):n<=sizeLine:=Ş (zF5 h)
theorem xO1 {ns:List Int}{k:Int}(h0:0<=k)(h1:k<(ns.map V.int).length):∃c:Int,atI (ns.map V.int) k=some (V.int c):=by
 obtain⟨j,rfl⟩:=Ğ h0;have hj:j<ns.length:=by rw[ā]at h1;lia
 refine⟨ns[j],ò ?_⟩;rw[Ĉ,Ā hj]
 rfl
theorem ù {c m:Int}(h:0<m):0<=c.fmod m /\ c.fmod m<m:=zK7 h
theorem ŵ {p:Prop}[Decidable p]{A B:Prop}(hp:p)(h:A):if decide p=true then A else B:=by
 rw[decide_eq_true hp];exact iteT h
theorem é {p:Prop}[Decidable p]{A B:Prop}(hp:¬p)(h:B):if decide p=true then A else B:=by
 rw[decide_eq_false hp];exact iteF h
theorem yK1 {α β:Type}{F:α->β->Prop}{xs:List α}{ys:List β}(h:Paired F xs ys):Paired F xs.reverse ys.reverse:=by
 induction h with
 | nil=>exact .nil
 | cons r t ih=>rw[List.reverse_cons,List.reverse_cons];exact ih.snoc r
end Tc
namespace L2
open PySem PySem.Spec PyProof.Rows
theorem xR1:bootBuiltins "any" = some (.builtin "any"):=by decide +kernel
theorem zG8:∀{bs:List Bool} {vs:List Value},Vals (bs.map V.bl) vs->LSm.BoolsAre vs bs
 | [],_,.nil=>.nil
 | b::bs,_,.cons r t=>by cases r;exact .cons b (zG8 t)
section
variable {X:Cx}
theorem Inv.newsAll {pins:List (Addr×Obj)}{σ:St}{H:Hp}{s:Shared}{h':Heap}{tk:Nat}{m:Str->Option Value}(I:Inv X pins σ H s)(hm:s.heap.Ns X.env.locals m)(F:Fr X.base X.env.locals h' m)
  (N:News X.base X.env.locals h' (zT7 X.base s.heap X.env.locals)):Inv X pins σ H { s with heap:=h',toks:=tk }:=by
 have kk:∀b o,b≠X.env.locals->s.heap.get? b=some o->h'.get? b=some o:=fun b o hb e=>by
  cases q:X.base.get? b with
  | none=>exact(N (b,o) (yC4 hb q e)).1
  | some u =>
   have z:=I.bk b u q;rw[e]at z;cases z;exact F.keep b _ q
 have hL:∃o',h'.get? X.env.locals=some o':=let ⟨o,_,_,e,_⟩:=F.ns;⟨o,e⟩;refine I.step (g':=s.gens) (d':=s.drawn) (ch:=[]) (fun _ z=>nomatch z) (fun b o hb _ _ e _=>kk b o hb e) (fun b o hb _ _ e _=>⟨o.slots,kk b o hb e⟩) (fun _ _ _ _ n=>n) (fun b o _ e=>?_)
  (fun _ _ e=>e) (fun _ _ _ e=>e) (fun b ps e=>⟨#[],by rw[e];simp⟩) (fun m' hm'=>?_) (fun b u e=>?_) I.bare
 ·by_cases hb:b=X.env.locals
  ·rw[hb];exact hL
  ·exact⟨o,kk b o hb e⟩
 ·have em:m'=m:=by
   obtain⟨o1,es1,ep1,g1,d1,_,f1⟩:=hm;obtain⟨o2,es2,ep2,g2,d2,_,f2⟩:=hm';rw[g1]at g2;cases g2;rw[d1]at d2;cases d2
   funext z
   exact(f2 z).symm.trans (f1 z)
  rw[em];exact F.ns
 ·refine(I.hok b u e).stay (fun c v hc q=>kk c v ?_ q) (fun _ q=>q) fun _ _ q=>q;intro z;subst z;rcases hc with z | z
  ·rw[<- z,I.free]at e;cases e
  ·rw[I.free]at z;cases z
theorem xB1 (hc:X.calm=true):Φ X (.builtin "any") (fun xs H Q=>∃(a:Addr) (bs:List Bool),xs=[V.ref a] /\ SqL X.K H a (bs.map V.bl) /\ Q (.bl (bs.any id)) H):=by
 intro pins s σ H xs us Q I r h;obtain⟨l,bs,rfl,hq,q⟩:=h;obtain⟨u,rfl,ru⟩:=ι r;cases ru;obtain⟨vs,rv,p,_⟩:=I.list hq;obtain⟨m,hm,_⟩:=id I.loc;have F0:Fr X.base X.env.locals s.heap m:=⟨hm,I.bk,Č I.ok.bsz I.ok.above⟩;exact LSm.any_bools F0 yZ3 (I.ok.hd hc) p.isList (zG8 rv) fun h' tk F' N'=>⟨.bl _,H,I.newsAll hm F' N',rfl,q⟩
end
section
variable {X:Cx}{K:Ă}
theorem xI5 (h:X.K=K):IxR X (rIxT K):=by subst h;exact xP0
theorem xA1 (h:X.K=K):IxR X (rIxL K):=by subst h;exact xI6
theorem xF5 (h:X.K=K):SlR X (rSlT K):=by subst h;exact xL4
theorem zK2 (h:X.K=K):SlR X (rSlL K):=by subst h;exact xF6
theorem zM5 {k:Nat}(h:X.K=K)(hr:Room k X.A):OpR X (compareOp .Eq) (rEqD K):=by subst h;exact xN5 hr
theorem zM4 {k:Nat}(h:X.K=K)(hr:Room k X.A):OpR X (compareOp .NotEq) (rNeD K):=by subst h;exact xN1 hr
theorem ê (h:X.K=K):Φ X (.builtin "len") (fun xs H Q=>∃x n,xs=[x] /\ LenV K x H n /\ Q (.int n) H):=by subst h;exact xA9
theorem zZ2 (h:X.K=K):Φ X (.builtin "isinstance") (fun xs H Q=>∃x n t b,xs=[x,.ty n] /\ TyOf K H x t /\ PySem.W.kitOne K t (.type n)=some b /\ Q (.bl b) H):=by subst h;exact xB0
theorem zC5 (h:X.K=K):Φ X (.type "list") (fun xs H Q=>∃p ys,xs=[.ref p] /\ (SqL K H p ys \/ SqT K H p ys) /\ ∀l,H l=none->Q (.ref l) (upd H l (.lst ys))):=by subst h;exact zZ1
theorem yV7 (h:X.K=K)(hc:X.calm=true):Φ X (.builtin "any") (fun xs H Q=>∃(a:Addr) (bs:List Bool),xs=[V.ref a] /\ SqL K H a (bs.map V.bl) /\ Q (.bl (bs.any id)) H):=by subst h;exact xB1 hc
theorem ï {tg l:Expr}{tl:TE}(h:X.K=K)(hl:PE X l tl):PI X tg l (xP4 K tl):=by subst h;exact xG7 hl
end
theorem Same.updD {H H':Hp}{D:Addr}{o:HO}(s:Same H H')(h:H D=none):Same H (L2.upd H' D o):=fun b u e=>by
 rw[L2.upd_ne (Æ e h)];exact s b u e
theorem zA5:∀{ys:List Str} {vs:List Value},Vals (ys.map V.str) vs->StrsAre vs ys
 | [],_,.nil=>.nil
 | y::ys,_,.cons r t=>by obtain⟨tk,rfl⟩:=r;exact .cons y tk (zA5 t)
section
variable {X:Cx}{K:Ă}
noncomputable def xT4 (K:Ă):V->List V->Hp->VK->Prop:=fun x vs H Q=>∃(z:Str) (a:Addr) (ys:List Str),x = .str z /\ vs=[.ref a] /\ SqL K H a (ys.map V.str) /\ (ys.map (·.length)).sum+ys.length*z.length<=16777216 /\ Q (.str (Txt.join z ys)) H
theorem yZ4 (h:X.K=K):MtR X "str.join" (xT4 K):=by
 subst h;intro pins s σ H x xs v us Q I rx rv h;obtain⟨z,a,ys,rfl,rfl,hq,hz,q⟩:=h;obtain⟨t,rfl⟩:=rx;obtain⟨u,rfl,ru⟩:=Vals.one rv;cases ru;obtain⟨its,r,p,_⟩:=I.list hq;exact join_list p.isList (by simpa using zA5 r) hz fun t' k=>⟨.str _,H,I.tok k,⟨t',rfl⟩,q⟩
theorem xD2 {o e:Expr}{es:List Expr}{to:TE}{t:TA}{name:Str}{apos cpos:Pos}{T id:String}{r:V->List V->Hp->VK->Prop}(h:X.K=K)(pa:PlainAttrs T)(slot:Slot T name id)(hty:typeOf (.builtin id)=pure (.type "method_descriptor"))
  (hm:MtR X id r)(ho:PE X o to)(ha:PA X (e::es) t)(hbase:attributeBase o name X.env (eval o X.env)=eval o X.env:=by rfl)
  (hfew:((backTo cpos (starEach (e::es) X.env)).all (fun x=>!x.1)&&(backToKw cpos (keywordEach [] X.env)).all (fun x=>x.1.isSome)&&decide ((e::es).length+([]:List Keyword).length+(if ([]:List Keyword).isEmpty then 0 else 1)<30))=true:=by rfl)
  (hline:(apos.endLine==cpos.line)=true:=by rfl)(hs:starEach (e::es) X.env=(false,eval e X.env)::starEach es X.env:=by rfl)(hplain:(backTo cpos (starEach es X.env)).any (·.1)=false:=by rfl) :
  PE X (.Call (.Attribute o name apos) (e::es) [] cpos) (tBM K T r to t):=by subst h;exact θ pa slot hty hm ho ha hbase hfew hline hs hplain
theorem yQ3 {es:List Expr}{k:Nat}{t:TGs}{n:Nat}{pos:Pos}(h:X.K=K)(hc:X.calm=true)(hp:PGs X es t)(hn:(assignEach es X.env).length=n:=by rfl)(hst:(assignEach es X.env).findIdx? (·.1)=none:=by rfl) :
  PG X (.Tuple es k pos) (gTup K n t):=by subst h;exact Η hc hp hn hst
end
end L2
namespace Tc
open PySem L2
noncomputable abbrev one1 (c:Nat):Str:=⟨#[c]⟩
theorem yD0:∀cs:List Nat,Txt.join "" (cs.map one1)=⟨cs.toArray⟩:=by
 intro cs;rw[eq_of_beq (PyProof.Rows.join_plain_closes _ _)];have e:(Str.ofString "")=⟨#[]⟩:=by decide +kernel
 show Str.join (Str.ofString "") _=_;rw[e]
 induction cs with
 | nil=>rfl
 | cons c cs ih =>
  rw[ĩ,PyProof.Rows.join_nil_cons,ih];show (⟨#[c]++cs.toArray⟩:Str)=_;simp
theorem yX0 (cs:List Nat):((cs.map one1).map (·.length)).sum=cs.length:=by
 induction cs with
 | nil=>rfl
 | cons c cs ih =>
  rw[ĩ,ĩ,List.sum_cons,ih,ğ];show 1+_=_;lia
theorem yT3 (cs:List Nat)(h:cs.length<=1000000):((cs.map one1).map (·.length)).sum+(cs.map one1).length*(Str.ofString "").length<=16777216:=by
 have e:(Str.ofString "").length=0:=by decide +kernel
 rw[yX0,e];lia
noncomputable abbrev LT:Str:="abcdefghijklmnopqrstuvwxyz"
theorem xO2:LT.cps.toList.length=26:=by decide +kernel
theorem xK9 {zs:List Str}{k:Int}(h0:0<=k)(h1:k<zs.length):∃z,z∈zs /\ atI (zs.map V.str) k=some (V.str z):=by
 obtain⟨j,rfl⟩:=Ğ h0;have hj:j<zs.length:=by lia
 refine⟨zs[j],List.getElem_mem hj,ò ?_⟩;rw[Ĉ,Ā hj];rfl
theorem ddv {i d:Int}(h1:0<d)(h2:d<=1000000):υ i d:=zI8 (by lia) (ď (m:=1000000) (by lia) (by decide))
end Tc
namespace L2
open PySem PySem.Spec PyProof.Rows
noncomputable def RawD (h:Heap)(d:Addr)(es:Array DictEntry)(ep:Nat):Prop:=∃o,h.get? d=some o /\ o.ExactDict /\ o.data = .dict es ep
theorem RawD.at {h h':Heap}{d:Addr}{es:Array DictEntry}{ep:Nat}(x:RawD h d es ep)(e:∀o,h.get? d=some o->h'.get? d=some o):RawD h' d es ep:=let ⟨o,q,r⟩:=x;⟨o,e o q,r⟩
theorem RawD.ty {s:Shared}{d:Addr}{es:Array DictEntry}{ep:Nat}(x:RawD s.heap d es ep):s.TypeIs (.ref d) "dict":=let ⟨o,q,c,_⟩:=x;⟨o,q,c.1⟩
section
variable {prog:Program}{w:World}{A:Around}{E:Value->Shared->Prop}{s:Shared}{it d vw:Addr}{i ep:Nat}{es:Array DictEntry}{ok ov:Value}
theorem yP2 (hd:(d==sysModules)=false):MeetsIn prog w (Builtin.«dict.items» ⟨[.ref d],[]⟩) (fun _ R s=>(∃es ep,RawD s.heap d es ep) /\ R (.ok (.ret (.ref s.heap.objs.size))) { s with heap:=s.heap.push { cls:=.type "dict_items",data:=.fields #[.ref d] } }) :=
 .of_wp fun A R s ⟨⟨es,ep,hm⟩,h⟩=>by
  unfold Builtin.«dict.items» Builtin.Dict.noArgs;refine wpAny_bind (wpAny_bind (wpAny_notOrdered_dict hm.ty ?_));show wpAny _ _ (pure d) _ _ s;refine wpAny_pure ?_;show wpAny _ _ (Builtin.Dict.showsAll d >>= _) _ _ s;unfold Builtin.Dict.showsAll;rw[if_neg (show ¬((d==sysModules)=true) by rw[hd];simp)];exact wpAny_bind (wpAny_pure (wpAny_bind (wpAny_newObj_type (wpAny_pure ⟨_,rfl,h⟩))))
theorem yX7 {Q:Value->Shared->Prop}(hv:s.heap.IsItemsView vw d)(hm:RawD s.heap d es ep)
  (q:Q (.ref s.heap.objs.size) { s with heap:=s.heap.push { cls:=.type "dict_itemiterator",data:=.fields #[.none,.bool false,.ref d,.int 0 0,.int es.size 0,.int ep 0,.none,.none] } }):wpAny (model prog w) A (pyIter (.ref vw)) Q E s:=by
 obtain⟨o1,g1,c1,f1⟩:=id hv;obtain⟨o2,g2,c2,f2⟩:=id hm;refine wpAny_pyIter_slot hv.typeIs F.slot_dict_items_iter (wpAny_call_entry F.slot_dict_items_iter hv.typeIs F.entry_dict_items_iter (?_) (F.args_dict_items_iter_1 (_)));unfold Builtin.«dict_items.__iter__» Builtin.Dict_items.dictOf Builtin.Dict_items.newIterator;refine wpAny_bind (wpAny_pure (wpAny_bind (wpAny_bind (wpAny_field g1 f1 (x:=.ref d) rfl (wpAny_pure (wpAny_bind (wpAny_bind (wpAny_dictEntries g2 f2 (wpAny_bind (wpAny_dictEpoch g2 f2 ?_))))))))));have hown:(Builtin.Dict_items.ownsTuple "dict_itemiterator")=true:=by decide
 simp only[hown,if_true];refine wpAny_newObj_type (wpAny_pure ⟨_,rfl,"dict_itemiterator",_,⟨_,ē (_) rfl,rfl⟩,F.slot_dict_itemiterator_next.lookup,(?_)⟩) (by
  simp only[sizeOk,Builtin.Dict_items.ownedTupleFields,ĕ,Ď,ğ,List.length_nil,sizeLine_eq];lia)
 simpa[rawInt,Builtin.Dict_items.ownedTupleFields] using q
theorem yX6 {Q:Option Value->Shared->Prop}(hit:IsItemIter s.heap it d i es.size ep ok ov)(hm:RawD s.heap d es ep)(hi:i<es.size)
  (q:∀h',IsItemIterOut h' it d (i+1) es.size ep es[i].key es[i].val s.heap.objs.size->h'.get? s.heap.objs.size=some { cls:=.type "tuple",data:=.seq #[es[i].key,es[i].val] } ->
   (∀b o,b≠it->s.heap.get? b=some o->h'.get? b=some o)->Q (some (.ref s.heap.objs.size)) { s with heap:=h' }):wpAny (model prog w) A (pyNext (.ref it)) Q E s:=by
 obtain⟨h0,g,dr,tk,os⟩:=s;obtain⟨o2,g2,c2,f2⟩:=id hm;have ty:Shared.TypeIs ⟨h0,g,dr,tk,os⟩ (.ref it) "dict_itemiterator":=⟨_,hit,rfl⟩;have hown:(Builtin.Dict_items.ownsTuple "dict_itemiterator")=true:=by decide
 unfold pyNext;refine wpAny_bind (wpAny_attempt (wpAny_callSpecial?_slot (name:=Str.ofString "__next__") ty F.slot_dict_itemiterator_next (wpAny_call_entry F.slot_dict_itemiterator_next ty F.entry_dict_itemiterator_next ?_ (F.args_dict_itemiterator_next_1 _))));refine wpAny_bind (wpAny_pure (wpAny_bind (wpAny_bind ?_)))
 first | refine wpAny_bind (wpAny_typeNameOfWhole_itemiter ty (wpAny_pure (wpAny_bind (wpAny_fieldsOf hit rfl ?_)))) | refine wpAny_bind (wpAny_typeNameOf_itemiter ty (wpAny_pure (wpAny_bind (wpAny_fieldsOf hit rfl ?_))))
 simp only[hown,if_true];show wpAny _ _ (if (Value.ref d == .none)=true then _ else _) _ _ _;rw[if_neg (show ¬((Value.ref d == .none)=true) from Ę)];refine wpAny_bind (wpAny_pure (wpAny_bind (wpAny_dictEntries g2 f2 ?_)));rw[if_neg (show ¬_ by simp)];refine wpAny_bind (wpAny_pure (wpAny_bind (wpAny_dictEpoch g2 f2 ?_)));rw[if_neg (show ¬_ by simp)];refine wpAny_pure ?_;simp only[show ¬((i:Int)<0) by lia,if_false,Ő,Array.getElem?_eq_getElem hi];refine wpAny_bind ?_
 first | refine wpAny_bind (wpAny_typeNameOfWhole_itemiter ty (wpAny_pure (wpAny_bind (wpAny_isOneOf_itemiter ty ?_)))) | refine wpAny_bind (wpAny_typeNameOf_itemiter ty (wpAny_pure (wpAny_bind (wpAny_isOneOf_itemiter ty ?_))))
 show wpAny _ _ (setField (.ref it) 3 (rawInt ((i:Int)+1)) >>= _) _ _ (⟨h0,g,dr,tk,os⟩:Shared);refine wpAny_bind (wpAny_setField_rec hit (by simp) fun ha ia sa=>?_);have sa:Heap.SameBut it h0 ha:=sa;have ia:IsItemIter ha it d (i+1) es.size ep ok ov:=by
  have e:((i+1:Nat):Int)=(i:Int)+1:=rfl;unfold IsItemIter;rw[e];simpa[rawInt] using ia
 have tya:Shared.TypeIs ⟨ha,g,dr,tk,os⟩ (.ref it) "dict_itemiterator":=⟨_,ia,rfl⟩;refine wpAny_bind (wpAny_holding (wpAny_bind (wpAny_isOneOf_itemiter tya (wpAny_bind (wpAny_isOneOf_itemiter tya ?_)))));show wpAny _ _ (Builtin.Dict_items.pairFromOwner (.ref it) 6 es[i].key es[i].val) _ _ (⟨ha,g,dr,tk,os⟩:Shared);unfold Builtin.Dict_items.pairFromOwner;refine wpAny_bind (wpAny_newTuple ?_);have za:ha.objs.size=h0.objs.size:=sa.1;have lt:it<h0.objs.size:=ĉ hit;have ne:h0.objs.size≠it:=ĥ lt;obtain⟨hb,ehb⟩:∃hb,hb=ha.push { cls:=.type "tuple",data:=.seq #[es[i].key,es[i].val] }:=⟨_,rfl⟩;have ib:IsItemIter hb it d (i+1) es.size ep ok ov:=by rw[ehb];exact ć _ ia
 have tb:hb.get? h0.objs.size=some { cls:=.type "tuple",data:=.seq #[es[i].key,es[i].val] }:=by rw[ehb,<- za];exact ē _ rfl
 have kb:∀b o,b≠it->h0.get? b=some o->hb.get? b=some o:=fun b o n e=>by rw[ehb];exact ć _ (sa.extBut b o n e)
 rw[<- ehb];show wpAny _ _ (Builtin.Dict_items.ownedTupleIsFree (.ref it) >>= _) _ _ (⟨hb,g,dr,tk,os⟩:Shared);rw[za];unfold Builtin.Dict_items.ownedTupleIsFree;refine wpAny_bind (wpAny_bind (wpAny_field ib rfl (x:=.none) rfl (wpAny_pure ?_)));simp only[if_true];refine wpAny_bind (wpAny_field ib rfl (x:=ok) rfl (wpAny_bind (wpAny_field ib rfl (x:=ov) rfl (wpAny_bind (wpAny_setField_rec ib (by simp) fun hc ic sc=>?_)))));have sc:Heap.SameBut it hb hc:=sc;have ic:IsItemIter hc it d (i+1) es.size ep es[i].key ov:=ic;refine wpAny_bind (wpAny_setField_rec ic (by simp) fun hd' id' sd=>?_);have sd:Heap.SameBut it hc hd':=sd;have id':IsItemIter hd' it d (i+1) es.size ep es[i].key es[i].val:=id';refine wpAny_bind (wpAny_setField_rec id' (by simp) fun he ie se=>?_);have se:Heap.SameBut it hd' he:=se;have ie:IsItemIterOut he it d (i+1) es.size ep es[i].key es[i].val h0.objs.size:=ie;refine wpAny_bind (wpAny_setField_rec ie (by simp) fun hf jf sf=>?_);have sf:Heap.SameBut it he hf:=sf;have jf:IsItemIterOut hf it d (i+1) es.size ep es[i].key es[i].val h0.objs.size:=jf;have up:∀b o,b≠it->hb.get? b=some o->hf.get? b=some o:=fun b o n e=>sf.extBut b o n (se.extBut b o n (sd.extBut b o n (sc.extBut b o n e)));exact wpAny_bind (wpAny_letGo (wpAny_pure (wpAny_pure ⟨_,rfl,wpAny_pure (q hf jf (up _ _ ne tb) fun b o n e=>up b o n (kb b o n e))⟩)))
theorem xG0 {Q:Option Value->Shared->Prop}(hh:A.handled=none)(hit:IsItemIter s.heap it d i es.size ep ok ov)(hm:RawD s.heap d es ep)(hi:es.size<=i)
  (q:∀h',Heap.ExtBut it s.heap h'->Q none { s with heap:=h' }):wpAny (model prog w) A (pyNext (.ref it)) Q E s:=by
 obtain⟨o2,g2,c2,f2⟩:=id hm;have ty:s.TypeIs (.ref it) "dict_itemiterator":=⟨_,hit,rfl⟩;have hown:(Builtin.Dict_items.ownsTuple "dict_itemiterator")=true:=by decide
 unfold pyNext;refine wpAny_bind (wpAny_attempt (wpAny_callSpecial?_slot (name:=Str.ofString "__next__") ty F.slot_dict_itemiterator_next (wpAny_call_entry F.slot_dict_itemiterator_next ty F.entry_dict_itemiterator_next ?_ (F.args_dict_itemiterator_next_1 _))));refine wpAny_bind (wpAny_pure (wpAny_bind (wpAny_bind ?_)))
 first | refine wpAny_bind (wpAny_typeNameOfWhole_itemiter ty (wpAny_pure (wpAny_bind (wpAny_fieldsOf hit rfl ?_)))) | refine wpAny_bind (wpAny_typeNameOf_itemiter ty (wpAny_pure (wpAny_bind (wpAny_fieldsOf hit rfl ?_))))
 simp only[hown,if_true];show wpAny _ _ (if (Value.ref d == .none)=true then _ else _) _ _ _;rw[if_neg (show ¬((Value.ref d == .none)=true) from Ę)];refine wpAny_bind (wpAny_pure (wpAny_bind (wpAny_dictEntries g2 f2 ?_)));rw[if_neg (show ¬_ by simp)];refine wpAny_bind (wpAny_pure (wpAny_bind (wpAny_dictEpoch g2 f2 ?_)));rw[if_neg (show ¬_ by simp)];refine wpAny_pure ?_;simp only[show ¬((i:Int)<0) by lia,if_false,Ő,Array.getElem?_eq_none hi];refine wpAny_bind ?_
 first | refine wpAny_bind (wpAny_typeNameOfWhole_itemiter ty (wpAny_pure ?_)) | refine wpAny_bind (wpAny_typeNameOf_itemiter ty (wpAny_pure ?_))
 show wpAny _ _ (setField (.ref it) 2 .none >>= _) _ _ (s);refine wpAny_bind (wpAny_setField hit rfl (by simp) (show wpAny _ _ (newExc (.type "StopIteration") [] >>= _) _ _ _ from wpAny_bind ?_));simp only[newExc,newTuple];refine wpAny_bind (wpAny_newObj_type (wpAny_bind (m:=firstArgMember _ _) (wpAny_of_eq (a:=Value.none) (by first | rfl | (simp only[firstArgMember];rfl)) (wpAny_newObj_type ?_ (by size_fits)))) (by size_fits));simp only[raiseNew];refine wpAny_bind (wpAny_handled ?_);rw[show (Around.in1 A).handled=none from hh];refine wpAny_bind (wpAny_pure (wpAny_throw (?_)));refine wpAny_bind (wpAny_isInstance (b:=true) (T:="StopIteration") ⟨_,ē _ rfl,rfl⟩ isSubtype_stop (?_));exact wpAny_pure (q _ (((Heap.SameBut.update ..).extBut.push _).push _))
end
noncomputable def isDk:HO->Bool
 | .dK _=>true
 | .dT _=>true
 | _=>false
section
variable {X:Cx}{pins:List (Addr×Obj)}{σ:St}{H:Hp}{s:Shared}{d:Addr}{u:HO}{o:Obj}
theorem xO0 (hd:H d=some u)(hu:isDk u=true):∀c v,H c=some v->isDk v=false->c≠d:=fun c v e f z=>by
 subst z;rw[hd]at e;cases e;rw[hu]at f;cases f
theorem Inv.freeze (I:Inv X pins σ H s)(hd:H d=some u)(hu:isDk u=true)(ho:s.heap.get? d=some o):Inv X pins σ (upd H d (.frz o u)) s:=by
 have mu:Mut (H d):=by rw[hd];cases u<;>first | trivial | (simp[isDk]at hu)
 refine I.write (x:=d) (e:=d) (o:=.frz o u) (h':=s.heap) (t':=s.toks) mu (.inl rfl) (fun _ _ _ q=>q) ⟨o,ho⟩ ⟨ho,?_⟩;exact(I.hok d u hd).stay (fun _ _ _ q=>q) (fun c q=>by rw[upd_ne (xO0 hd hu c _ q rfl)];exact q) fun c xs q=>by rw[upd_ne (xO0 hd hu c _ q rfl)];exact q
theorem Inv.unfrozen (I:Inv X pins σ H s)(hd:H d=some u)(hu:isDk u=true)(ob:Obj)(v:HO):X.H₀ d≠some (.frz ob v):=fun e=>by
 have z:=I.base.frzs d ob v e;rw[hd]at z;cases z;cases hu
theorem Inv.thaw (I:Inv X pins σ H s)(hd:H d=some (.frz o u))(h0:∀ob v,X.H₀ d≠some (.frz ob v)):Inv X pins σ (upd H d u) s:=by
 have ne:∀c v,H c=some v->(∀ob w,v ≠ .frz ob w)->c≠d:=fun c v e f z=>by
  subst z;rw[hd]at e;cases e;exact f _ _ rfl
 have nn:∀c,H c=none->c≠d:=fun c e z=>by subst z;rw[hd]at e;cases e
 refine⟨I.ok,I.os,I.bare,⟨I.base.keep,I.base.slot,fun b ob e n hx=>?_,I.base.there,fun b xs e=>?_,fun b ob w e=>?_,fun b ps e=>?_⟩,I.loc,I.cell,?_,fun x c e=>?_,fun p hp=>?_,fun b w e=>?_,I.len⟩
 ·have q:=I.base.free b ob e n hx;rw[upd_ne (nn b q)];exact q
 ·have q:=I.base.tups b xs e;rw[upd_ne (ne b _ q fun _ _ z=>by cases z)];exact q
 ·have q:=I.base.frzs b ob w e;rw[upd_ne (fun z=>h0 ob w (by rw[<- z];exact e))];exact q
 ·obtain⟨m,q⟩:=I.base.tbls b ps e;exact⟨m,by rw[upd_ne (ne b _ q fun _ _ z=>by cases z)];exact q⟩
 ·rw[upd_ne (nn _ I.free)];exact I.free
 ·rw[upd_ne (nn _ (I.freeC x c e))];exact I.freeC x c e
 ·obtain⟨e1,e2,e3⟩:=I.pin p hp;exact⟨e1,by rw[upd_ne (nn _ e2)];exact e2,e3⟩
 ·have go:∀{a:Addr} {v:HO},ObjOk X.prog X.w H s.heap a v->ObjOk X.prog X.w (upd H d u) s.heap a v:=fun q =>
   q.stay (fun _ _ _ q=>q) (fun c q=>by rw[upd_ne (ne c _ q fun _ _ z=>by cases z)];exact q) fun c xs q=>by rw[upd_ne (ne c _ q fun _ _ z=>by cases z)];exact q
  by_cases z:b=d
  ·subst z;rw[Á]at e;cases e;exact go (I.hok b _ hd).2
  ·rw[upd_ne z]at e;exact go (I.hok b w e)
noncomputable def xR9 (d:Addr)(D:Ends):Ends where
 nx:=fun σ H=>∃o u,H d=some (.frz o u) /\ D.nx σ (upd H d u)
 rt:=fun v H=>∃o u,H d=some (.frz o u) /\ D.rt v (upd H d u)
 bk:=fun σ H=>∃o u,H d=some (.frz o u) /\ D.bk σ (upd H d u)
 ct:=fun σ H=>∃o u,H d=some (.frz o u) /\ D.ct σ (upd H d u)
noncomputable def xS1 (t:TS):TS:=fun D σ H=>∃d u,H d=some u /\ isDk u=true /\ t (xR9 d D) σ H
theorem ú {st:Stmt}{t:TS}(h:PS X st t):PS X st (xS1 t):=by
 intro pins s σ H D I hq;obtain⟨d,u,hd,hu,ht⟩:=hq;have h0:=I.unfrozen hd hu;refine thn (h pins s σ H _ I ht) fun f s1 q=>?_;cases f with
 | next=>obtain⟨σ',H',I',o,v,e,q⟩:=q;exact⟨σ',_,I'.thaw e h0,q⟩
 | brk=>obtain⟨σ',H',I',o,v,e,q⟩:=q;exact⟨σ',_,I'.thaw e h0,q⟩
 | cont=>obtain⟨σ',H',I',o,v,e,q⟩:=q;exact⟨σ',_,I'.thaw e h0,q⟩
 | ret w=>obtain⟨x,σ',H',I',r,o,v,e,q⟩:=q;exact⟨x,σ',_,I'.thaw e h0,r,q⟩
noncomputable def xK2 (t:TE):TE:=fun σ H Q=>∃d u,H d=some u /\ isDk u=true /\ t σ H fun v H1=>∃o w,H1 d=some (.frz o w) /\ Q v (upd H1 d w)
theorem yB1 {e:Expr}{t:TE}(h:PE X e t):PE X e (xK2 t):=by
 intro pins s σ H Q I hq;obtain⟨d,u,hd,hu,ht⟩:=hq;have h0:=I.unfrozen hd hu;refine thn (h pins s σ H _ I ht) fun v s1 q=>?_;obtain⟨x,H',I',r,o,w,e,q⟩:=q;exact⟨x,_,I'.thaw e h0,r,q⟩
noncomputable abbrev yE3 (ps:List (V×V))(es:List DictEntry):Prop:=Paired (fun p e=>RelV p.1 e.key /\ RelV p.2 e.val) ps es
noncomputable def Pss (H:Hp):HO->List (V×V)->Prop
 | .dK kvs,ps=>ps=kvs.map fun kv=>(kV kv.1,kv.2)
 | .dT kvs,ps=>Paired (fun kv p=>∃b,p=(V.ref b,kv.2) /\ H b=some (.tup (kv.1.map kV))) kvs ps
 | _,_=>False
theorem zE8 {P:Program}{w:World}:∀{kvs:List (Key×V)} {vs:List (Key×Value)} {es:List DictEntry},KV kvs vs->Pairs (ç P w) es vs->yE3 (kvs.map fun kv=>(kV kv.1,kv.2)) es
 | [],[],_,_,p=>by cases p;exact .nil
 | [],_::_,_,r,_=>nomatch r
 | _::_,[],_,r,_=>nomatch r
 | kv::kvs,v::vs,es,.cons h r,p=>by
  cases p with
  | cons a b c =>
   refine .cons ⟨?_,?_⟩ (zE8 r c)
   ·have a:=a;rw[<- h.1]at a;rcases ñ a with⟨i,t,e1,e2⟩ | ⟨x,t,e1,e2⟩
    ·show RelV (kV kv.1) _;rw[e1,e2];exact⟨t,rfl⟩
    ·show RelV (kV kv.1) _;rw[e1,e2];exact⟨t,rfl⟩
   ·rw[b];exact h.2
theorem zI3 {P:Program}{w:World}{H:Hp}:∀{kvs:List (List Key×V)} {xs:List (List Key×Addr×Value)},KT H kvs xs->∃ps,Paired (fun kv p=>∃b,p=(V.ref b,kv.2) /\ H b=some (.tup (kv.1.map kV))) kvs ps /\ yE3 ps (xs.map (entryOfKey (tupleKind (ç P w))))
 | _,_,.nil=>⟨[],.nil,.nil⟩
 | kv::_,x::_,.cons h r=>by
  obtain⟨ps,h1,h2⟩:=zI3 (P:=P) (w:=w) r;exact⟨(.ref x.2.1,kv.2)::ps,.cons ⟨x.2.1,rfl,h.2.1⟩ h1,.cons ⟨rfl,h.2.2⟩ h2⟩
theorem Inv.raw (I:Inv X pins σ H s)(hd:H d=some u)(hu:isDk u=true):∃o es ep ps,s.heap.get? d=some o /\ o.ExactDict /\ o.data = .dict es ep /\ (d==sysModules)=false /\ Pss H u ps /\ yE3 ps es.toList:=by
 have ok:=I.hok d u hd;cases u with
 | dK kvs =>
  obtain⟨_,hs,vs,kv,o,es,ep,g,ex,dat,_,pr,_⟩:=ok;exact⟨o,es,ep,_,g,ex,dat,hs,rfl,zE8 kv pr⟩
 | dT kvs =>
  obtain⟨_,hs,xs,kt,o,es,ep,g,ex,dat,he,_⟩:=ok;obtain⟨ps,h1,h2⟩:=zI3 (P:=X.prog) (w:=X.w) kt;exact⟨o,es,ep,ps,g,ex,dat,hs,h1,by rw[he];exact h2⟩
 | _=>cases hu
noncomputable def ItD (d:Addr)(o:Obj)(u:HO)(ps:List (V×V)):It :=
 ⟨fun i H=>i<ps.length /\ H d=some (.frz o u),fun i H x H'=>∃k v T,ps[i]?=some (k,v) /\ x = .ref T /\ H T=none /\ H'=upd H T (.tup [k,v]),fun i H=>i=ps.length /\ H d=some (.frz o u)⟩
theorem Ξ {α β:Type}{F:α->β->Prop}:∀{xs:List α} {ys:List β} {i:Nat} {x:α},Paired F xs ys->xs[i]?=some x->∃y,ys[i]?=some y /\ F x y
 | _,_,_,_,.nil,e=>by simp at e
 | _,_,0,_,.cons r _,e=>by simp at e;subst e;exact⟨_,rfl,r⟩
 | _,_,i+1,x,.cons _ t,e=>by
  obtain⟨u,h1,h2⟩:=Ξ (i:=i) (x:=x) t (by simpa using e);exact⟨u,by simpa using h1,h2⟩
theorem yJ4 {P:Program}{w:World}{K:Ă}{elts:List Expr}{kk:Nat}{pos:Pos}{d it:Addr}{o:Obj}{u:HO}{ps:List (V×V)}{es:Array DictEntry}{ep:Nat}(hx:o.ExactDict)(dat:o.data = .dict es ep)(rel:yE3 ps es.toList) :
  Turn P w K (.Tuple elts kk pos) (ItD d o u ps) [it] it (fun i h=>∃ok ov,IsItemIter h it d i es.size ep ok ov) where
 mem:=by simp
 obj:=fun i h st b hb=>by
  have e:b=it:=by simpa using hb
  subst e;obtain⟨ok,ov,st⟩:=st;exact⟨_,st,fun v z=>by cases z⟩
 keep:=fun i h h' st k=>let ⟨ok,ov,st⟩:=st;⟨ok,ov,k it (by simp) _ st⟩
 item:=by
  intro X hP hw hK hc i pins s σ H E I hf st hg;subst hP hw hK;obtain⟨f0,f1,_,f3,f4,f5⟩:=hf it (by simp);obtain⟨ok,ov,st⟩:=st;obtain⟨hi,hd⟩:=hg;have hlen:ps.length=es.size:=by rw[rel.length];simp
  have hi':i<es.size:=by lia
  refine yX6 st ⟨o,(I.hok d _ hd).1,hx,dat⟩ hi' fun h' jo ht kk=>?_;refine⟨_,rfl,wpAny_letOwnedTupleGo_items jo fun h2 he2 sb=>?_⟩;obtain⟨p,hp⟩:∃p,ps[i]?=some p:=⟨ps[i],by simp[hi]⟩;obtain⟨e',he',rk,rv⟩:=Ξ rel hp;have ee:e'=es[i]:=by
   have:es.toList[i]?=some es[i]:=by simp[hi']
   rw[this]at he';exact(Option.some.inj he').symm
  subst ee;have nT:s.heap.objs.size≠it:=ĥ (ĉ st);have I1:Inv X pins σ H { s with heap:=h2,toks:=s.toks }:=I.turned (fun b ob hb e=>sb.extBut b ob hb (kk b ob hb e)) f0 f1 f3 f4 f5;have hT2:h2.get? s.heap.objs.size=some { cls:=.type "tuple",data:=.seq #[es[i].key,es[i].val] }:=sb.extBut _ _ nT ht;obtain⟨g0,g1,_,_,g4,g5⟩:=I.fpOk (ą _) I.fresh;have I2:=I1.track (a:=s.heap.objs.size) (o:=.tup [p.1,p.2]) g0 (by
   cases q:X.s₀.heap.get? s.heap.objs.size with
   | none=>rfl
   | some ob=>exact absurd (č (ĉ q) I.sz) (ņ _)) g1 g4 g5 ⟨zF5 (by simp) |> Ş,[es[i].key,es[i].val],.cons rk (.cons rv .nil),⟨_,hT2,rfl,_,rfl⟩⟩
  refine⟨.ref _,_,I2,rfl,⟨p.1,p.2,_,hp,rfl,g0,rfl⟩,⟨_,_,he2⟩,fun b hb=>?_⟩;have e:b=it:=by simpa using hb
  subst e;rw[upd_ne (Ne.symm nT)];exact f0
 done:=by
  intro X hP hw hK hc i pins s σ H E I hf st hg;subst hP hw hK;obtain⟨f0,f1,_,f3,f4,f5⟩:=hf it (by simp);obtain⟨ok,ov,st⟩:=st;obtain⟨hi,hd⟩:=hg;have hlen:ps.length=es.size:=by rw[rel.length];simp
  exact xG0 (I.ok.hd hc) st ⟨o,(I.hok d _ hd).1,hx,dat⟩ (by rw[hi,hlen];exact ą _) fun h' eb=>⟨rfl,I.turned (t':=s.toks) (fun b ob hb e=>eb b ob hb e) f0 f1 f3 f4 f5⟩
 self:=fun A i s Q E st h=>let ⟨_,_,st⟩:=st;PySem.W.kcp_self st h
noncomputable def Μ (v d:Addr):HO:=.ext fun h=>h.IsItemsView v d
noncomputable def xM0:V->List V->Hp->VK->Prop:=fun x vs H Q=>∃d u,x = .ref d /\ vs=[] /\ H d=some u /\ isDk u=true /\ ∀p,H p=none->Q (.ref p) (upd H p (Μ p d))
theorem Ž:MtR X "dict.items" xM0:=by
 intro pins s σ H x xs v us Q I rx rv h;obtain⟨d,u,rfl,rfl,hd,hu,q⟩:=h;cases rx;cases rv;obtain⟨o,es,ep,ps,g,ex,dat,hs,_,_⟩:=I.raw hd hu;have rw0:RawD s.heap d es ep:=⟨o,g,ex,dat⟩;refine call_meetsIn PySem.F.slot_dict_items rw0.ty PySem.F.entry_dict_items (PySem.F.args_dict_items_1 (_)) (yP2 hs) ⟨⟨es,ep,rw0⟩,?_⟩;refine⟨.ref _,_,I.laid (t':=s.toks) (o:=Μ s.heap.objs.size d) (fun b ob e=>ć _ e) (ą _) ?_,rfl,q _ I.fresh⟩;exact⟨⟨_,ē _ rfl,rfl,rfl⟩,⟨_,ē _ rfl⟩,fun h1 h2 ⟨ob,e,c⟩ k=>⟨ob,k ob e,c⟩⟩
noncomputable def xP6 (tl:TE):TI:=fun σ H R=>tl σ H fun x H1=>∃v d u,x = .ref v /\ H1 v=some (Μ v d) /\ H1 d=some u /\ isDk u=true /\ ∀o ps,Pss H1 u ps->R (ItD d o u ps) (upd H1 d (.frz o u))
theorem ż {elts:List Expr}{kk:Nat}{pos:Pos}{l:Expr}{tl:TE}(hl:PE X l tl):PI X (.Tuple elts kk pos) l (xP6 tl):=by
 intro pins s σ H R I h;refine thn (hl pins s σ H _ I h) fun v s1 ⟨x,H1,I1,r1,q1⟩=>?_;obtain⟨vw,d,u,rfl,hv,hd,hu,q⟩:=q1;cases r1;obtain⟨o,es,ep,ps,g,ex,dat,hs,hps,rel⟩:=I1.raw hd hu;have hv':s1.heap.IsItemsView vw d:=(I1.hok vw _ hv).1;refine yX7 hv' ⟨o,g,ex,dat⟩ ?_;have I2:Inv X pins σ H1 _:=I1.kept (t':=s1.toks) (h':=s1.heap.push { cls:=.type "dict_itemiterator",data:=.fields #[.none,.bool false,.ref d,.int 0 0,.int es.size 0,.int ep 0,.none,.none] }) fun b ob e=>ć _ e;refine⟨s1.heap.objs.size,[s1.heap.objs.size],_,_,_,rfl,I2.freeze hd hu (ć _ g),yJ4 ex dat rel,⟨_,_,ē _ rfl⟩,fun b hb=>?_,q o ps hps⟩;have e:b=s1.heap.objs.size:=by simpa using hb
 subst e;exact I1.fpOk (ą _) (by rw[upd_ne (Æ hd I1.fresh).symm];exact I1.fresh)
end
section
variable {prog:Program}{w:World}{A:Around}{E:Value->Shared->Prop}{s:Shared}{it d vw:Addr}{i ep:Nat}{es:Array DictEntry}
theorem yJ7 (hd:(d==sysModules)=false):MeetsIn prog w (Builtin.«dict.values» ⟨[.ref d],[]⟩) (fun _ R s=>(∃es ep,RawD s.heap d es ep) /\ R (.ok (.ret (.ref s.heap.objs.size))) { s with heap:=s.heap.push { cls:=.type "dict_values",data:=.fields #[.ref d] } }) :=
 .of_wp fun A R s ⟨⟨es,ep,hm⟩,h⟩=>by
  refine wpAny_bind (?_);unfold Builtin.Dict.noArgs;refine wpAny_bind (wpAny_notOrdered_dict hm.ty ?_);show wpAny _ _ (pure d) _ _ s;refine wpAny_pure ?_;show wpAny _ _ (Builtin.Dict.showsAll d >>= _) _ _ s;unfold Builtin.Dict.showsAll;rw[if_neg (show ¬((d==sysModules)=true) by rw[hd];simp)];exact wpAny_bind (wpAny_pure (wpAny_bind (wpAny_newObj_type (wpAny_pure ⟨_,rfl,h⟩))))
theorem zW2 {Q:Value->Shared->Prop}(hv:s.heap.IsValuesView vw d)(hm:RawD s.heap d es ep)
  (q:Q (.ref s.heap.objs.size) { s with heap:=s.heap.push { cls:=.type "dict_valueiterator",data:=.fields #[.ref d,.int 0 0,.int es.size 0,.int ep 0] } }):wpAny (model prog w) A (pyIter (.ref vw)) Q E s:=by
 obtain⟨o1,g1,c1,f1⟩:=id hv;obtain⟨o2,g2,c2,f2⟩:=id hm;refine wpAny_pyIter_slot hv.typeIs F.slot_dict_values_iter (wpAny_call_entry F.slot_dict_values_iter hv.typeIs F.entry_dict_values_iter (?_) (F.args_dict_values_iter_1 (_)));unfold Builtin.«dict_values.__iter__» Builtin.Dict_items.dictOf Builtin.Dict_items.newIterator;refine wpAny_bind (wpAny_pure (wpAny_bind (wpAny_bind (wpAny_field g1 f1 (x:=.ref d) rfl (wpAny_pure (wpAny_bind (wpAny_bind (wpAny_dictEntries g2 f2 (wpAny_bind (wpAny_dictEpoch g2 f2 ?_))))))))));have hown:(Builtin.Dict_items.ownsTuple "dict_valueiterator")=false:=by decide
 simp only[hown,Ī,if_false];refine wpAny_newObj_type (wpAny_pure ⟨_,rfl,"dict_valueiterator",_,⟨_,ē (_) rfl,rfl⟩,F.slot_dict_valueiterator_next.lookup,(?_)⟩);simpa[rawInt] using q
theorem zW1 {Q:Option Value->Shared->Prop}(hit:s.heap.IsValIter it d i es.size ep)(hm:RawD s.heap d es ep)(hi:i<es.size)
  (q:∀h',h'.IsValIter it d (i+1) es.size ep->Heap.SameBut it s.heap h'->Q (some es[i].val) { s with heap:=h' }):wpAny (model prog w) A (pyNext (.ref it)) Q E s:=by
 obtain⟨o,ho,hc,hd⟩:=id hit;obtain⟨o2,g2,c2,f2⟩:=id hm;have hown:(Builtin.Dict_items.ownsTuple "dict_valueiterator")=false:=by decide
 unfold pyNext;refine wpAny_bind (wpAny_attempt (wpAny_callSpecial?_slot (name:=Str.ofString "__next__") hit.typeIs F.slot_dict_valueiterator_next (wpAny_call_entry F.slot_dict_valueiterator_next hit.typeIs F.entry_dict_valueiterator_next ?_ (F.args_dict_valueiterator_next_1 _))));refine wpAny_bind (wpAny_pure (wpAny_bind (wpAny_bind ?_)))
 first | refine wpAny_bind (wpAny_typeNameOfWhole_valiter hit.typeIs (wpAny_pure (wpAny_bind (wpAny_fieldsOf ho hd ?_)))) | refine wpAny_bind (wpAny_typeNameOf_valiter hit.typeIs (wpAny_pure (wpAny_bind (wpAny_fieldsOf ho hd ?_))))
 simp only[hown,Ī,if_false];show wpAny _ _ (if (Value.ref d == .none)=true then _ else _) _ _ _;rw[if_neg (show ¬((Value.ref d == .none)=true) from Ę)];refine wpAny_bind (wpAny_pure (wpAny_bind (wpAny_dictEntries g2 f2 ?_)));rw[if_neg (show ¬_ by simp)];refine wpAny_bind (wpAny_pure (wpAny_bind (wpAny_dictEpoch g2 f2 ?_)));rw[if_neg (show ¬_ by simp)];refine wpAny_pure ?_;simp only[show ¬((i:Int)<0) by lia,if_false,Ő,Array.getElem?_eq_getElem hi];refine wpAny_bind ?_
 first | refine wpAny_bind (wpAny_typeNameOfWhole_valiter hit.typeIs (wpAny_pure (wpAny_bind (wpAny_isOneOf_valiter hit.typeIs ?_)))) | refine wpAny_bind (wpAny_typeNameOf_valiter hit.typeIs (wpAny_pure (wpAny_bind (wpAny_isOneOf_valiter hit.typeIs ?_))))
 show wpAny _ _ (setField (.ref it) 1 (rawInt ((i:Int)+1)) >>= _) _ _ (s);have st:(s.heap.update it (Obj.mapFields (·.setIfInBounds 1 (rawInt ((i:Int)+1))))).IsValIter it d (i+1) es.size ep:=⟨_,Heap.get?_update_self _ ho (Obj.isFreed_of_fields (Obj.data_mapFields hd _)),(Obj.cls_mapFields ..).trans hc,by rw[Obj.data_mapFields hd];simp[rawInt]⟩;refine wpAny_bind (wpAny_setField ho hd (by simp) (wpAny_bind (wpAny_holding (wpAny_bind (wpAny_isOneOf_valiter (s:={ s with heap:=s.heap.update it (Obj.mapFields (·.setIfInBounds 1 (rawInt ((i:Int)+1)))) }) st.typeIs (wpAny_bind (wpAny_isOneOf_valiter (s:={ s with heap:=s.heap.update it (Obj.mapFields (·.setIfInBounds 1 (rawInt ((i:Int)+1)))) }) st.typeIs ?_)))))));show wpAny _ _ (pure es[i].val) _ _ (_);exact wpAny_pure (wpAny_pure ⟨_,rfl,wpAny_pure (q _ st (Heap.SameBut.update ..))⟩)
theorem yG2 {Q:Option Value->Shared->Prop}(hh:A.handled=none)(hit:s.heap.IsValIter it d i es.size ep)(hm:RawD s.heap d es ep)(hi:es.size<=i)
  (q:∀h',Heap.ExtBut it s.heap h'->Q none { s with heap:=h' }):wpAny (model prog w) A (pyNext (.ref it)) Q E s:=by
 obtain⟨o,ho,hc,hd⟩:=id hit;obtain⟨o2,g2,c2,f2⟩:=id hm;have hown:(Builtin.Dict_items.ownsTuple "dict_valueiterator")=false:=by decide
 unfold pyNext;refine wpAny_bind (wpAny_attempt (wpAny_callSpecial?_slot (name:=Str.ofString "__next__") hit.typeIs F.slot_dict_valueiterator_next (wpAny_call_entry F.slot_dict_valueiterator_next hit.typeIs F.entry_dict_valueiterator_next ?_ (F.args_dict_valueiterator_next_1 _))));refine wpAny_bind (wpAny_pure (wpAny_bind (wpAny_bind ?_)))
 first | refine wpAny_bind (wpAny_typeNameOfWhole_valiter hit.typeIs (wpAny_pure (wpAny_bind (wpAny_fieldsOf ho hd ?_)))) | refine wpAny_bind (wpAny_typeNameOf_valiter hit.typeIs (wpAny_pure (wpAny_bind (wpAny_fieldsOf ho hd ?_))))
 simp only[hown,Ī,if_false];show wpAny _ _ (if (Value.ref d == .none)=true then _ else _) _ _ _;rw[if_neg (show ¬((Value.ref d == .none)=true) from Ę)];refine wpAny_bind (wpAny_pure (wpAny_bind (wpAny_dictEntries g2 f2 ?_)));rw[if_neg (show ¬_ by simp)];refine wpAny_bind (wpAny_pure (wpAny_bind (wpAny_dictEpoch g2 f2 ?_)));rw[if_neg (show ¬_ by simp)];refine wpAny_pure ?_;simp only[show ¬((i:Int)<0) by lia,if_false,Ő,Array.getElem?_eq_none hi];refine wpAny_bind ?_
 first | refine wpAny_bind (wpAny_typeNameOfWhole_valiter hit.typeIs (wpAny_pure (?_))) | refine wpAny_bind (wpAny_typeNameOf_valiter hit.typeIs (wpAny_pure (?_)))
 show wpAny _ _ (setField (.ref it) 0 .none >>= _) _ _ (s);refine wpAny_bind (wpAny_setField ho hd (by simp) (show wpAny _ _ (newExc (.type "StopIteration") [] >>= _) _ _ _ from wpAny_bind ?_));simp only[newExc,newTuple];refine wpAny_bind (wpAny_newObj_type (wpAny_bind (m:=firstArgMember _ _) (wpAny_of_eq (a:=Value.none) (by first | rfl | (simp only[firstArgMember];rfl)) (wpAny_newObj_type ?_ (by size_fits)))) (by size_fits));simp only[raiseNew];refine wpAny_bind (wpAny_handled ?_);rw[show (Around.in1 A).handled=none from hh];refine wpAny_bind (wpAny_pure (wpAny_throw (?_)));refine wpAny_bind (wpAny_isInstance (b:=true) (T:="StopIteration") ⟨_,ē _ rfl,rfl⟩ isSubtype_stop (?_));exact wpAny_pure (q _ (((Heap.SameBut.update ..).extBut.push _).push _))
theorem yJ0 (hh:A.handled=none)(I d:Addr)(hne:d≠I)(es:Array DictEntry)(ep:Nat):Walks prog w A I [I,d] [I] es.size (fun i v=>∃e,es[i]?=some e /\ v=e.val) (fun i h=>h.IsValIter I d i es.size ep /\ RawD h d es ep) where
 sub:=fun b hb=>by simp at hb;simp[hb]
 frame:=fun _ _ _ st k=>⟨st.1.at fun o e=>k I (by simp) o e,st.2.at fun o e=>k d (by simp) o e⟩
 item:=fun i s Q E hi st q=>zW1 st.1 st.2 hi fun h' st' sb=>q _ h' s.toks ⟨es[i],by simp[hi],rfl⟩ ⟨st',st.2.at fun o e=>sb.extBut d o hne e⟩ fun b o hb e=>sb.extBut b o (fun z=>hb (by simp[z])) e
 done:=fun s Q E st q=>yG2 hh st.1 st.2 (ą _) fun h' eb=>q h' s.toks fun b o hb e=>eb b o (fun z=>hb (by simp[z])) e
 self:=fun _ _ _ _ st q=>wpAny_pyIter_valiter st.1 q
theorem yX4:PySem.W.KdlSrc prog w "dict_values" vw d es.size (fun i v=>∃e,es[i]?=some e /\ v=e.val) (fun h=>h.IsValuesView vw d /\ RawD h d es ep) where
 type:=fun _ hm=>hm.1.typeIs
 there:=fun _ hm=>⟨let ⟨_,ho,_⟩:=hm.1;ĉ ho,let ⟨_,ho,_⟩:=hm.2;ĉ ho⟩
 keep:=fun _ _ hm k=>⟨let ⟨o,ho,x⟩:=hm.1;⟨o,k vw (.inl rfl) o ho,x⟩,hm.2.at fun o e=>k d (.inr rfl) o e⟩
 notList:=by decide
 notTuple:=by decide
 hint:=fun _ _ _ _ hm q=>PySem.W.kdl_hint_values hm.1.typeIs q
 iter:=fun _ _ hh hm=>⟨_,_,(fun _ _ q=>zW2 hm.1 hm.2 q),yJ0 hh _ d (Ĥ (let ⟨_,ho,_⟩:=hm.2;ĉ ho)) es ep,⟨⟨_,ē _ rfl,rfl,rfl⟩,hm.2.at fun o e=>ć _ e⟩⟩
end
section
variable {X:Cx}{K:Ă}
noncomputable def yJ2 (v d:Addr):HO:=.ext fun h=>h.IsValuesView v d
noncomputable def xT2:V->List V->Hp->VK->Prop:=fun x vs H Q=>∃d u,x = .ref d /\ vs=[] /\ H d=some u /\ isDk u=true /\ ∀p,H p=none->Q (.ref p) (upd H p (yJ2 p d))
theorem yS1:MtR X "dict.values" xT2:=by
 intro pins s σ H x xs v us Q I rx rv h;obtain⟨d,u,rfl,rfl,hd,hu,q⟩:=h;cases rx;cases rv;obtain⟨o,es,ep,ps,g,ex,dat,hs,_,_⟩:=I.raw hd hu;have rw0:RawD s.heap d es ep:=⟨o,g,ex,dat⟩;refine call_meetsIn PySem.F.slot_dict_values rw0.ty PySem.F.entry_dict_values (PySem.F.args_dict_values_1 (_)) (yJ7 hs) ⟨⟨es,ep,rw0⟩,?_⟩;refine⟨.ref _,_,I.laid (t':=s.toks) (o:=yJ2 s.heap.objs.size d) (fun b ob e=>ć _ e) (ą _) ?_,rfl,q _ I.fresh⟩;exact⟨⟨_,ē _ rfl,rfl,rfl⟩,⟨_,ē _ rfl⟩,fun h1 h2 ⟨ob,e,c⟩ k=>⟨ob,k ob e,c⟩⟩
theorem xD9 {H:Hp}{u:HO}{ps:List (V×V)}(h:Pss H u ps):isDk u=true->∀{X:Cx} {pins:List (Addr×Obj)} {σ:St} {s:Shared} {d:Addr},Inv X pins σ H s->H d=some u->ps.length<=sizeLine:=by
 intro hu X pins σ s d I hd;have ok:=I.hok d u hd;cases u with
 | dK kvs=>obtain⟨z,_⟩:=ok;have h:ps=_:=h;rw[h,ā];exact z
 | dT kvs=>obtain⟨z,_⟩:=ok;have h:Paired _ kvs ps:=h;rw[<- h.length];exact z
 | _=>cases hu
theorem zO6 (hc:X.calm=true):Φ X (.type "list") (fun xs H Q=>∃v d u,xs=[V.ref v] /\ H v=some (yJ2 v d) /\ H d=some u /\ isDk u=true /\ ∀ps,Pss H u ps->∀l,H l=none->Q (.ref l) (upd H l (.lst (ps.map (·.2))))):=by
 intro pins s σ H xs us Q I r h;obtain⟨v,d,u,rfl,hv,hd,hu,q⟩:=h;obtain⟨w0,rfl,rw0⟩:=ι r;cases rw0;obtain⟨o,es,ep,ps,g,ex,dat,hs,hps,rel⟩:=I.raw hd hu;have hl:=xD9 hps hu I hd;have hlen:ps.length=es.size:=by rw[rel.length];simp
 refine PySem.W.kdl_call (yX4 (es:=es) (ep:=ep)) (I.ok.hd hc) ⟨(I.hok v _ hv).1,⟨o,g,ex,dat⟩⟩ (by lia) fun h' tk acc c kk hD hacc=>?_;have vr:Vals (ps.map (·.2)) acc.toList:=by
  have e1:acc.toList=es.toList.map (·.val):=by
   apply List.ext_getElem?;intro j;rw[Ĉ]
   by_cases hj:j<es.size
   ·have hj2:j<acc.size:=by rw[hacc.1];exact hj
    obtain⟨e,he,hv⟩:=hacc.2 j acc[j] (by simp[hj2]);have e2:es.toList[j]?=some e:=by simpa using he
    rw[e2];simp[hj2,hv]
   ·have hj2:¬j<acc.size:=by rw[hacc.1];exact hj
    rw[ō (by simp;lia),ō (by simp;lia)];rfl
  rw[e1];clear hlen hl hps e1 hacc;generalize es.toList=el at rel
  induction rel with
  | nil=>exact .nil
  | cons h t ih=>exact .cons h.2 ih
 refine⟨.ref _,_,I.laid (a:=s.heap.objs.size) (o:=.lst (ps.map (·.2))) (t':=tk) kk (ą _) ⟨by rw[ā];exact hl,acc.toList,c,vr,by simpa using hD⟩,rfl,q ps hps _ I.fresh⟩
end
section
variable {prog:Program}{w:World}{A:Around}{E:Value->Shared->Prop}{s:Shared}{it d vw:Addr}{i ep:Nat}{es:Array DictEntry}
theorem zM1 {Q:Value->Shared->Prop}(hd:(d==sysModules)=false)(hm:RawD s.heap d es ep)
  (q:Q (.ref s.heap.objs.size) { s with heap:=s.heap.push { cls:=.type "dict_keyiterator",data:=.fields #[.ref d,.int 0 0,.int es.size 0,.int ep 0] } }):wpAny (model prog w) A (pyIter (.ref d)) Q E s:=by
 obtain⟨o2,g2,c2,f2⟩:=id hm;refine wpAny_pyIter_slot hm.ty F.slot_dict_iter (wpAny_call_entry F.slot_dict_iter hm.ty F.entry_dict_iter (?_) (F.args_dict_iter_1 (_)));unfold Builtin.«dict.__iter__» Builtin.Dict.dictSlotNone;refine wpAny_bind (wpAny_bind (wpAny_notOrdered_dict hm.ty ?_));show wpAny _ _ (pure (Value.ref d)) _ _ (s);refine wpAny_pure ?_;show wpAny _ _ (Builtin.Dict.showsAll d >>= _) _ _ s;unfold Builtin.Dict.showsAll;rw[if_neg (show ¬((d==sysModules)=true) by rw[hd];simp)];refine wpAny_bind (wpAny_pure (wpAny_bind (wpAny_dictEntries g2 f2 (wpAny_bind (wpAny_dictEpoch g2 f2 (wpAny_bind (wpAny_newObj_type (wpAny_pure ⟨_,rfl,"dict_keyiterator",_,⟨_,ē (_) rfl,rfl⟩,F.slot_dict_keyiterator_next.lookup,(?_)⟩))))))));simpa[rawInt] using q
theorem zW3 {Q:Option Value->Shared->Prop}(hit:s.heap.IsKeyIter it d i es.size ep)(hm:RawD s.heap d es ep)(hi:i<es.size)
  (q:∀h',h'.IsKeyIter it d (i+1) es.size ep->Heap.SameBut it s.heap h'->Q (some es[i].key) { s with heap:=h' }):wpAny (model prog w) A (pyNext (.ref it)) Q E s:=by
 obtain⟨o,ho,hc,hd⟩:=id hit;obtain⟨o2,g2,c2,f2⟩:=id hm;have hown:(Builtin.Dict_items.ownsTuple "dict_keyiterator")=false:=by decide
 unfold pyNext;refine wpAny_bind (wpAny_attempt (wpAny_callSpecial?_slot (name:=Str.ofString "__next__") hit.typeIs F.slot_dict_keyiterator_next (wpAny_call_entry F.slot_dict_keyiterator_next hit.typeIs F.entry_dict_keyiterator_next ?_ (F.args_dict_keyiterator_next_1 _))));refine wpAny_bind (wpAny_pure (wpAny_bind (wpAny_bind ?_)))
 first | refine wpAny_bind (wpAny_typeNameOfWhole_keyiter hit.typeIs (wpAny_pure (wpAny_bind (wpAny_fieldsOf ho hd ?_)))) | refine wpAny_bind (wpAny_typeNameOf_keyiter hit.typeIs (wpAny_pure (wpAny_bind (wpAny_fieldsOf ho hd ?_))))
 simp only[hown,Ī,if_false];show wpAny _ _ (if (Value.ref d == .none)=true then _ else _) _ _ _;rw[if_neg (show ¬((Value.ref d == .none)=true) from Ę)];refine wpAny_bind (wpAny_pure (wpAny_bind (wpAny_dictEntries g2 f2 ?_)));rw[if_neg (show ¬_ by simp)];refine wpAny_bind (wpAny_pure (wpAny_bind (wpAny_dictEpoch g2 f2 ?_)));rw[if_neg (show ¬_ by simp)];refine wpAny_pure ?_;simp only[show ¬((i:Int)<0) by lia,if_false,Ő,Array.getElem?_eq_getElem hi];refine wpAny_bind ?_
 first | refine wpAny_bind (wpAny_typeNameOfWhole_keyiter hit.typeIs (wpAny_pure (wpAny_bind (wpAny_isOneOf_keyiter hit.typeIs ?_)))) | refine wpAny_bind (wpAny_typeNameOf_keyiter hit.typeIs (wpAny_pure (wpAny_bind (wpAny_isOneOf_keyiter hit.typeIs ?_))))
 show wpAny _ _ (setField (.ref it) 1 (rawInt ((i:Int)+1)) >>= _) _ _ (s);have st:(s.heap.update it (Obj.mapFields (·.setIfInBounds 1 (rawInt ((i:Int)+1))))).IsKeyIter it d (i+1) es.size ep:=⟨_,Heap.get?_update_self _ ho (Obj.isFreed_of_fields (Obj.data_mapFields hd _)),(Obj.cls_mapFields ..).trans hc,by rw[Obj.data_mapFields hd];simp[rawInt]⟩;refine wpAny_bind (wpAny_setField ho hd (by simp) (wpAny_bind (wpAny_holding (wpAny_bind (wpAny_isOneOf_keyiter (s:={ s with heap:=s.heap.update it (Obj.mapFields (·.setIfInBounds 1 (rawInt ((i:Int)+1)))) }) st.typeIs ?_)))));exact wpAny_pure (wpAny_pure ⟨_,rfl,wpAny_pure (q _ st (Heap.SameBut.update ..))⟩)
theorem yG3 {Q:Option Value->Shared->Prop}(hh:A.handled=none)(hit:s.heap.IsKeyIter it d i es.size ep)(hm:RawD s.heap d es ep)(hi:es.size<=i)
  (q:∀h',Heap.ExtBut it s.heap h'->Q none { s with heap:=h' }):wpAny (model prog w) A (pyNext (.ref it)) Q E s:=by
 obtain⟨o,ho,hc,hd⟩:=id hit;obtain⟨o2,g2,c2,f2⟩:=id hm;have hown:(Builtin.Dict_items.ownsTuple "dict_keyiterator")=false:=by decide
 unfold pyNext;refine wpAny_bind (wpAny_attempt (wpAny_callSpecial?_slot (name:=Str.ofString "__next__") hit.typeIs F.slot_dict_keyiterator_next (wpAny_call_entry F.slot_dict_keyiterator_next hit.typeIs F.entry_dict_keyiterator_next ?_ (F.args_dict_keyiterator_next_1 _))));refine wpAny_bind (wpAny_pure (wpAny_bind (wpAny_bind ?_)))
 first | refine wpAny_bind (wpAny_typeNameOfWhole_keyiter hit.typeIs (wpAny_pure (wpAny_bind (wpAny_fieldsOf ho hd ?_)))) | refine wpAny_bind (wpAny_typeNameOf_keyiter hit.typeIs (wpAny_pure (wpAny_bind (wpAny_fieldsOf ho hd ?_))))
 simp only[hown,Ī,if_false];show wpAny _ _ (if (Value.ref d == .none)=true then _ else _) _ _ _;rw[if_neg (show ¬((Value.ref d == .none)=true) from Ę)];refine wpAny_bind (wpAny_pure (wpAny_bind (wpAny_dictEntries g2 f2 ?_)));rw[if_neg (show ¬_ by simp)];refine wpAny_bind (wpAny_pure (wpAny_bind (wpAny_dictEpoch g2 f2 ?_)));rw[if_neg (show ¬_ by simp)];refine wpAny_pure ?_;simp only[show ¬((i:Int)<0) by lia,if_false,Ő,Array.getElem?_eq_none hi];refine wpAny_bind ?_
 first | refine wpAny_bind (wpAny_typeNameOfWhole_keyiter hit.typeIs (wpAny_pure (?_))) | refine wpAny_bind (wpAny_typeNameOf_keyiter hit.typeIs (wpAny_pure (?_)))
 show wpAny _ _ (setField (.ref it) 0 .none >>= _) _ _ (s);refine wpAny_bind (wpAny_setField ho hd (by simp) (show wpAny _ _ (newExc (.type "StopIteration") [] >>= _) _ _ _ from wpAny_bind ?_));simp only[newExc,newTuple];refine wpAny_bind (wpAny_newObj_type (wpAny_bind (m:=firstArgMember _ _) (wpAny_of_eq (a:=Value.none) (by first | rfl | (simp only[firstArgMember];rfl)) (wpAny_newObj_type ?_ (by size_fits)))) (by size_fits));simp only[raiseNew];refine wpAny_bind (wpAny_handled ?_);rw[show (Around.in1 A).handled=none from hh];refine wpAny_bind (wpAny_pure (wpAny_throw (?_)));refine wpAny_bind (wpAny_isInstance (b:=true) (T:="StopIteration") ⟨_,ē _ rfl,rfl⟩ isSubtype_stop (?_));exact wpAny_pure (q _ (((Heap.SameBut.update ..).extBut.push _).push _))
end
section
variable {X:Cx}
theorem zE1:Φ X (.type "dict") (fun xs H Q=>∃a kvs,xs=[V.ref a] /\ H a=some (.dK kvs) /\ ∀p,H p=none->Q (.ref p) (upd H p (.dK kvs))):=by
 intro pins s σ H xs us Q I r h;obtain⟨a,kvs,rfl,ha,q⟩:=h;obtain⟨u,rfl,ru⟩:=ι r;cases ru;obtain⟨z,y,vs,kv,D⟩:=ψ I.hok ha;have hl:vs.length=kvs.length:=kv.length.symm;refine kt_call_dict y D (by lia) fun h' hm sb=>?_;refine⟨.ref _,_,I.laid (a:=s.heap.objs.size) (o:=.dK kvs) (t':=s.toks) (fun b ob e=>?_) (ą _) ⟨z,?_,vs,kv,hm⟩,rfl,q _ I.fresh⟩
 ·exact sb.extBut b ob (Ĥ (ĉ e)) (ć _ e)
 ·exact beq_eq_false_iff_ne.mpr (ĥ I.big)
noncomputable def ItK (d:Addr)(o:Obj)(u:HO)(ps:List (V×V)):It :=
 ⟨fun i H=>i<ps.length /\ H d=some (.frz o u),fun i H x H'=>H'=H /\ ∃v,ps[i]?=some (x,v),fun i H=>i=ps.length /\ H d=some (.frz o u)⟩
theorem zU6 {P:Program}{w:World}{K:Ă}{tg:Expr}{d it:Addr}{o:Obj}{u:HO}{ps:List (V×V)}{es:Array DictEntry}{ep:Nat}(hx:o.ExactDict)(dat:o.data = .dict es ep)(rel:yE3 ps es.toList) :
  Turn P w K tg (ItK d o u ps) [it] it (fun i h=>h.IsKeyIter it d i es.size ep) where
 mem:=by simp
 obj:=fun i h st b hb=>by
  have e:b=it:=by simpa using hb
  subst e;obtain⟨o,e,_,d⟩:=st;exact⟨o,e,fun v z=>by rw[d]at z;cases z⟩
 keep:=fun i h h' st k=>let ⟨o,e,r⟩:=st;⟨o,k it (by simp) o e,r⟩
 item:=by
  intro X hP hw hK hc i pins s σ H E I hf st hg;subst hP hw hK;obtain⟨f0,f1,_,f3,f4,f5⟩:=hf it (by simp);obtain⟨hi,hd⟩:=hg;have hlen:ps.length=es.size:=by rw[rel.length];simp
  have hi':i<es.size:=by lia
  refine zW3 st ⟨o,(I.hok d _ hd).1,hx,dat⟩ hi' fun h' st' sb=>?_;obtain⟨p,hp⟩:∃p,ps[i]?=some p:=⟨ps[i],by simp[hi]⟩;obtain⟨e',he',rk,rv⟩:=Ξ rel hp;have ee:e'=es[i]:=by
   have:es.toList[i]?=some es[i]:=by simp[hi']
   rw[this]at he';exact(Option.some.inj he').symm
  subst ee;have I1:Inv X pins σ H { s with heap:=h',toks:=s.toks }:=I.turned (fun b ob hb e=>sb.extBut b ob hb e) f0 f1 f3 f4 f5;obtain⟨oi,ei,ci,di⟩:=id st';exact⟨_,rfl,yL2 (s:={ s with heap:=h',toks:=s.toks }) ei ci di (by decide) ⟨p.1,H,I1,rk,⟨rfl,p.2,hp⟩,st',fun b hb=>(hf b hb).1⟩⟩
 done:=by
  intro X hP hw hK hc i pins s σ H E I hf st hg;subst hP hw hK;obtain⟨f0,f1,_,f3,f4,f5⟩:=hf it (by simp);obtain⟨hi,hd⟩:=hg;have hlen:ps.length=es.size:=by rw[rel.length];simp
  exact yG3 (I.ok.hd hc) st ⟨o,(I.hok d _ hd).1,hx,dat⟩ (by rw[hi,hlen];exact ą _) fun h' eb=>⟨rfl,I.turned (t':=s.toks) (fun b ob hb e=>eb b ob hb e) f0 f1 f3 f4 f5⟩
 self:=fun A i s Q E st h=>wpAny_pyIter_keyiter st h
noncomputable def xU3 (tl:TE):TI:=fun σ H R=>tl σ H fun x H1=>∃d u,x = .ref d /\ H1 d=some u /\ isDk u=true /\ ∀o ps,Pss H1 u ps->R (ItK d o u ps) (upd H1 d (.frz o u))
theorem Ι {tg l:Expr}{tl:TE}(hl:PE X l tl):PI X tg l (xU3 tl):=by
 intro pins s σ H R I h;refine thn (hl pins s σ H _ I h) fun v s1 ⟨x,H1,I1,r1,q1⟩=>?_;obtain⟨d,u,rfl,hd,hu,q⟩:=q1;cases r1;obtain⟨o,es,ep,ps,g,ex,dat,hs,hps,rel⟩:=I1.raw hd hu;refine zM1 hs ⟨o,g,ex,dat⟩ ?_;have I2:Inv X pins σ H1 _:=I1.kept (t':=s1.toks) (h':=s1.heap.push { cls:=.type "dict_keyiterator",data:=.fields #[.ref d,.int 0 0,.int es.size 0,.int ep 0] }) fun b ob e=>ć _ e;refine⟨s1.heap.objs.size,[s1.heap.objs.size],_,_,_,rfl,I2.freeze hd hu (ć _ g),zU6 ex dat rel,⟨_,ē _ rfl,rfl,rfl⟩,fun b hb=>?_,q o ps hps⟩;have e:b=s1.heap.objs.size:=by simpa using hb
 subst e;exact I1.fpOk (ą _) (by rw[upd_ne (Æ hd I1.fresh).symm];exact I1.fresh)
end
theorem ź {X:Cx}{K:Ă}{o:Expr}{to:TE}{name:Str}{apos cpos:Pos}{T id:String}{r:V->List V->Hp->VK->Prop}(h:X.K=K)(pa:PlainAttrs T)(slot:Slot T name id)(hty:typeOf (.builtin id)=pure (.type "method_descriptor"))(hm:MtR X id r)(ho:PE X o to)
  (hbase:attributeBase o name X.env (eval o X.env)=eval o X.env:=by rfl)(hline:(apos.endLine==cpos.line)=true:=by rfl):PE X (.Call (.Attribute o name apos) [] [] cpos) (tBM0 K T r to):=by subst h;exact xM8 pa slot hty hm ho hbase hline
theorem Ź {d:Addr}{o:Obj}{u:HO}{ps:List (V×V)}{g:TG}{tb:TS}{D:Ends}{σ:St}{H:Hp}(Pv:Nat->St->Hp->Prop)(h0:Pv 0 σ H)(hf:∀i σ H,Pv i σ H->H d=some (.frz o u))
  (hs:∀i k v T σ H,ps[i]?=some (k,v)->Pv i σ H->H T=none->g (.ref T) σ (upd H T (.tup [k,v])) fun σ2 H2=>tb { D with nx:=Pv (i+1),ct:=Pv (i+1),bk:=D.nx } σ2 H2)(hd:∀σ H,Pv ps.length σ H->D.nx σ H) :
  ∃W:Nat->Nat->St->Hp->Prop,(∃m,W 0 m σ H) /\ ∀i m σ H,W i m σ H->((ItD d o u ps).stop i H /\ D.nx σ H) \/ ((ItD d o u ps).go i H /\ ∃N:St->Hp->Prop,(∀σ' H',N σ' H'->∃m',m'<m /\ W (i+1) m' σ' H') /\
   ∀x H',(ItD d o u ps).yld i H x H'->g x σ H' fun σ2 H2=>tb { D with nx:=N,ct:=N,bk:=D.nx } σ2 H2):=by
 refine⟨fun i m σ H=>m=ps.length - i /\ i<=ps.length /\ Pv i σ H,⟨_,rfl,Ħ _,h0⟩,?_⟩;rintro i m σ H ⟨rfl,hi,p⟩
 by_cases hlt:i<ps.length
 ·refine .inr ⟨⟨hlt,hf i σ H p⟩,Pv (i+1),fun σ' H' p'=>⟨ps.length - (i+1),by lia,rfl,hlt,p'⟩,fun x H' y=>?_⟩;obtain⟨k,v,T,hk,e1,hT,e2⟩:=y;subst e1 e2;exact hs i k v T σ H hk p hT
 ·have e:i=ps.length:=by lia
  subst e;exact .inl ⟨⟨rfl,hf _ σ H p⟩,hd σ H p⟩
theorem ž {d:Addr}{o:Obj}{u:HO}{ps:List (V×V)}{g:TG}{tb:TS}{D:Ends}{σ:St}{H:Hp}(Pv:Nat->St->Hp->Prop)(h0:Pv 0 σ H)(hf:∀i σ H,Pv i σ H->H d=some (.frz o u))
  (hs:∀i k v σ H,ps[i]?=some (k,v)->Pv i σ H->g k σ H fun σ2 H2=>tb { D with nx:=Pv (i+1),ct:=Pv (i+1),bk:=D.nx } σ2 H2)(hd:∀σ H,Pv ps.length σ H->D.nx σ H) :
  ∃W:Nat->Nat->St->Hp->Prop,(∃m,W 0 m σ H) /\ ∀i m σ H,W i m σ H->((ItK d o u ps).stop i H /\ D.nx σ H) \/ ((ItK d o u ps).go i H /\ ∃N:St->Hp->Prop,(∀σ' H',N σ' H'->∃m',m'<m /\ W (i+1) m' σ' H') /\
   ∀x H',(ItK d o u ps).yld i H x H'->g x σ H' fun σ2 H2=>tb { D with nx:=N,ct:=N,bk:=D.nx } σ2 H2):=by
 refine⟨fun i m σ H=>m=ps.length - i /\ i<=ps.length /\ Pv i σ H,⟨_,rfl,Ħ _,h0⟩,?_⟩;rintro i m σ H ⟨rfl,hi,p⟩
 by_cases hlt:i<ps.length
 ·refine .inr ⟨⟨hlt,hf i σ H p⟩,Pv (i+1),fun σ' H' p'=>⟨ps.length - (i+1),by lia,rfl,hlt,p'⟩,fun x H' y=>?_⟩;obtain⟨e,v,hk⟩:=y;subst e;exact hs i x v σ _ hk p
 ·have e:i=ps.length:=by lia
  subst e;exact .inl ⟨⟨rfl,hf _ σ H p⟩,hd σ H p⟩
end L2
namespace Tc
section
variable {α:Type}[DecidableEq α]
noncomputable def dlt (n:α):α->Rat:=fun z=>if z=n then 1 else 0
noncomputable def fw (x y:α)(t:Rat)(v:α->Rat):α->Rat:=fun z=>if z=y then v y+v x*t else if z=x then v x - v x*t else v z
noncomputable def bw (x y:α)(t:Rat)(R:α->α->Rat):α->α->Rat:=fun n=>if n=x then fun z=>R x z*(1 - t)+R y z*t else R n
theorem xP8 (x y:α)(t:Rat)(a b:α->Rat)(p q:Rat):fw x y t (fun z=>a z*p+b z*q)=fun z=>fw x y t a z*p+fw x y t b z*q:=by
 funext z
 unfold fw
 split
 ·grind
 ·split
  ·grind
  ·rfl
theorem xU9 (x' y':α)(t':Rat)(x y:α)(t:Rat)(R:α->α->Rat):bw x' y' t' (fun n=>fw x y t (R n))=fun n=>fw x y t (bw x' y' t' R n):=by
 funext n
 unfold bw
 split
 ·exact(xP8 x y t (R x') (R y') (1 - t') t').symm
 ·rfl
theorem xR0 {x y:α}(t:Rat)(h:x≠y):bw x y t dlt=fun n=>fw x y t (dlt n):=by
 funext n z
 unfold bw fw dlt
 by_cases e:n=x
 ·rw[if_pos e];subst e
  by_cases e1:z=y
  ·subst e1;have:z≠n:=fun q=>h q.symm
   grind
  ·by_cases e2:z=n
   ·subst e2;grind
   ·grind
 ·rw[if_neg e]
  grind
noncomputable def IsM (P k:Nat)(r:Rat):Prop:=0<=r /\ ∃m:Nat,m<=k*P /\ r*(P:Rat)=(m:Rat)
theorem ς {P:Nat}(h:0<P):(P:Rat)≠0:=by
 intro e;have:(P:Rat)=((0:Nat):Rat):=e;have:=Rat.natCast_inj.mp this;lia
theorem IsM.eq {P k:Nat}{r:Rat}(hP:0<P)(h:IsM P k r):∃m:Nat,m<=k*P /\ r=Ě m P:=by
 obtain⟨_,m,hm,e⟩:=h;refine⟨m,hm,?_⟩;rw[Į,Ĵ,Ĵ];have:=ς hP
 grind
theorem IsM.zero (P k:Nat):IsM P k 0:=⟨by decide,0,Ħ _,by rw[ň];rfl⟩
theorem IsM.one (P:Nat):IsM P 1 1:=⟨by decide,P,by lia,by rw[Rat.one_mul]⟩
theorem IsM.add {P k j:Nat}{r q:Rat}(h:IsM P k r)(g:IsM P j q):IsM P (k+j) (r+q):=by
 obtain⟨h0,m,hm,e⟩:=h;obtain⟨g0,n,hn,f⟩:=g;refine⟨Rat.add_nonneg h0 g0,m+n,by rw[Nat.add_mul];lia,?_⟩;rw[Rat.add_mul,e,f,Rat.natCast_add]
theorem xI1 (t:Rat):t*(t.den:Rat)=(t.num:Rat):=by
 have h:=ķ t;rw[Į,Ĵ]at h;have:=ς t.den_pos
 grind
theorem parts {t:Rat}(h0:0<=t)(h1:t<=1):∃u w:Nat,t.den=u+w /\ t*(t.den:Rat)=(u:Rat) /\ (1 - t)*(t.den:Rat)=(w:Rat):=by
 have n0:=Rat.num_nonneg.mpr h0;have n1:=(Rat.le_iff t 1).mp h1;have n1:t.num<=t.den:=by simpa using n1
 obtain⟨u,hu⟩:=Ğ n0;have hw:t.den=u+(t.den - u):=by lia
 have e:=xI1 t;rw[hu,Ĵ]at e;refine⟨u,t.den - u,hw,e,?_⟩;have e2:(t.den:Rat)=(u:Rat)+((t.den - u:Nat):Rat):=by rw[<- Rat.natCast_add,<- hw]
 grind
theorem IsM.mulL {P k:Nat}{a t:Rat}(h:IsM P k a)(h0:0<=t)(h1:t<=1):IsM (P*t.den) k (a*t):=by
 obtain⟨a0,m,hm,e⟩:=h;obtain⟨u,w,hd,eu,ew⟩:=parts h0 h1;refine⟨ġ a0 h0,m*u,?_,?_⟩
 ·rw[hd,<- ĵ];exact Ġ hm (by lia)
 ·rw[Ģ,Ģ,<- e,<- eu];grind
theorem zB8 {t:Rat}(h1:t<=1):0<=1 - t:=by grind
theorem IsM.mix {P k:Nat}{a b t:Rat}(h:IsM P k a)(g:IsM P k b)(h0:0<=t)(h1:t<=1):IsM (P*t.den) k (a*(1 - t)+b*t):=by
 obtain⟨a0,m,hm,e⟩:=h;obtain⟨b0,n,hn,f⟩:=g;obtain⟨u,w,hd,eu,ew⟩:=parts h0 h1;refine⟨Rat.add_nonneg (ġ a0 (zB8 h1)) (ġ b0 h0),m*w+n*u,?_,?_⟩
 ·rw[hd,<- ĵ,Nat.mul_add];have:=Ĕ w hm;have:=Ĕ u hn;lia
 ·rw[Rat.natCast_add,Ģ,Ģ,Ģ,<- e,<- f,<- eu,<- ew];grind
theorem IsM.mulR {P k:Nat}{a t:Rat}(h:IsM P k a)(h0:0<=t)(h1:t<=1):IsM (P*t.den) k (a*(1 - t)):=by
 have:=h.mix (IsM.zero P k) h0 h1;rw[ň,Ŝ]at this;exact this
theorem IsM.up {P k:Nat}{a:Rat}(h:IsM P k a)(d:Nat):IsM (P*d) k a:=by
 obtain⟨a0,m,hm,e⟩:=h;refine⟨a0,m*d,by rw[<- ĵ];exact Ĕ d hm,?_⟩;rw[Ģ,Ģ,<- e];grind
noncomputable def sumL (L:List α)(f:α->Rat):Rat:=(L.map f).foldl (·+·) 0
theorem yL4 (rs:List Rat)(a:Rat):rs.foldl (·+·) a=a+rs.foldl (·+·) 0:=by
 induction rs generalizing a with
 | nil=>simp[Ŝ]
 | cons r rs ih =>
  rw[List.foldl_cons,List.foldl_cons,ih (a+r),ih (0+r),Ŋ,Rat.add_assoc]
theorem ü (f:α->Rat):sumL [] f=0:=rfl
theorem Ê (z:α)(L:List α)(f:α->Rat):sumL (z::L) f=f z+sumL L f:=by
 unfold sumL;rw[ĩ,List.foldl_cons,yL4,Ŋ]
theorem zB7 (z:α)(L:List α)(f:α->Rat):sumL (L++[z]) f=sumL L f+f z:=by
 unfold sumL;rw[Đ,Ţ];rfl
theorem yX1 (L:List α)(a b:α->Rat)(t:Rat):sumL L (fun z=>a z*(1 - t)+b z*t)=sumL L a*(1 - t)+sumL L b*t:=by
 induction L with
 | nil=>simp only[ü];grind
 | cons z L ih=>rw[Ê,Ê,Ê,ih];grind
theorem ý (L:List α)(f:α->Rat)(h:∀z∈L,f z=0):sumL L f=0:=by
 induction L with
 | nil=>rfl
 | cons z L ih=>rw[Ê,h z Ć,ih fun y hy=>h y (ă _ hy),Ŝ]
theorem yX2 {L:List α}(hn:L.Nodup){n:α}(h:n∈L):sumL L (dlt n)=1:=by
 induction L with
 | nil=>simp at h
 | cons z L ih =>
  rw[Ê];rw[Ĝ]at hn
  by_cases e:z=n
  ·subst e;rw[ý L _ fun y hy=>?_]
   ·simp[dlt,Ŝ]
   ·unfold dlt;rw[if_neg];rintro rfl;exact hn.1 hy
  ·have:n∈L:=by
    rcases Ē.mp h with q | q
    ·exact absurd q.symm e
    ·exact q
   rw[ih hn.2 this];unfold dlt;rw[if_neg e,Ŋ]
theorem ô {L:List α}{z:α}(h:z∈L)(f:α->Rat):sumL L f=f z+sumL (L.erase z) f:=by
 induction L with
 | nil=>simp at h
 | cons y L ih =>
  rw[List.erase_cons]
  by_cases e:y=z
  ·subst e;simp[Ê]
  ·have hz:z∈L:=by
    rcases Ē.mp h with q | q
    ·exact absurd q.symm e
    ·exact q
   have:¬(y==z)=true:=by simpa using e
   rw[if_neg this,Ê,Ê,ih hz];grind
theorem zC1:∀{L ks:List α} (f:α->Rat),L.Nodup->ks.Nodup->(∀z∈ks,z∈L)->(∀z∈L,f z≠0->z∈ks)->sumL ks f=sumL L f
 | [],ks,f,_,_,h,_=>by
  cases ks with
  | nil=>rfl
  | cons z _=>exact absurd (h z Ć) (by simp)
 | z::L,ks,f,hL,hk,h,g=>by
  rw[Ĝ]at hL;rw[Ê]
  by_cases hz:z∈ks
  ·rw[ô hz]
   congr 1
   refine zC1 f hL.2 (hk.erase z) (fun y hy=>?_) fun y hy hf=>?_
   ·obtain⟨a,b⟩:=(hk.mem_erase_iff).mp hy;rcases Ē.mp (h y b) with q | q
    ·exact absurd q a
    ·exact q
   ·refine(hk.mem_erase_iff).mpr ⟨fun e=>hL.1 (e▸hy),g y (ă _ hy) hf⟩
  ·have e:f z=0:=by
    by_cases q:f z=0
    ·exact q
    ·exact absurd (g z Ć q) hz
   rw[e,Ŋ];refine zC1 f hL.2 hk (fun y hy=>?_) fun y hy hf=>g y (ă _ hy) hf;rcases Ē.mp (h y hy) with q | q
   ·exact absurd hy (q▸hz)
   ·exact q
theorem Ö:∀{L ks:List α},ks.Nodup->(∀z∈ks,z∈L)->ks.length<=L.length
 | L,[],_,_=>by simp
 | L,k::ks,hk,h=>by
  rw[Ĝ]at hk;have hm:=h k Ć;have:=Ö (L:=L.erase k) (ks:=ks) hk.2 fun z hz=>by
   refine(List.mem_erase_of_ne ?_).mpr (h z (ă _ hz));rintro rfl;exact hk.1 hz
  rw[List.length_erase_of_mem hm]at this;have hp:=List.length_pos_of_mem hm;rw[ğ];lia
noncomputable def op (f:α->Rat):α->Option Rat:=fun z=>if f z=0 then none else some (f z)
theorem ξ (f:α->Rat)(z:α):(op f z).getD 0=f z:=by
 unfold op;split
 ·rename_i h;rw[h];rfl
 ·rfl
theorem op_some {f:α->Rat}{z:α}:(op f z).isSome=true↔f z≠0:=by
 unfold op;split
 ·rename_i h;simp[h]
 ·rename_i h;simp[h]
structure Good (L:List α)(P:Nat)(R:α->α->Rat):Prop where
 part:∀n∈L,∀z,IsM P 1 (R n z)
 sup:∀n∈L,∀z,R n z≠0->z∈L
 all:∀n∈L,sumL L (R n)=1
theorem Good.dlt {L:List α}(h:L.Nodup):Good L 1 (dlt (α:=α)) where
 part:=fun n _ z=>by
  unfold Tc.dlt;split
  ·exact IsM.one 1
  ·exact IsM.zero 1 1
 sup:=fun n hn z hz=>by
  unfold Tc.dlt at hz
  split at hz
  ·rename_i e;rw[e];exact hn
  ·exact absurd rfl hz
 all:=fun n hn=>yX2 h hn
theorem Good.bw {L:List α}{P:Nat}{R:α->α->Rat}{x y:α}{t:Rat}(h:Good L P R)(hx:x∈L)(hy:y∈L)(h0:0<=t)(h1:t<=1):Good L (P*t.den) (bw x y t R) where
 part:=fun n hn z=>by
  unfold Tc.bw;split
  ·exact(h.part x hx z).mix (h.part y hy z) h0 h1
  ·exact(h.part n hn z).up _
 sup:=fun n hn z hz=>by
  unfold Tc.bw at hz
  split at hz
  ·have hz:R x z*(1 - t)+R y z*t≠0:=hz
   by_cases e:R x z=0
   ·by_cases e2:R y z=0
    ·rw[e,e2,ň,ň,Ŝ]at hz;exact absurd rfl hz
    ·exact h.sup y hy z e2
   ·exact h.sup x hx z e
  ·exact h.sup n hn z hz
 all:=fun n hn=>by
  unfold Tc.bw;split
  ·rw[yX1,h.all x hx,h.all y hy];grind
  ·exact h.all n hn
theorem zP1 {a:Rat}(h:0<=a)(n:a≠0):0<a:=by grind
theorem yR0:op (fun _:α=>0)=fun _=>none:=by funext z;simp[op]
end
end Tc
namespace L2
open PySem PySem.Spec PyProof.Rows
theorem yD7:bootBuiltins "reversed" = some (.type "reversed"):=by decide +kernel
noncomputable def Itv (K:Ă)(a:Addr)(xs:List V):It :=
 ⟨fun i H=>i<xs.length /\ SqL K H a xs,fun i H x H'=>H'=H /\ xs[xs.length - 1 - i]?=some x,fun i _=>i=xs.length⟩
theorem yW7 {P:Program}{w:World}{K:Ă}{tg:Expr}(a it:Addr)(xs:List V):Turn P w K tg (Itv K a xs) [it] it (fun i h=>h.IsRevIter it a ((xs.length:Int) - 1 - (i:Int))) where
 mem:=by simp
 obj:=fun i h st b hb=>by
  have e:b=it:=by simpa using hb
  subst e;obtain⟨o,e,c,d⟩:=st;exact⟨o,e,fun v z=>by rw[d]at z;cases z⟩
 keep:=fun i h h' st k=>st.at fun o e=>k it (by simp) o e
 item:=by
  intro X hP hw hK hc i pins s σ H E I hf st hg;subst hP hw hK;obtain⟨hi,hq⟩:=hg;obtain⟨its,rv,p,hz⟩:=I.list hq;have hx:xs[xs.length - 1 - i]?=some (xs[xs.length - 1 - i]'(by lia)):=Ā (by lia);obtain⟨u,hu,ru⟩:=rv.get hx;obtain⟨f0,f1,f2,f3,f4,f5⟩:=hf it (by simp);have e:(xs.length:Int) - 1 - (i:Int)=((xs.length - 1 - i:Nat):Int):=by lia
  have st:s.heap.IsRevIter it a ((xs.length:Int) - 1 - (i:Int)):=st;rw[e]at st;refine wpAny_pyNext_rev_item st p.isList (x:=u) (by simpa using hu) fun h' st' sb=>?_;have I1:Inv X pins σ H { s with heap:=h' }:=I.turned (t':=s.toks) (fun b o hb e=>(sb.2 b hb).trans e) f0 f1 f3 f4 f5;have e2:((xs.length - 1 - i:Nat):Int) - 1=(xs.length:Int) - 1 - ((i+1:Nat):Int):=by lia
  rw[e2]at st';obtain⟨o,e,c,d⟩:=id st';exact⟨u,rfl,yL2 (s:={ s with heap:=h' }) e c d (by decide) ⟨_,H,I1,ru,⟨rfl,hx⟩,st',fun b hb=>(hf b hb).1⟩⟩
 done:=by
  intro X hP hw hK hc i pins s σ H E I hf st hg;subst hP hw hK;have hg:i=xs.length:=hg;obtain⟨f0,f1,f2,f3,f4,f5⟩:=hf it (by simp);have e:(xs.length:Int) - 1 - (i:Int) = -1:=by lia
  have st:s.heap.IsRevIter it a ((xs.length:Int) - 1 - (i:Int)):=st;rw[e]at st;exact wpAny_pyNext_rev_end (I.ok.hd hc) st fun h' eb=>⟨rfl,I.turned (t':=s.toks) (fun b o hb e=>eb b o hb e) f0 f1 f3 f4 f5⟩
 self:=fun _ _ _ _ _ st h=>wpAny_pyIter_revIter st h
section
variable {X:Cx}{K:Ă}
noncomputable def iRev (K:Ă)(ta:TA):TI:=fun σ H R=>ta σ H fun vs H1=>∃a xs,vs=[V.ref a] /\ SqL K H1 a xs /\ R (Itv K a xs) H1
theorem xD0 {tg a:Expr}{ta:TA}{p pos:Pos}(hK:X.K=K)(hg:Gl X "reversed")(hm:X.mg "reversed" = none)(ha:PA X [a] ta)(hs:starEach [a] X.env=[(false,eval a X.env)]:=by rfl):PI X tg (.Call (.Name "reversed" p) [a] [] pos) (iRev K ta):=by
 subst hK;intro pins s σ H R I h;refine Call_ (η I hg hm yD7 (PyProof.Rows.callWith_type1 (thn (ha pos pins s σ H _ I h) fun us s1 ⟨vs,H1,I1,r1,q1⟩=>?_) hs rfl));obtain⟨b,xs,rfl,hq,q⟩:=q1;obtain⟨u,rfl,ru⟩:=ι r1;cases ru;obtain⟨its,rv,p,hz⟩:=I1.list hq;refine call_reversed_list p.isList ?_;have e:((its.toArray.size:Nat):Int) - 1=(xs.length:Int) - 1 - ((0:Nat):Int):=by
  have:=rv.length;simp;lia
 rw[e];refine wpAny_pyIter_revIter (l:=b) (i:=(xs.length:Int) - 1 - ((0:Nat):Int)) ⟨_,ē _ rfl,rfl,rfl⟩ ?_;refine⟨s1.heap.objs.size,[s1.heap.objs.size],_,_,H1,rfl,I1.kept (t':=s1.toks) fun b o e=>ć _ e,yW7 b _ xs,⟨_,ē _ rfl,rfl,rfl⟩,fun b hb=>?_,q⟩;have e:b=s1.heap.objs.size:=by simpa using hb
 subst e;exact I1.fpOk (ą _) (I1.hok.fresh (ą _))
theorem yV6:Φ X (.builtin "len") (fun xs H Q=>∃a kvs,xs=[V.ref a] /\ H a=some (.dK kvs) /\ Q (.int (kvs.length:Nat)) H):=by
 intro pins s σ H xs us Q I r h;obtain⟨a,kvs,rfl,ha,q⟩:=h;obtain⟨u,rfl,ru⟩:=ι r;cases ru;obtain⟨z,y,vs,kv,D⟩:=ψ I.hok ha;have hl:vs.length=kvs.length:=kv.length.symm;have hs:sizeLine=16777216:=sizeLine_eq;refine call_len_dict y D (by lia) ?_;rw[hl];exact⟨.int _,H,I.tok _,⟨_,rfl⟩,q⟩
end
theorem yU3 {K:Ă}{a:Addr}{xs:List V}{g:TG}{tb:TS}{D:Ends}{σ:St}{H:Hp}(Pv:Nat->St->Hp->Prop)(h0:Pv xs.length σ H)(hl:∀j σ H,j<=xs.length->Pv j σ H->SqL K H a xs)
  (hs:∀j x σ H,xs[j]?=some x->Pv (j+1) σ H->g x σ H fun σ2 H2=>tb { D with nx:=Pv j,ct:=Pv j,bk:=D.nx } σ2 H2)(hd:∀σ H,Pv 0 σ H->D.nx σ H) :
  ∃W:Nat->Nat->St->Hp->Prop,(∃m,W 0 m σ H) /\ ∀i m σ H,W i m σ H ->
   ((Itv K a xs).stop i H /\ D.nx σ H) \/ ((Itv K a xs).go i H /\ ∃N:St->Hp->Prop,(∀σ' H',N σ' H'->∃m',m'<m /\ W (i+1) m' σ' H') /\ ∀x H',(Itv K a xs).yld i H x H'->g x σ H' fun σ2 H2=>tb { D with nx:=N,ct:=N,bk:=D.nx } σ2 H2):=by
 refine⟨fun i m σ H=>i+m=xs.length /\ Pv m σ H,⟨xs.length,by lia,h0⟩,?_⟩;rintro i m σ H ⟨hi,p⟩;have q:=hl m σ H (by lia) p;cases m with
 | zero=>exact .inl ⟨by show i=_;lia,hd σ H p⟩
 | succ j =>
  refine .inr ⟨⟨by lia,q⟩,Pv j,fun σ' H' p'=>⟨j,by lia,by lia,p'⟩,fun x H' y=>?_⟩;obtain⟨e,y⟩:=y;subst e;have ej:xs.length - 1 - i=j:=by lia
  rw[ej]at y;exact hs j x σ _ y p
theorem Paired.take {α β:Type}{F:α->β->Prop}{xs:List α}{ys:List β}(h:Paired F xs ys):∀i:Nat,Paired F (xs.take i) (ys.take i):=by
 induction h with
 | nil=>intro i;rw[List.take_nil,List.take_nil];exact .nil
 | cons r t ih =>
  intro i;cases i with
  | zero=>exact .nil
  | succ i=>rw[List.take_succ_cons,List.take_succ_cons];exact .cons r (ih i)
theorem Paired.drop {α β:Type}{F:α->β->Prop}{xs:List α}{ys:List β}(h:Paired F xs ys):∀i:Nat,Paired F (xs.drop i) (ys.drop i):=by
 induction h with
 | nil=>intro i;rw[List.drop_nil,List.drop_nil];exact .nil
 | cons r t ih =>
  intro i;cases i with
  | zero=>exact .cons r t
  | succ i=>rw[List.drop_succ_cons,List.drop_succ_cons];exact ih i
theorem Paired.app {α β:Type}{F:α->β->Prop}{xs xs':List α}{ys ys':List β}(h:Paired F xs ys)(g:Paired F xs' ys'):Paired F (xs++xs') (ys++ys'):=by
 induction h with
 | nil=>exact g
 | cons r t ih=>exact .cons r ih
section
variable {X:Cx}{K:Ă}{pos:Pos}
noncomputable def xG1:V->List V->Hp->VK->Prop:=fun x vs H Q=>∃(l:Addr) (xs:List V) (i:Nat) (y:V),x = .ref l /\ vs=[.int (i:Nat),y] /\ H l=some (.lst xs) /\ i<=xs.length /\ xs.length<=1000 /\ Q .non (upd H l (.lst (xs.take i++y::xs.drop i)))
theorem yS2:MtR X "list.insert" xG1:=by
 intro pins s σ H x vs v us Q I rx rv h;obtain⟨l,xs,i,y,rfl,rfl,hH,hi,hz,q⟩:=h;cases rx;obtain⟨u1,u2,rfl,r1,r2⟩:∃u1 u2,us=[u1,u2] /\ RelV (.int (i:Nat)) u1 /\ RelV y u2:=by
  cases rv with
  | cons a r =>
   cases r with
   | cons b r=>cases r;exact⟨_,_,rfl,a,b⟩
 obtain⟨t,rfl⟩:=r1;obtain⟨z,its,n,r,hl,e⟩:=I.lstM hH;have hsz:sizeLine=16777216:=sizeLine_eq;have hle:its.toArray.size<=sizeLine:=by rw[ĕ];lia
 obtain⟨x,hx⟩:∃x:Int,x=((i:Nat):Int):=⟨_,rfl⟩;rw[<- hx];have hfit:¬(!Builtin.List.listFitsIndex x)=true:=by
  have:Builtin.List.listFitsIndex x=true:=by
   unfold Builtin.List.listFitsIndex;rw[Ń];exact⟨decide_eq_true (by lia),decide_eq_true (by lia)⟩
  rw[this];decide
 refine call_meets F.slot_list_insert ⟨_,e,rfl⟩ F.entry_list_insert (F.args_list_insert_3 _ _ _) (AutoSeq1.list_insert_list_int_val_1 l its.toArray n x t u2 hfit hle) ⟨e,?_⟩;refine⟨.non,_,I.lset (its':=its.take i++u2::its.drop i) hH e ?_ ?_ ?_,rfl,q⟩
 ·have ek:(if x<0 then (x+(its.toArray.size:Int)).toNat else min x.toNat its.toArray.size)=i:=by
   rw[if_neg (by lia),ĕ];lia
  show (its.toArray.extract 0 (if x<0 then (x+(its.toArray.size:Int)).toNat else min x.toNat its.toArray.size)).push u2++its.toArray.extract (if x<0 then (x+(its.toArray.size:Int)).toNat else min x.toNat its.toArray.size)=_;rw[ek];apply Array.ext';simp;exact List.take_of_length_le (by rw[Ĩ];lia)
 ·exact Paired.app (Paired.take r i) (.cons r2 (Paired.drop r i))
 ·rw[Ď,ğ,ċ,Ĩ];lia
end
theorem zZ3:bootBuiltins "enumerate" = some (.type "enumerate"):=by decide +kernel
section
variable {X:Cx}{pins:List (Addr×Obj)}{σ:St}{H:Hp}{s:Shared}{h':Heap}
theorem Inv.turns {t':Nat}{ch:List Addr}(I:Inv X pins σ H s)(k:∀b o,b∉ch->s.heap.get? b=some o->h'.get? b=some o)(hf:∀b∈ch,FpOk X pins H b):Inv X pins σ H { s with heap:=h',toks:=t' }:=by
 have nit:∀b u,H b=some u->b∉ch:=fun b u e z=>by rw[(hf b z).1]at e;cases e
 refine I.step (g':=s.gens) (d':=s.drawn) (ch:=ch) (fun b hb=>?_) (fun b o _ _ hc e _=>k b o hc e) (fun b o _ _ hc e _=>⟨o.slots,k b o hc e⟩) (fun _ _ _ _ n=>n) (fun b o hc e=>⟨o,k b o hc e⟩) (fun _ _ e=>e) (fun _ _ _ e=>e) (fun b ps e=>⟨#[],by rw[e];simp⟩) (fun m hm=>?_) (fun b u e=>?_) I.bare
 ·obtain⟨f0,f1,f2,f3,f4,f5⟩:=hf b hb;exact⟨f3,f1,f4,f5⟩
 ·obtain⟨o,es,ep,ho,r⟩:=hm;exact⟨o,es,ep,k _ o (fun z=>(hf _ z).2.1 rfl) ho,r⟩
 ·refine(I.hok b u e).stay (fun c v hc q=>k c v ?_ q) (fun _ q=>q) fun _ _ q=>q;rcases hc with z | z
  ·rw[z];exact nit b u e
  ·exact nit c _ z
end
noncomputable def ItE (K:Ă)(a:Addr)(xs:List V):It :=
 ⟨fun i H=>i<xs.length /\ SqL K H a xs,fun i H x H'=>∃v T,xs[i]?=some v /\ x = .ref T /\ H T=none /\ H'=upd H T (.tup [.int (i:Nat),v]),fun i H=>i=xs.length /\ SqL K H a xs⟩
theorem yM1 {P:Program}{w:World}{K:Ă}{elts:List Expr}{kk:Nat}{pos:Pos}(a e li:Addr)(xs:List V)(hne:e≠li) :
  Turn P w K (.Tuple elts kk pos) (ItE K a xs) [e,li] e (fun i h=>∃old,IsEnum h e li ((i:Nat):Int) old /\ h.IsListIter li a i) where
 mem:=by simp
 obj:=fun i h st b hb=>by
  obtain⟨old,s1,o,e2,c,d⟩:=st;simp only[Ē,Ŗ,or_false]at hb;rcases hb with rfl | rfl
  ·exact⟨_,s1,fun v z=>by cases z⟩
  ·exact⟨o,e2,fun v z=>by rw[d]at z;cases z⟩
 keep:=fun i h h' st k=>let ⟨old,s1,s2⟩:=st;⟨old,k e (by simp) _ s1,s2.at fun o eo=>k li (by simp) o eo⟩
 item:=by
  intro X hP hw hK hc i pins s σ H E I hf st hg;subst hP hw hK;obtain⟨old,st1,st2⟩:=st;obtain⟨hi,hq⟩:=hg;obtain⟨its,rv,p,hz⟩:=I.list hq;have hx:xs[i]?=some xs[i]:=by simp[hi]
  obtain⟨u,hu,ru⟩:=rv.get hx;refine wpAny_pyNext_enum_item st1 st2 p.isList (x:=u) (by simpa using hu) hne fun h' jo jl ht hz' kp=>?_;refine⟨_,rfl,wpAny_letOwnedTupleGo_enum jo fun h2 he2 sb=>?_⟩;have sb:Heap.SameBut e h' h2:=sb;have nTe:s.heap.objs.size≠e:=ĥ (ĉ st1);have nTl:s.heap.objs.size≠li:=by
   obtain⟨o,e2,_⟩:=id st2;exact ĥ (ĉ e2)
  have I1:Inv X pins σ H { s with heap:=h2,toks:=s.toks+1 }:=I.turns (ch:=[e,li]) (fun b o hb eo=>sb.extBut b o (fun z=>hb (by simp[z])) (kp b o (fun z=>hb (by simp[z])) (fun z=>hb (by simp[z])) eo)) hf;have hT2:h2.get? s.heap.objs.size=some { cls:=.type "tuple",data:=.seq #[.int i s.toks,u] }:=sb.extBut _ _ nTe ht;obtain⟨g0,g1,_,_,g4,g5⟩:=I.fpOk (ą _) I.fresh;have I2:=I1.track (a:=s.heap.objs.size) (o:=.tup [.int (i:Nat),xs[i]]) g0 (by
   cases q:X.s₀.heap.get? s.heap.objs.size with
   | none=>rfl
   | some ob=>exact absurd (č (ĉ q) I.sz) (ņ _)) g1 g4 g5 ⟨zF5 (by simp) |> Ş,[.int i s.toks,u],.cons ⟨_,rfl⟩ (.cons ru .nil),⟨_,hT2,rfl,_,rfl⟩⟩
  refine⟨.ref _,_,I2,rfl,⟨xs[i],_,hx,rfl,g0,rfl⟩,⟨_,he2,jl.extBut sb.extBut hne.symm⟩,fun b hb=>?_⟩;have nb:b≠s.heap.objs.size:=by
   simp only[Ē,Ŗ,or_false]at hb;rcases hb with rfl | rfl
   ·exact nTe.symm
   ·exact nTl.symm
  rw[upd_ne nb];exact(hf b hb).1
 done:=by
  intro X hP hw hK hc i pins s σ H E I hf st hg;subst hP hw hK;obtain⟨old,st1,st2⟩:=st;obtain⟨hi,hq⟩:=hg;obtain⟨its,rv,p,hz⟩:=I.list hq;have hl:=rv.length;exact wpAny_pyNext_enum_end (I.ok.hd hc) st1 st2 p.isList (by simp;lia) fun h' eb=>⟨rfl,I.turns (t':=s.toks) (ch:=[e,li]) (fun b o hb eo=>eb b o (fun z=>hb (by simp[z])) eo) hf⟩
 self:=fun A i s Q E st h=>let ⟨_,st1,_⟩:=st;wpAny_pyIter_enum st1 h
section
variable {X:Cx}{K:Ă}
noncomputable def xU4 (K:Ă)(ta:TA):TI:=fun σ H R=>ta σ H fun vs H1=>∃a xs,vs=[V.ref a] /\ SqL K H1 a xs /\ R (ItE K a xs) H1
theorem yQ2 {elts:List Expr}{kk:Nat}{tpos:Pos}{a:Expr}{ta:TA}{p pos:Pos}(hK:X.K=K)(hg:Gl X "enumerate")(hm:X.mg "enumerate" = none)(ha:PA X [a] ta)(hs:starEach [a] X.env=[(false,eval a X.env)]:=by rfl):PI X (.Tuple elts kk tpos) (.Call (.Name "enumerate" p) [a] [] pos) (xU4 K ta):=by
 subst hK;intro pins s σ H R I h;refine Call_ (η I hg hm zZ3 (PyProof.Rows.callWith_type1 (thn (ha pos pins s σ H _ I h) fun us s1 ⟨vs,H1,I1,r1,q1⟩=>?_) hs rfl));obtain⟨b,xs,rfl,hq,q⟩:=q1;obtain⟨u,rfl,ru⟩:=ι r1;cases ru;obtain⟨its,rv,p,hz⟩:=I1.list hq;refine call_enumerate_list p.isList fun h' he hl hz kk=>wpAny_pyIter_enum he ?_;refine⟨s1.heap.objs.size+1,[s1.heap.objs.size+1,s1.heap.objs.size],_,_,H1,rfl,I1.kept (t':=s1.toks) kk,yM1 b (s1.heap.objs.size+1) s1.heap.objs.size xs (Nat.succ_ne_self _),⟨_,he,hl⟩,fun c hc=>?_,q⟩;simp only[Ē,Ŗ,or_false]at hc;rcases hc with rfl | rfl
 ·exact I1.fpOk (by lia) (I1.hok.fresh (by lia))
 ·exact I1.fpOk (ą _) (I1.hok.fresh (ą _))
noncomputable def Hits (K:Ă)(H:Hp)(x y:V):Prop:=∃a b ka kb,x = .ref a /\ y = .ref b /\ H a=some (.dK ka) /\ H b=some (.dK kb) /\ ka.length=kb.length /\ ∀kv∈ka,∃w d,valV kb kv.1=some w /\ RepD K H d kv.2 /\ RepD K H d w /\ d.depth<=60
theorem xJ1 {pins:List (Addr×Obj)}{σ:St}{H:Hp}{s:Shared}{A:Around}(hu:A.in1.units+64<cLine)(I:Inv X pins σ H s){kb:List (Key×V)}{vb:List (Key×Value)}(rb:KV kb vb) :
  ∀{ka:List (Key×V)} {va:List (Key×Value)},KV ka va->(∀kv∈ka,∃w d,valV kb kv.1=some w /\ RepD X.K H d kv.2 /\ RepD X.K H d w /\ d.depth<=60)->PySem.W.KeqHits A.in1 s vb va true:=by
 intro ka va ra;unfold KV at ra
 induction ra with
 | nil=>intro _;exact .nil
 | @cons p q ps qs h t ih =>
  intro hh;obtain⟨w0,d,e,d1,d2,dd⟩:=hh p Ć;have rv:=rb.val q.1;rw[<- h.1,e]at rv;cases ey:valueAt vb p.1 with
  | none=>rw[ey]at rv;exact(show False from rv).elim
  | some y =>
   rw[ey]at rv;have rv:RelV w0 y:=rv;obtain⟨as,r1⟩:=RepD.reads I d1 h.2;obtain⟨bs,r2⟩:=RepD.reads I d2 rv;have sh:SeqAt.shaped d=true:=by
    unfold SeqAt.shaped;rw[d1.lay,Bool.true_and];exact decide_eq_true (by lia)
   have ea:=PySem.W.keq_at (A:=A) r1 r2 sh sh hu;rw[SeqAt.eqv_refl d d1.lay]at ea;obtain⟨q1,q2⟩:=q;have h1:p.1=q1:=h.1;subst h1;exact .hit (e:=true) (b:=true) ey ea (ih fun kv hkv=>hh kv (ă _ hkv))
theorem xN4 {k:Nat}(hK:X.K=K)(hr:Room k X.A):OpR X (compareOp .Eq) (fun x y H Q=>Hits K H x y /\ Q (.bl true) H):=by
 subst hK;intro pins s σ H x y v u Q I rx ry h;obtain⟨⟨a,b,ka,kb,rfl,rfl,ha,hb,hl,hh⟩,q⟩:=h;cases rx;cases ry;obtain⟨z1,y1,va,ra,Da⟩:=ψ I.hok ha;obtain⟨z2,y2,vb,rb,Db⟩:=ψ I.hok hb;have hu:=hr.un;have e1:va.length=vb.length:=by rw[<- ra.length,<- rb.length,hl]
 refine PySem.W.keq_eq y1 y2 Da Db (by lia) (fun _=>xJ1 (by first | exact hu | (simp[Around.in1];lia)) I rb ra hh) ?_;rw[e1];simp only[beq_self_eq_true,Bool.true_and];exact⟨.bl true,H,I,rfl,q⟩
end
theorem yH9 {K:Ă}{a:Addr}{xs:List V}{g:TG}{tb:TS}{D:Ends}{σ:St}{H:Hp}(Pv:Nat->St->Hp->Prop)(h0:Pv 0 σ H)(hl:∀i σ H,i<=xs.length->Pv i σ H->SqL K H a xs)
  (hs:∀i v T σ H,xs[i]?=some v->Pv i σ H->H T=none->g (.ref T) σ (upd H T (.tup [.int (i:Nat),v])) fun σ2 H2=>tb { D with nx:=Pv (i+1),ct:=Pv (i+1),bk:=D.nx } σ2 H2)(hd:∀σ H,Pv xs.length σ H->D.nx σ H) :
  ∃W:Nat->Nat->St->Hp->Prop,(∃m,W 0 m σ H) /\ ∀i m σ H,W i m σ H->((ItE K a xs).stop i H /\ D.nx σ H) \/ ((ItE K a xs).go i H /\ ∃N:St->Hp->Prop,(∀σ' H',N σ' H'->∃m',m'<m /\ W (i+1) m' σ' H') /\
   ∀x H',(ItE K a xs).yld i H x H'->g x σ H' fun σ2 H2=>tb { D with nx:=N,ct:=N,bk:=D.nx } σ2 H2):=by
 refine⟨fun i m σ H=>m=xs.length - i /\ i<=xs.length /\ Pv i σ H,⟨_,rfl,Ħ _,h0⟩,?_⟩;rintro i m σ H ⟨rfl,hi,p⟩;have q:=hl i σ H hi p
 by_cases hlt:i<xs.length
 ·refine .inr ⟨⟨hlt,q⟩,Pv (i+1),fun σ' H' p'=>⟨xs.length - (i+1),by lia,rfl,hlt,p'⟩,fun x H' y=>?_⟩;obtain⟨v,T,hv,e1,hT,e2⟩:=y;subst e1 e2;exact hs i v T σ H hv p hT
 ·have e:i=xs.length:=by lia
  subst e;exact .inl ⟨⟨rfl,q⟩,hd σ H p⟩
noncomputable def ItVl (d:Addr)(o:Obj)(u:HO)(ps:List (V×V)):It :=
 ⟨fun i H=>i<ps.length /\ H d=some (.frz o u),fun i H x H'=>H'=H /\ ∃k,ps[i]?=some (k,x),fun i H=>i=ps.length /\ H d=some (.frz o u)⟩
theorem yL9 {P:Program}{w:World}{K:Ă}{tg:Expr}{d it:Addr}{o:Obj}{u:HO}{ps:List (V×V)}{es:Array DictEntry}{ep:Nat}(hx:o.ExactDict)(dat:o.data = .dict es ep)(rel:yE3 ps es.toList) :
  Turn P w K tg (ItVl d o u ps) [it] it (fun i h=>h.IsValIter it d i es.size ep) where
 mem:=by simp
 obj:=fun i h st b hb=>by
  have e:b=it:=by simpa using hb
  subst e;obtain⟨o,e,_,d⟩:=st;exact⟨o,e,fun v z=>by rw[d]at z;cases z⟩
 keep:=fun i h h' st k=>let ⟨o,e,r⟩:=st;⟨o,k it (by simp) o e,r⟩
 item:=by
  intro X hP hw hK hc i pins s σ H E I hf st hg;subst hP hw hK;obtain⟨f0,f1,_,f3,f4,f5⟩:=hf it (by simp);obtain⟨hi,hd⟩:=hg;have hlen:ps.length=es.size:=by rw[rel.length];simp
  have hi':i<es.size:=by lia
  refine zW1 st ⟨o,(I.hok d _ hd).1,hx,dat⟩ hi' fun h' st' sb=>?_;obtain⟨p,hp⟩:∃p,ps[i]?=some p:=⟨ps[i],by simp[hi]⟩;obtain⟨e',he',rk,rv⟩:=Ξ rel hp;have ee:e'=es[i]:=by
   have:es.toList[i]?=some es[i]:=by simp[hi']
   rw[this]at he';exact(Option.some.inj he').symm
  subst ee;have I1:Inv X pins σ H { s with heap:=h',toks:=s.toks }:=I.turned (fun b ob hb e=>sb.extBut b ob hb e) f0 f1 f3 f4 f5;obtain⟨oi,ei,ci,di⟩:=id st';exact⟨_,rfl,yL2 (s:={ s with heap:=h',toks:=s.toks }) ei ci di (by decide) ⟨p.2,H,I1,rv,⟨rfl,p.1,hp⟩,st',fun b hb=>(hf b hb).1⟩⟩
 done:=by
  intro X hP hw hK hc i pins s σ H E I hf st hg;subst hP hw hK;obtain⟨f0,f1,_,f3,f4,f5⟩:=hf it (by simp);obtain⟨hi,hd⟩:=hg;have hlen:ps.length=es.size:=by rw[rel.length];simp
  exact yG2 (I.ok.hd hc) st ⟨o,(I.hok d _ hd).1,hx,dat⟩ (by rw[hi,hlen];exact ą _) fun h' eb=>⟨rfl,I.turned (t':=s.toks) (fun b ob hb e=>eb b ob hb e) f0 f1 f3 f4 f5⟩
 self:=fun A i s Q E st h=>wpAny_pyIter_valiter st h
section
variable {X:Cx}
noncomputable def xU0 (tl:TE):TI:=fun σ H R=>tl σ H fun x H1=>∃v d u,x = .ref v /\ H1 v=some (yJ2 v d) /\ H1 d=some u /\ isDk u=true /\ ∀o ps,Pss H1 u ps->R (ItVl d o u ps) (upd H1 d (.frz o u))
theorem xG6 {tg l:Expr}{tl:TE}(hl:PE X l tl):PI X tg l (xU0 tl):=by
 intro pins s σ H R I h;refine thn (hl pins s σ H _ I h) fun v s1 ⟨x,H1,I1,r1,q1⟩=>?_;obtain⟨vw,d,u,rfl,hv,hd,hu,q⟩:=q1;cases r1;obtain⟨o,es,ep,ps,g,ex,dat,hs,hps,rel⟩:=I1.raw hd hu;have hv':s1.heap.IsValuesView vw d:=(I1.hok vw _ hv).1;refine zW2 hv' ⟨o,g,ex,dat⟩ ?_;have I2:Inv X pins σ H1 _:=I1.kept (t':=s1.toks) (h':=s1.heap.push { cls:=.type "dict_valueiterator",data:=.fields #[.ref d,.int 0 0,.int es.size 0,.int ep 0] }) fun b ob e=>ć _ e;refine⟨s1.heap.objs.size,[s1.heap.objs.size],_,_,_,rfl,I2.freeze hd hu (ć _ g),yL9 ex dat rel,⟨_,ē _ rfl,rfl,rfl⟩,fun b hb=>?_,q o ps hps⟩;have e:b=s1.heap.objs.size:=by simpa using hb
 subst e;exact I1.fpOk (ą _) (by rw[upd_ne (Æ hd I1.fresh).symm];exact I1.fresh)
end
theorem xA5 {d:Addr}{o:Obj}{u:HO}{ps:List (V×V)}{g:TG}{tb:TS}{D:Ends}{σ:St}{H:Hp}(Pv:Nat->St->Hp->Prop)(h0:Pv 0 σ H)(hf:∀i σ H,Pv i σ H->H d=some (.frz o u))
  (hs:∀i k v σ H,ps[i]?=some (k,v)->Pv i σ H->g v σ H fun σ2 H2=>tb { D with nx:=Pv (i+1),ct:=Pv (i+1),bk:=D.nx } σ2 H2)(hd:∀σ H,Pv ps.length σ H->D.nx σ H) :
  ∃W:Nat->Nat->St->Hp->Prop,(∃m,W 0 m σ H) /\ ∀i m σ H,W i m σ H->((ItVl d o u ps).stop i H /\ D.nx σ H) \/ ((ItVl d o u ps).go i H /\ ∃N:St->Hp->Prop,(∀σ' H',N σ' H'->∃m',m'<m /\ W (i+1) m' σ' H') /\
   ∀x H',(ItVl d o u ps).yld i H x H'->g x σ H' fun σ2 H2=>tb { D with nx:=N,ct:=N,bk:=D.nx } σ2 H2):=by
 refine⟨fun i m σ H=>m=ps.length - i /\ i<=ps.length /\ Pv i σ H,⟨_,rfl,Ħ _,h0⟩,?_⟩;rintro i m σ H ⟨rfl,hi,p⟩
 by_cases hlt:i<ps.length
 ·refine .inr ⟨⟨hlt,hf i σ H p⟩,Pv (i+1),fun σ' H' p'=>⟨ps.length - (i+1),by lia,rfl,hlt,p'⟩,fun x H' y=>?_⟩;obtain⟨e,k,hk⟩:=y;subst e;exact hs i k x σ _ hk p
 ·have e:i=ps.length:=by lia
  subst e;exact .inl ⟨⟨rfl,hf _ σ H p⟩,hd σ H p⟩
theorem zP7 {d:Addr}{o:Obj}{u:HO}{ps:List (V×V)}{g:TG}{tc:TT}{te:TE}{D:Addr}{Z:Hp->Prop}{σ:St}{H:Hp}(Pv:Nat->St->Hp->Prop)(h0:Pv 0 σ H)(hf:∀i σ H,Pv i σ H->H d=some (.frz o u))
  (hs:∀i k v σ H,ps[i]?=some (k,v)->Pv i σ H->g k σ H fun σ2 H2=>tc σ2 H2 fun b H3=>if b=true then te σ2 H3 fun y H4=>∃ys,H4 D=some (.lst ys) /\ ys.length<sizeLine /\ Pv (i+1) σ2 (upd H4 D (.lst (ys++[y]))) else Pv (i+1) σ2 H3)
  (hd:∀σ H,Pv ps.length σ H->Z H):zK9 (ItK d o u ps) g tc te D Z σ H:=by
 refine⟨fun i m σ H=>m=ps.length - i /\ i<=ps.length /\ Pv i σ H,⟨ps.length,by simp,Ħ _,h0⟩,?_⟩;rintro i m σ H ⟨rfl,hi,p⟩
 by_cases hlt:i<ps.length
 ·refine .inr ⟨⟨hlt,hf i σ H p⟩,Pv (i+1),fun σ' H' p'=>⟨ps.length - (i+1),by lia,rfl,hlt,p'⟩,fun x H' y=>?_⟩;obtain⟨e,v,hk⟩:=y;subst e;exact hs i x v σ _ hk p
 ·have e:i=ps.length:=by lia
  subst e;exact .inl ⟨⟨rfl,hf _ σ H p⟩,hd σ H p⟩
theorem xE3:bootBuiltins "zip" = some (.type "zip"):=by decide +kernel
theorem z_ne {x y:Nat}(h:¬x=y):(x:Addr)≠(y:Addr):=h
noncomputable def ItZ (K:Ă)(a b:Addr)(xs ys:List V):It :=
 ⟨fun i H=>i<xs.length /\ i<ys.length /\ SqL K H a xs /\ SqL K H b ys,fun i H x H'=>∃v u T,xs[i]?=some v /\ ys[i]?=some u /\ x = .ref T /\ H T=none /\ H'=upd H T (.tup [v,u]),fun i H=>(i=xs.length \/ i=ys.length) /\ SqL K H a xs /\ SqL K H b ys⟩
theorem ű {h:Heap}{l c:Addr}{its:Array Value}{o:Obj}(hl:h.IsList l its)(hc:h.get? c=some o)(n:o.cls ≠ .type "list"):l≠c:=by
 intro e;subst e;obtain⟨o',e1,e2,_⟩:=hl;rw[hc]at e1;cases e1;exact n e2
theorem yW6 {P:Program}{w:World}{K:Ă}{elts:List Expr}{kk:Nat}{pos:Pos}(a b:Addr)(n:Nat)(xs ys:List V) :
  Turn P w K (.Tuple elts kk pos) (ItZ K a b xs ys) [n+4,n+2,n+3,n,n+1] (n+4) (fun i h=>IsZip h (n+4) (n+2) (n+3) .none /\ IsPair h (n+2) (.ref n) (.ref (n+1)) /\ (∃u v,IsPair h (n+3) u v) /\ h.IsListIter n a i /\ h.IsListIter (n+1) b i) where
 mem:=by simp
 obj:=fun i h st c hb=>by
  obtain⟨hz,hTI,⟨u,v,hTO⟩,⟨o1,e1,_,d1⟩,⟨o2,e2,_,d2⟩⟩:=st;simp only[Ē,Ŗ,or_false]at hb;rcases hb with rfl | rfl | rfl | rfl | rfl
  ·exact⟨_,hz,fun v z=>by cases z⟩
  ·exact⟨_,hTI,fun v z=>by cases z⟩
  ·exact⟨_,hTO,fun v z=>by cases z⟩
  ·exact⟨_,e1,fun v z=>by rw[d1]at z;cases z⟩
  ·exact⟨_,e2,fun v z=>by rw[d2]at z;cases z⟩
 keep:=fun i h h' st k=>by
  obtain⟨hz,hTI,⟨u,v,hTO⟩,h1,h2⟩:=st;exact⟨k _ (by simp) _ hz,k _ (by simp) _ hTI,⟨u,v,k _ (by simp) _ hTO⟩,h1.at fun o e=>k _ (by simp) o e,h2.at fun o e=>k _ (by simp) o e⟩
 item:=by
  intro X hP hw hK hc i pins s σ H E I hf st hg;subst hP hw hK;obtain⟨hz,hTI,⟨u0,v0,hTO⟩,h1,h2⟩:=st;obtain⟨hi,hj,hq1,hq2⟩:=hg;obtain⟨its1,rv1,p1,_⟩:=I.list hq1;obtain⟨its2,rv2,p2,_⟩:=I.list hq2;obtain⟨u,hu,ru⟩:=rv1.get (show xs[i]?=some xs[i] by simp[hi]);obtain⟨u',hu',ru'⟩:=rv2.get (show ys[i]?=some ys[i] by simp[hj]);obtain⟨o1,e1,c1,d1⟩:=id h1;obtain⟨o2,e2,c2,d2⟩:=id h2;have D:ZipApart (n+4) (n+2) (n+3) n (n+1) a b:=⟨z_ne (by lia),z_ne (by lia),z_ne (by lia),z_ne (by lia),z_ne (by lia),z_ne (by lia),z_ne (by lia),z_ne (by lia),z_ne (by lia),z_ne (by lia),ű p1.isList hz (show (Value.type "zip":Value) ≠ .type "list" by decide),ű p1.isList hTO (show (Value.type "tuple":Value) ≠ .type "list" by decide),ű p1.isList e1 (by rw[c1];decide),ű p1.isList e2 (by rw[c2];decide),ű p2.isList hz (show (Value.type "zip":Value) ≠ .type "list" by decide),ű p2.isList hTO (show (Value.type "tuple":Value) ≠ .type "list" by decide),ű p2.isList e1 (by rw[c1];decide),ű p2.isList e2 (by rw[c2];decide)⟩;refine wpAny_pyNext_zip_item D hz hTI hTO h1 h2 p1.isList p2.isList (x:=u) (y:=u') (by simpa using hu) (by simpa using hu') fun h' jz jo j1 j2 ht hsz kp=>?_;refine⟨_,rfl,wpAny_letOwnedTupleGo_zip jz fun h2' he2 sb=>?_⟩;have sb:Heap.SameBut (n+4) h' h2':=sb;have lt:∀{c o},s.heap.get? c=some o->s.heap.objs.size≠c:=fun e=>ĥ (ĉ e);have I1:Inv X pins σ H { s with heap:=h2',toks:=s.toks }:=I.turns (ch:=[n+4,n+2,n+3,n,n+1]) (fun c o hb eo=>sb.extBut c o (fun z=>hb (by simp[z])) (kp c o (fun z=>hb (by simp[z])) (fun z=>hb (by simp[z])) (fun z=>hb (by simp[z])) (fun z=>hb (by simp[z])) eo)) hf;have hT2:h2'.get? s.heap.objs.size=some { cls:=.type "tuple",data:=.seq #[u,u'] }:=sb.extBut _ _ (lt hz) ht;obtain⟨g0,g1,_,_,g4,g5⟩:=I.fpOk (ą _) I.fresh;have I2:=I1.track (a:=s.heap.objs.size) (o:=.tup [xs[i],ys[i]]) g0 (by
   cases q:X.s₀.heap.get? s.heap.objs.size with
   | none=>rfl
   | some ob=>exact absurd (č (ĉ q) I.sz) (ņ _)) g1 g4 g5 ⟨zF5 (by simp) |> Ş,[u,u'],.cons ru (.cons ru' .nil),⟨_,hT2,rfl,_,rfl⟩⟩
  refine⟨.ref _,_,I2,rfl,⟨xs[i],ys[i],_,(by simp[hi]),(by simp[hj]),rfl,g0,rfl⟩,⟨he2,sb.extBut _ _ D.TIz (kp _ _ D.TIz D.TITO D.TIi1 D.TIi2 hTI),⟨_,_,sb.extBut _ _ D.TOz jo⟩,j1.extBut sb.extBut D.i1z,j2.extBut sb.extBut D.i2z⟩,fun c hb=>?_⟩;have nb:c≠s.heap.objs.size:=by
   simp only[Ē,Ŗ,or_false]at hb;rcases hb with rfl | rfl | rfl | rfl | rfl
   ·exact(lt hz).symm
   ·exact(lt hTI).symm
   ·exact(lt hTO).symm
   ·exact(lt e1).symm
   ·exact(lt e2).symm
  rw[upd_ne nb];exact(hf c hb).1
 done:=by
  intro X hP hw hK hc i pins s σ H E I hf st hg;subst hP hw hK;obtain⟨hz,hTI,⟨u0,v0,hTO⟩,h1,h2⟩:=st;obtain⟨hi,hq1,hq2⟩:=hg;obtain⟨its1,rv1,p1,_⟩:=I.list hq1;obtain⟨its2,rv2,p2,_⟩:=I.list hq2;obtain⟨o1,e1,c1,d1⟩:=id h1;obtain⟨o2,e2,c2,d2⟩:=id h2;have D:ZipApart (n+4) (n+2) (n+3) n (n+1) a b:=⟨z_ne (by lia),z_ne (by lia),z_ne (by lia),z_ne (by lia),z_ne (by lia),z_ne (by lia),z_ne (by lia),z_ne (by lia),z_ne (by lia),z_ne (by lia),ű p1.isList hz (show (Value.type "zip":Value) ≠ .type "list" by decide),ű p1.isList hTO (show (Value.type "tuple":Value) ≠ .type "list" by decide),ű p1.isList e1 (by rw[c1];decide),ű p1.isList e2 (by rw[c2];decide),ű p2.isList hz (show (Value.type "zip":Value) ≠ .type "list" by decide),ű p2.isList hTO (show (Value.type "tuple":Value) ≠ .type "list" by decide),ű p2.isList e1 (by rw[c1];decide),ű p2.isList e2 (by rw[c2];decide)⟩;have l1:=rv1.length;have l2:=rv2.length;refine wpAny_pyNext_zip_end (I.ok.hd hc) D hz hTI hTO h1 h2 p1.isList p2.isList ?_ fun h' kp=>⟨rfl,I.turns (t':=s.toks) (ch:=[n+4,n+2,n+3,n,n+1]) (fun c o hb eo=>kp c o (fun z=>hb (by simp[z])) (fun z=>hb (by simp[z])) (fun z=>hb (by simp[z])) (fun z=>hb (by simp[z])) eo) hf⟩;rcases hi with e | e
  ·exact .inl (by simp;lia)
  ·exact .inr (by simp;lia)
 self:=fun A i s Q E st h=>wpAny_pyIter_zip st.1 h
section
variable {X:Cx}{K:Ă}
noncomputable def iZip (K:Ă)(ta:TA):TI:=fun σ H R=>ta σ H fun vs H1=>∃a b xs ys,vs=[V.ref a,V.ref b] /\ SqL K H1 a xs /\ SqL K H1 b ys /\ R (ItZ K a b xs ys) H1
theorem xM4 {elts:List Expr}{kk:Nat}{tpos:Pos}{a b:Expr}{ta:TA}{p pos:Pos}(hK:X.K=K)(hg:Gl X "zip")(hm:X.mg "zip" = none)(ha:PA X [a,b] ta)(hs:starEach [a,b] X.env=(false,eval a X.env)::starEach [b] X.env:=by rfl)(hs2:starEach [b] X.env=[(false,eval b X.env)]:=by rfl):PI X (.Tuple elts kk tpos) (.Call (.Name "zip" p) [a,b] [] pos) (iZip K ta):=by
 subst hK;intro pins s σ H R I h;refine Call_ (η I hg hm xE3 (PyProof.Rows.callWith_type1 (thn (ha pos pins s σ H _ I h) fun us s1 ⟨vs,H1,I1,r1,q1⟩=>?_) hs (by rw[hs2];rfl)));obtain⟨b1,b2,xs,ys,rfl,hq1,hq2,q⟩:=q1;obtain⟨u,u',rfl,ru,ru'⟩:=xE9 r1;cases ru;cases ru';obtain⟨its1,rv1,p1,hz1⟩:=I1.list hq1;obtain⟨its2,rv2,p2,hz2⟩:=I1.list hq2;refine call_zip_2 p1.isList p2.isList fun h' jz jt jo j1 j2 hsz kp=>wpAny_pyIter_zip jz ?_;refine⟨s1.heap.objs.size+4,[s1.heap.objs.size+4,s1.heap.objs.size+2,s1.heap.objs.size+3,s1.heap.objs.size,s1.heap.objs.size+1],_,_,H1,rfl,I1.kept (t':=s1.toks) kp,yW6 b1 b2 s1.heap.objs.size xs ys,⟨jz,jt,⟨_,_,jo⟩,j1,j2⟩,fun c hc=>?_,q⟩;simp only[Ē,Ŗ,or_false]at hc;rcases hc with rfl | rfl | rfl | rfl | rfl<;>exact I1.fpOk (by lia) (I1.hok.fresh (by lia))
end
theorem zV8 (a b:Int):Builtin.Range.rangeSize a b (-1)=(((a - b).toNat:Nat):Int):=by
 unfold Builtin.Range.rangeSize;rw[if_neg (by decide)];have e:(-(-1):Int)=1:=by decide
 rw[e,Int.ediv_one]
 split<;>lia
theorem yJ6 {a b:Int}(ha:-(2^60)<=a)(ha':a<2^60)(hb:-(2^60)<=b)(hb':b<2^60):Builtin.Range.small a b (-1)=true:=by
 have hs:=zV8 a b;unfold Builtin.Range.small;simp only[Builtin.Range.rangeFitsLong,Ń,Bool.or_eq_true,decide_eq_true_eq,beq_iff_eq,if_neg (show ¬(-1:Int) > 0 by decide)];lia
section
variable {X:Cx}
noncomputable def xU1 (ta:TA):TI:=fun σ H R=>ta σ H fun vs H1=>∃i j:Int,vs=[.int i,.int j,.int (-1)] /\ (-(2^60)<=i /\ i<2^60 /\ -(2^60)<=j /\ j<2^60) /\ R (ItrS i (-1) (i - j).toNat) H1
theorem yQ1 {tg a b c:Expr}{ta:TA}{p pos:Pos}(hg:Gl X "range")(hm:X.mg "range" = none)(ha:PA X [a,b,c] ta)(hs:starEach [a,b,c] X.env=[(false,eval a X.env),(false,eval b X.env),(false,eval c X.env)]:=by rfl)
  (hs2:starEach [b,c] X.env=[(false,eval b X.env),(false,eval c X.env)]:=by rfl):PI X tg (.Call (.Name "range" p) [a,b,c] [] pos) (xU1 ta):=by
 intro pins s σ H R I h;refine Call_ (η I hg hm boot_range (PyProof.Rows.callWith_type1 (thn (ha pos pins s σ H _ I h) fun us s1 ⟨vs,H1,I1,r1,q1⟩=>?_) (by rw[hs,hs2]) (by rw[hs2];rfl)));obtain⟨lo,hi,e,⟨q1,q2,q3,q4⟩,q⟩:=q1;subst e;cases r1 with
 | cons r rr =>
  cases rr with
  | cons r' rr =>
   cases rr with
   | cons r'' rr =>
    cases rr;obtain⟨t,rfl⟩:=r;obtain⟨t',rfl⟩:=r';obtain⟨t'',rfl⟩:=r'';refine call_range_3 (by decide) ?_ (.inl (PyProof.noPylong_small (by decide)));refine wpAny_pyIter_range (IsRange.new ..) (yJ6 q1 q2 q3 q4) ?_;have I2:Inv X pins σ H1 { s1 with heap:=s1.heap.push { cls:=.type "range",data:=.fields #[.int lo t,.int hi t',.int (-1) t''] },toks:=s1.toks }:=I1.kept fun b o e=>ć _ e;refine⟨(s1.heap.push { cls:=.type "range",data:=.fields #[.int lo t,.int hi t',.int (-1) t''] }).objs.size,[(s1.heap.push { cls:=.type "range",data:=.fields #[.int lo t,.int hi t',.int (-1) t''] }).objs.size],_,_,H1,rfl,
     I2.kept (t':=s1.toks) fun b o e=>ć _ e,yA2 _ lo (-1) (lo - hi).toNat,?_,fun b hb=>?_,q⟩
    ·have e1:lo+((0:Nat):Int)*(-1)=lo:=by simp
     have e2:(((lo - hi).toNat:Nat):Int) - ((0:Nat):Int)=Builtin.Range.rangeSize lo hi (-1):=by rw[zV8];simp
     show IsRangeIter _ _ (lo+((0:Nat):Int)*(-1)) ((((lo - hi).toNat:Nat):Int) - ((0:Nat):Int)) (-1);rw[e1,e2];exact ē _ rfl
    ·have e:b=(s1.heap.push { cls:=.type "range",data:=.fields #[.int lo t,.int hi t',.int (-1) t''] }).objs.size:=by simpa using hb
     subst e;exact I2.fpOk (ą _) (I2.hok.fresh (ą _))
end
noncomputable def EqW (prog:Program)(w:World)(A:Around)(s:Shared)(v y:Value):Prop:=∀(E:Value->Shared->Prop) (Q:Bool->Shared->Prop),Q true s->wpAny (model prog w) A (eqBool v y) Q E s
section
variable {prog:Program}{w:World}{A:Around}{E:Value->Shared->Prop}{s:Shared}
theorem EqW.of {v y:Value}(h:SeqAt.EqAt A s v y true):EqW prog w A s v y:=fun E Q q=>h prog w E Q q
theorem EqW.refs {a b:Addr}(h:∀(E:Value->Shared->Prop) (Q:Value->Shared->Prop),Q (.bool true) s->wpAny (model prog w) A (richCompare .Eq (.ref a) (.ref b)) Q E s):EqW prog w A s (.ref a) (.ref b):=by
 intro E Q q
 by_cases e:a=b
 ·subst e;exact SeqAt.EqAt.same _ prog w E Q q
 ·unfold eqBool;refine wpAny_holding (wpAny_ite_split (fun z=>absurd (by have:=eq_of_beq z;injection this) e) fun _=>?_);exact wpAny_bind (h E _ (wpAny_truthy_bool q))
variable {Kt:Type}[DecidableEq Kt]{knd:KeyKind prog w Kt}
theorem xM9 {nm:String}{a b:Addr}{ka kb:List (Kt×Value)}{Q:Bool->Shared->Prop}(ha:(a==sysModules)=false)(hb:(b==sysModules)=false)
  (da:s.heap.DictOf knd a ka)(db:s.heap.DictOf knd b kb)(hl:ka.length=kb.length)(hit:∀(i:Nat) (k:Kt) (v:Value),ka[i]?=some (k,v)->∃y,valueAt kb k=some y /\ EqW prog w A s v y)(q:Q true s) :
  wpAny (model prog w) A (Builtin.Dict.samePairs nm a b) Q E s:=by
 obtain⟨oa,ea,na,g1,_,d1,k1,p1,_⟩:=da;obtain⟨ob,eb,nb,g2,_,d2,k2,p2,_⟩:=db;have la:ka.length=ea.size:=by rw[<- p1.length];exact Array.length_toList
 have lb:kb.length=eb.size:=by rw[<- p2.length];exact Array.length_toList
 have sz:ea.size=eb.size:=by lia
 unfold Builtin.Dict.samePairs Builtin.Dict.showsAll;rw[if_neg (show ¬(a==sysModules)=true by rw[ha];exact Ę),if_neg (show ¬(b==sysModules)=true by rw[hb];exact Ę)];refine wpAny_bind (wpAny_pure (wpAny_bind (wpAny_pure (wpAny_bind (wpAny_dictEntries g1 d1 ?_)))));dsimp only;refine wpAny_bind (wpAny_dictEntries g2 d2 ?_);rw[if_neg (by rw[sz];simp)];refine wpAny_bind (wpAny_dictEpoch g1 d1 (wpAny_bind ?_));rw[Std.Legacy.Range.forIn_eq_forIn_range'];simp only[Std.Legacy.Range.size,Nat.sub_zero,Nat.add_sub_cancel,Nat.div_one];refine wpAny_forIn_list _ (fun rest r s'=>s'=s /\ r=(none,()) /\ ∃i,rest=List.range' i (ea.size - i) /\ i<=ea.size) _ ?_ ?_ _ _ ⟨rfl,rfl,0,by simp,Ħ _⟩
 ·rintro x rest r s' ⟨rfl,rfl,i,er,hi⟩;have lt:i<ea.size:=by
   rcases Nat.lt_or_ge i ea.size with z | z
   ·exact z
   ·rw[Nat.sub_eq_zero_of_le z]at er;simp at er
  have e0:ea.size - i=(ea.size - (i+1))+1:=by lia
  rw[e0,List.range'_succ]at er;obtain⟨rfl,er⟩:=List.cons.inj er;have lt2:x<ka.length:=by lia
  obtain⟨k,v,ekv⟩:∃k v,ka[x]?=some (k,v):=⟨_,_,Ā lt2⟩;obtain⟨y,hy,hw⟩:=hit x k v ekv;obtain⟨ik,iv⟩:=p1.get? (i:=x) (e:=ea[x]) (k:=k) (v:=v) (by rw[Array.getElem?_toList];exact Array.getElem?_eq_getElem lt) ekv;obtain⟨k',ik',hh⟩:=k1 ea[x] (Array.getElem_mem lt);have ek:k'=k:=knd.inj _ _ _ ik' ik;subst ek;refine wpAny_bind (wpAny_dictEntries g1 d1 ?_);rw[Array.getElem?_eq_getElem lt];show wpAny _ _ (holding [ea[x].key,ea[x].val] _ >>= _) _ _ _;rw[hh];refine wpAny_bind (wpAny_holding (wpAny_bind (wpAny_dictFind_of ik g2 d2 k2 ?_)));have fnd:findBy knd.is eb k'=valueAt kb k':=by
   rw[<- p2.find k'];clear lb p2 k2 d2 g2 sz hit hw hy iv ik ik' hh er e0 lt;obtain⟨l⟩:=eb;simp[findBy]
  cases hj:eb.findIdx? fun e=>knd.is k' e.key with
  | none=>rw[findBy_of_findIdx?,hj,hy]at fnd;cases fnd
  | some j =>
   obtain⟨jl,_,_⟩:=Array.findIdx?_eq_some_iff_getElem.mp hj;have ev:eb[j].val=y:=by
    rw[findBy_of_findIdx?,hj,hy]at fnd;simpa[Array.getElem?_eq_getElem jl] using fnd
   refine wpAny_bind (wpAny_dictEntries g2 d2 ?_);rw[Array.getElem?_eq_getElem jl];rw[<- ev,<- iv]at hw;refine wpAny_holding (hw _ _ ?_);show wpAny _ _ (if (!true)=true then _ else _) _ _ _;rw[if_neg (by decide)];refine wpAny_bind (wpAny_dictEpoch g1 d1 ?_);rw[if_neg (by simp)];exact wpAny_pure ⟨rfl,rfl,x+1,er,lt⟩
 ·rintro r s' ⟨rfl,rfl,_⟩;exact wpAny_pure q
theorem xU7 {a b:Addr}{ka kb:List (Kt×Value)}{Q:Value->Shared->Prop}(ha:(a==sysModules)=false)(hb:(b==sysModules)=false)(da:s.heap.DictOf knd a ka)(db:s.heap.DictOf knd b kb)(hu:A.units<cLine)(hl:ka.length=kb.length)
  (hit:∀(i:Nat) (k:Kt) (v:Value),ka[i]?=some (k,v)->∃y,valueAt kb k=some y /\ EqW prog w A.in1 s v y)(q:Q (.bool true) s):wpAny (model prog w) A (richCompare .Eq (.ref a) (.ref b)) Q E s:=by
 refine wpAny_richCompare_same_room (op:=.Eq) da.typeIs db.typeIs PySem.F.slot_dict_eq (wpAny_call_entry PySem.F.slot_dict_eq da.typeIs PySem.F.entry_dict_eq ?_ (PySem.F.args_dict_eq_2 _ _)) hu;show wpAny _ _ (Builtin.Dict.dictSlotArgs "__eq__" ⟨[.ref a,.ref b],[]⟩ >>= _) _ _ s;unfold Builtin.Dict.dictSlotArgs;refine wpAny_bind (wpAny_bind (wpAny_notOrdered_dict da.typeIs ?_));show wpAny _ _ (pure (Value.ref a,Value.ref b)) _ _ s;refine wpAny_pure (wpAny_bind (wpAny_isInstance (T:="dict") db.typeIs PySem.F.sub_dict_dict ?_));simp only[Bool.not_true,Ī,if_false];refine wpAny_bind (wpAny_pure (wpAny_bind (wpAny_pure (wpAny_bind (xM9 ha hb da db hl hit ?_)))));exact wpAny_pure ⟨_,rfl,(by intro z;cases z),q⟩
open SeqAt in
open SeqAt in
end
noncomputable def AlN (K:Ă)(H:Hp):Nat->V->V->Prop
 | 0,x,y=>(∃a,x = .ref a /\ y = .ref a) \/ ∃d,RepD K H d x /\ RepD K H d y /\ d.depth<=40
 | n+1,x,y=>((∃a,x = .ref a /\ y = .ref a) \/ ∃d,RepD K H d x /\ RepD K H d y /\ d.depth<=40) \/ ∃a b ka kb,x = .ref a /\ y = .ref b /\ H a=some (.dK ka) /\ H b=some (.dK kb) /\ ka.length=kb.length /\ ∀kv∈ka,∃w,valV kb kv.1=some w /\ AlN K H n kv.2 w
section
variable {X:Cx}{K:Ă}
theorem eqW0 {pins:List (Addr×Obj)}{σ:St}{H:Hp}{s:Shared}{A:Around}(I:Inv X pins σ H s){x y:V}{v u:Value}(h:(∃a,x = .ref a /\ y = .ref a) \/ ∃d,RepD X.K H d x /\ RepD X.K H d y /\ d.depth<=40)(rx:RelV x v)(ry:RelV y u)(hu:A.units+44<cLine):EqW X.prog X.w A s v u:=by
 rcases h with⟨a,rfl,rfl⟩ | ⟨d,h1,h2,hd⟩
 ·cases rx;cases ry;exact EqW.of (SeqAt.EqAt.same _)
 ·obtain⟨as,r1⟩:=RepD.reads I h1 rx;obtain⟨bs,r2⟩:=RepD.reads I h2 ry;have:=SeqAt.eqAt_reads d d A s v u as bs r1 r2 h1.lay h2.lay (by have:min d.depth d.depth=d.depth:=Nat.min_self _;lia);rw[SeqAt.eqv_refl d h1.lay]at this;exact EqW.of this
theorem eqWn {pins:List (Addr×Obj)}{σ:St}{H:Hp}{s:Shared}(I:Inv X pins σ H s):∀(n:Nat) {A:Around} {x y:V} {v u:Value},AlN X.K H n x y->RelV x v->RelV y u->A.units+n+44<cLine->EqW X.prog X.w A s v u
 | 0,A,x,y,v,u,h,rx,ry,hu=>eqW0 I h rx ry (by lia)
 | n+1,A,x,y,v,u,h,rx,ry,hu=>by
  rcases h with h | ⟨a,b,ka,kb,rfl,rfl,ha,hb,hl,hh⟩
  ·exact eqW0 I h rx ry (by lia)
  ·cases rx;cases ry;obtain⟨z1,y1,va,ra,Da⟩:=ψ I.hok ha;obtain⟨z2,y2,vb,rb,Db⟩:=ψ I.hok hb;have e1:va.length=vb.length:=by rw[<- ra.length,<- rb.length,hl]
   refine EqW.refs fun E Q q=>xU7 y1 y2 Da Db (by lia) e1 (fun i k v' hi=>?_) q;have hil:i<ka.length:=by rw[ra.length];exact(Ą.mp hi).1
   obtain⟨kv',h1,h2⟩:∃q,va[i]?=some q /\ (ka[i].1=q.1 /\ RelV ka[i].2 q.2):=by
    have ra':=ra;unfold KV at ra';exact Ξ ra' (Ā hil)
   rw[hi]at h1;cases h1;obtain⟨w0,e,al⟩:=hh ka[i] (List.getElem_mem hil);have rv:=rb.val k;have ek:ka[i].1=k:=h2.1;rw[ek]at e;rw[e]at rv;cases ey:valueAt vb k with
   | none=>rw[ey]at rv;exact(show False from rv).elim
   | some y =>
    rw[ey]at rv;exact⟨y,rfl,eqWn I n al h2.2 rv (by show A.units+1+n+44<cLine;lia)⟩
theorem xV0 {pins:List (Addr×Obj)}{σ:St}{H:Hp}{s:Shared}{A:Around}(I:Inv X pins σ H s)(hu:A.units+50<cLine){xs ys:List V}{us ws:List Value}(h:Paired (AlN X.K H 3) xs ys)(r:Vals xs us)(r':Vals ys ws) :
  us.toArray.size=ws.toArray.size /\ ∀j (h1:j<us.toArray.size) (h2:j<ws.toArray.size),EqW X.prog X.w A s us.toArray[j] ws.toArray[j]:=by
 have e1:=r.length;have e2:=r'.length;have e3:=h.length;refine⟨by simp;lia,fun j h1 h2=>?_⟩;have j1:j<us.length:=by simpa using h1
 have j2:j<xs.length:=by lia
 obtain⟨u,hu1,ru⟩:=r.get (Ā j2);obtain⟨y,hy,al⟩:=Ξ h (Ā j2);obtain⟨u',hu2,ru'⟩:=r'.get hy;have e4:us.toArray[j]=u:=by
  have:us[j]?=some us[j]:=Ā j1;rw[hu1]at this;simpa using (Option.some.inj this).symm
 have j3:j<ws.length:=by simpa using h2
 have e5:ws.toArray[j]=u':=by
  have:ws[j]?=some ws[j]:=Ā j3;rw[hu2]at this;simpa using (Option.some.inj this).symm
 rw[e4,e5];exact eqWn I 3 al ru ru' (by lia)
end
section
variable {prog:Program}{w:World}{A:Around}{E:Value->Shared->Prop}{s:Shared}{d:Addr}{es:Array DictEntry}{ep:Nat}
theorem yJ1 (hh:A.handled=none)(I d:Addr)(hne:d≠I)(es:Array DictEntry)(ep:Nat):Walks prog w A I [I,d] [I] es.size (fun i v=>∃e,es[i]?=some e /\ v=e.key) (fun i h=>h.IsKeyIter I d i es.size ep /\ RawD h d es ep) where
 sub:=fun b hb=>by simp at hb;simp[hb]
 frame:=fun _ _ _ st k=>⟨let ⟨o,e,r⟩:=st.1;⟨o,k I (by simp) o e,r⟩,st.2.at fun o e=>k d (by simp) o e⟩
 item:=fun i s Q E hi st q=>zW3 st.1 st.2 hi fun h' st' sb=>q _ h' s.toks ⟨es[i],by simp[hi],rfl⟩ ⟨st',st.2.at fun o e=>sb.extBut d o hne e⟩ fun b o hb e=>sb.extBut b o (fun z=>hb (by simp[z])) e
 done:=fun s Q E st q=>yG3 hh st.1 st.2 (ą _) fun h' eb=>q h' s.toks fun b o hb e=>eb b o (fun z=>hb (by simp[z])) e
 self:=fun _ _ _ _ st q=>wpAny_pyIter_keyiter st.1 q
theorem yE8 (hs:(d==sysModules)=false):PySem.W.KdlSrc prog w "dict" d d es.size (fun i v=>∃e,es[i]?=some e /\ v=e.key) (fun h=>RawD h d es ep) where
 type:=fun _ hm=>hm.ty
 there:=fun _ hm=>⟨let ⟨_,ho,_⟩:=hm;ĉ ho,let ⟨_,ho,_⟩:=hm;ĉ ho⟩
 keep:=fun _ _ hm k=>hm.at fun o e=>k d (.inr rfl) o e
 notList:=by decide
 notTuple:=by decide
 hint:=fun _ _ _ _ hm q=>PySem.W.kdl_hint_dict hm.ty q
 iter:=fun _ _ hh hm=>⟨_,_,(fun _ _ q=>zM1 hs hm q),yJ1 hh _ d (Ĥ (let ⟨_,ho,_⟩:=hm;ĉ ho)) es ep,⟨⟨_,ē _ rfl,rfl,rfl⟩,hm.at fun o e=>ć _ e⟩⟩
end
section
variable {X:Cx}{K:Ă}
theorem zO7 (hc:X.calm=true):Φ X (.type "list") (fun xs H Q=>∃d u,xs=[V.ref d] /\ H d=some u /\ isDk u=true /\ ∀ps,Pss H u ps->∀l,H l=none->Q (.ref l) (upd H l (.lst (ps.map (·.1))))):=by
 intro pins s σ H xs us Q I r h;obtain⟨d,u,rfl,hd,hu,q⟩:=h;obtain⟨w0,rfl,rw0⟩:=ι r;cases rw0;obtain⟨o,es,ep,ps,g,ex,dat,hs,hps,rel⟩:=I.raw hd hu;have hl:=xD9 hps hu I hd;have hlen:ps.length=es.size:=by rw[rel.length];simp
 refine PySem.W.kdl_call (yE8 (es:=es) (ep:=ep) hs) (I.ok.hd hc) ⟨o,g,ex,dat⟩ (by lia) fun h' tk acc c kk hD hacc=>?_;have vr:Vals (ps.map (·.1)) acc.toList:=by
  have e1:acc.toList=es.toList.map (·.key):=by
   apply List.ext_getElem?;intro j;rw[Ĉ]
   by_cases hj:j<es.size
   ·have hj2:j<acc.size:=by rw[hacc.1];exact hj
    obtain⟨e,he,hv⟩:=hacc.2 j acc[j] (by simp[hj2]);have e2:es.toList[j]?=some e:=by simpa using he
    rw[e2];simp[hj2,hv]
   ·have hj2:¬j<acc.size:=by rw[hacc.1];exact hj
    rw[ō (by simp;lia),ō (by simp;lia)];rfl
  rw[e1];clear hlen hl hps e1 hacc;generalize es.toList=el at rel
  induction rel with
  | nil=>exact .nil
  | cons h t ih=>exact .cons h.1 ih
 refine⟨.ref _,_,I.laid (a:=s.heap.objs.size) (o:=.lst (ps.map (·.1))) (t':=tk) kk (ą _) ⟨by rw[ā];exact hl,acc.toList,c,vr,by simpa using hD⟩,rfl,q ps hps _ I.fresh⟩
theorem Inv.rawF {pins:List (Addr×Obj)}{σ:St}{H:Hp}{s:Shared}{d:Addr}{ob:Obj}{u:HO}(I:Inv X pins σ H s)(hd:H d=some (.frz ob u))(hu:isDk u=true):∃es ep ps,s.heap.get? d=some ob /\ ob.ExactDict /\ ob.data = .dict es ep /\ (d==sysModules)=false /\ Pss H u ps /\ yE3 ps es.toList:=by
 obtain⟨g,ok⟩:=(show ObjOk X.prog X.w H s.heap d (.frz ob u) from I.hok d _ hd);cases u with
 | dK kvs =>
  obtain⟨_,hs,vs,kv,o,es,ep,g',ex,dat,_,pr,_⟩:=ok;rw[g]at g';cases g';exact⟨es,ep,_,g,ex,dat,hs,rfl,zE8 kv pr⟩
 | dT kvs =>
  obtain⟨_,hs,xs,kt,o,es,ep,g',ex,dat,he,_⟩:=ok;rw[g]at g';cases g';obtain⟨ps,h1,h2⟩:=zI3 (P:=X.prog) (w:=X.w) kt;exact⟨es,ep,ps,g,ex,dat,hs,h1,by rw[he];exact h2⟩
 | _=>cases hu
end
theorem yD9 {d:Addr}{o:Obj}{u:HO}{ps:List (V×V)}{g:TG}{tc:TT}{te:TE}{D:Addr}{Z:Hp->Prop}{σ:St}{H:Hp}(Pv:Nat->St->Hp->Prop)(h0:Pv 0 σ H)(hf:∀i σ H,Pv i σ H->H d=some (.frz o u))
  (hs:∀i k v T σ H,ps[i]?=some (k,v)->Pv i σ H->H T=none->g (.ref T) σ (upd H T (.tup [k,v])) fun σ2 H2=>tc σ2 H2 fun b H3=>if b=true then te σ2 H3 fun y H4=>∃ys,H4 D=some (.lst ys) /\ ys.length<sizeLine /\ Pv (i+1) σ2 (upd H4 D (.lst (ys++[y]))) else Pv (i+1) σ2 H3)
  (hd:∀σ H,Pv ps.length σ H->Z H):zK9 (ItD d o u ps) g tc te D Z σ H:=by
 refine⟨fun i m σ H=>m=ps.length - i /\ i<=ps.length /\ Pv i σ H,⟨ps.length,by simp,Ħ _,h0⟩,?_⟩;rintro i m σ H ⟨rfl,hi,p⟩
 by_cases hlt:i<ps.length
 ·refine .inr ⟨⟨hlt,hf i σ H p⟩,Pv (i+1),fun σ' H' p'=>⟨ps.length - (i+1),by lia,rfl,hlt,p'⟩,fun x H' y=>?_⟩;obtain⟨k,v,T,hk,e1,hT,e2⟩:=y;subst e1 e2;exact hs i k v T σ _ hk p hT
 ·have e:i=ps.length:=by lia
  subst e;exact .inl ⟨⟨rfl,hf _ σ H p⟩,hd σ H p⟩
theorem yV8 {K:Ă}{a b:Addr}{xs ys:List V}{g:TG}{tc:TT}{te:TE}{D:Addr}{Z:Hp->Prop}{σ:St}{H:Hp}(Pv:Nat->St->Hp->Prop)(hlen:xs.length=ys.length)(h0:Pv 0 σ H)(hl:∀i σ H,i<=xs.length->Pv i σ H->SqL K H a xs /\ SqL K H b ys)
  (hs:∀i v u T σ H,xs[i]?=some v->ys[i]?=some u->Pv i σ H->H T=none->g (.ref T) σ (upd H T (.tup [v,u])) fun σ2 H2=>tc σ2 H2 fun b H3=>if b=true then te σ2 H3 fun y H4=>∃ys,H4 D=some (.lst ys) /\ ys.length<sizeLine /\ Pv (i+1) σ2 (upd H4 D (.lst (ys++[y]))) else Pv (i+1) σ2 H3)
  (hd:∀σ H,Pv xs.length σ H->Z H):zK9 (ItZ K a b xs ys) g tc te D Z σ H:=by
 refine⟨fun i m σ H=>m=xs.length - i /\ i<=xs.length /\ Pv i σ H,⟨xs.length,by simp,Ħ _,h0⟩,?_⟩;rintro i m σ H ⟨rfl,hi,p⟩;obtain⟨q1,q2⟩:=hl i σ H hi p
 by_cases hlt:i<xs.length
 ·refine .inr ⟨⟨hlt,by lia,q1,q2⟩,Pv (i+1),fun σ' H' p'=>⟨xs.length - (i+1),by lia,rfl,hlt,p'⟩,fun x H' y=>?_⟩;obtain⟨v,u,T,hv,hu,e1,hT,e2⟩:=y;subst e1 e2;exact hs i v u T σ H hv hu p hT
 ·have e:i=xs.length:=by lia
  subst e;exact .inl ⟨⟨.inl rfl,q1,q2⟩,hd σ H p⟩
section
variable {P:Program}{w:World}{A:Around}{E:Value->Shared->Prop}{s:Shared}
theorem yI7 {a:Addr}{o:Obj}{Q:Option Obj->Shared->Prop}(ho:s.heap.get? a=some o)(q:Q (some o) s):wpAny (model P w) A (loadIfAlive a) Q E s:=by
 rw[<- ho]at q;exact fun _ _ _=>q
theorem yK3 {a:Addr}{x y:Value}{Q:List Value->Shared->Prop}(ha:s.heap.get? a=some { cls:=.type "tuple",data:=.seq #[x,y] })(q:Q [x,y] s):wpAny (model P w) A (Builtin.Dict.pairItems (.ref a)) Q E s:=by
 have ty:s.TypeIs (.ref a) "tuple":=⟨_,ha,rfl⟩;unfold Builtin.Dict.pairItems;refine wpAny_bind (wpAny_typeOf ty ?_);rw[if_pos (by decide)];exact wpAny_bind (wpAny_seqItems ha rfl (wpAny_pure q))
theorem zY3:entryFor table "dict.update.loop" = some Builtin.«dict.update.loop»:=entryFor_of_tree (by kernel_rfl)
theorem zF8:plainId "dict.update.loop" = true:=by decide +kernel
end
open AutoSeq1 (wpAny_loadPart')
section
variable {X:Cx}{K:Ă}
theorem zP9:∀{xs:List V} {us:List Value},Vals xs us->∀u∈us,∃y,y∈xs /\ RelV y u
 | _,_,.nil=>fun u hu=>by cases hu
 | y::xs,u::us,.cons r t=>fun w hw=>by
  rcases Ē.mp hw with rfl | hw
  ·exact⟨y,.head _,r⟩
  ·obtain⟨y',h1,h2⟩:=zP9 t w hw;exact⟨y',.tail _ h1,h2⟩
end
end L2
namespace Tc
noncomputable def sN (n:Nat)(f:Nat->Rat):Rat:=sumL (ę n) f
theorem yB0 (f:Nat->Rat):sN 0 f=0:=rfl
theorem Ε (n:Nat)(f:Nat->Rat):sN (n+1) f=sN n f+f n:=by
 unfold sN;rw[ũ,zB7]
theorem zF6 {n:Nat}{f g:Nat->Rat}(h:∀i,i<n->f i=g i):sN n f=sN n g:=by
 induction n with
 | zero=>rfl
 | succ n ih=>rw[Ε,Ε,ih fun i hi=>h i (by lia),h n (by lia)]
theorem yO7 (n:Nat)(f g:Nat->Rat)(a b:Rat):sN n (fun i=>f i*a+g i*b)=sN n f*a+sN n g*b:=by
 induction n with
 | zero=>rw[yB0,yB0,yB0];grind
 | succ n ih=>rw[Ε,Ε,Ε,ih];grind
theorem yO6 {n:Nat}{f:Nat->Rat}(h:∀i,i<n->f i=0):sN n f=0:=by
 induction n with
 | zero=>rfl
 | succ n ih=>rw[Ε,ih fun i hi=>h i (by lia),h n (by lia)];grind
theorem yO5 {n k:Nat}{f:Nat->Rat}(hk:k<n)(h:∀i,i<n->i≠k->f i=0):sN n f=f k:=by
 induction n with
 | zero=>lia
 | succ n ih =>
  rw[Ε]
  by_cases e:k=n
  ·subst e;rw[yO6 fun i hi=>h i (by lia) (by lia)];grind
  ·rw[ih (by lia) fun i hi=>h i (by lia),h n (by lia) (fun q=>e q.symm)];grind
noncomputable def dotR (n:Nat)(r y:Nat->Rat):Rat:=sN (n+1) fun j=>r j*y j
noncomputable def KerM (n:Nat)(M:Nat->Nat->Rat)(y:Nat->Rat):Prop:=∀i,i<n->dotR n (M i) y=0
noncomputable def δ (M:Nat->Nat->Rat)(a b:Nat):Nat->Nat->Rat:=fun i=>if i=b then M a else if i=a then M b else M i
noncomputable def pivM (M:Nat->Nat->Rat)(c k:Nat):Nat->Nat->Rat:=fun i j=>if i=c then M c j / M c k else M i j - M c j / M c k*M i k
theorem KerM.unpiv {n:Nat}{M:Nat->Nat->Rat}{c k:Nat}{y:Nat->Rat}(hc:c<n)(hp:M c k≠0)(h:KerM n (pivM M c k) y):KerM n M y:=by
 have h0:dotR n (M c) y=0:=by
  have:=h c hc;unfold dotR pivM at this;rw[zF6 (g:=fun j=>(M c j*y j)*(1 / M c k)+(0:Rat)*0)]at this
  ·rw[yO7 (g:=fun _=>0)]at this;unfold dotR
   grind
  ·intro i hi;simp only[if_true]
   grind
 intro i hi
 by_cases e:i=c
 ·rw[e];exact h0
 ·have:=h i hi;unfold dotR pivM at this;rw[zF6 (g:=fun j=>(M i j*y j)*1+(M c j*y j)*(-(M i k / M c k)))]at this
  ·rw[yO7]at this;have h0':sN (n+1) (fun j=>M c j*y j)=0:=h0;unfold dotR;rw[h0']at this
   grind
  ·intro j hj;rw[if_neg e]
   grind
theorem KerM.unswap {n:Nat}{M:Nat->Nat->Rat}{a b:Nat}{y:Nat->Rat}(ha:a<n)(hb:b<n)(h:KerM n (δ M a b) y):KerM n M y:=by
 intro i hi
 by_cases e:i=a
 ·have:=h b hb;unfold δ at this;rw[if_pos rfl]at this;rw[e];exact this
 ·by_cases e2:i=b
  ·have:=h a ha;unfold δ at this;rw[if_pos rfl]at this
   by_cases e3:a=b
   ·exact absurd (e2.trans e3.symm) e
   ·rw[if_neg e3]at this;rw[e2];exact this
  ·have:=h i hi;unfold δ at this;rw[if_neg e2,if_neg e]at this;exact this
noncomputable def ClrM (n:Nat)(M:Nat->Nat->Rat)(c:Nat):Prop:=∀i,i<n->∀j,j<c->M i j=if i=j then 1 else 0
theorem ClrM.swap {n:Nat}{M:Nat->Nat->Rat}{c a:Nat}(h:ClrM n M c)(hc:c<n)(ha:c<=a)(han:a<n):ClrM n (δ M a c) c:=by
 intro i hi j hj;unfold δ
 by_cases e:i=c
 ·rw[if_pos e,h a han j hj,if_neg (by lia),if_neg (by lia)]
 ·rw[if_neg e]
  by_cases e2:i=a
  ·rw[if_pos e2,h c hc j hj,if_neg (by lia),if_neg (by lia)]
  ·rw[if_neg e2];exact h i hi j hj
theorem ClrM.piv {n:Nat}{M:Nat->Nat->Rat}{c:Nat}(h:ClrM n M c)(hc:c<n)(hp:M c c≠0):ClrM n (pivM M c c) (c+1):=by
 intro i hi j hj;unfold pivM
 by_cases ej:j=c
 ·subst ej
  by_cases e:i=j
  ·rw[if_pos e,if_pos e];grind
  ·rw[if_neg e,if_neg e];grind
 ·have hj':j<c:=by lia
  have z:M c j=0:=by rw[h c hc j hj',if_neg (by lia)]
  by_cases e:i=c
  ·rw[if_pos e,z,if_neg (by lia)];grind
  ·rw[if_neg e,z,h i hi j hj'];grind
theorem yQ0 {n:Nat}{A M:Nat->Nat->Rat}{c:Nat}(hc:c<n)(h:ClrM n M c)(hk:∀y,KerM n M y->KerM n A y)(hA:∀y,y n=0->KerM n A y->∀j,j<n->y j=0):∃a,c<=a /\ a<n /\ M a c≠0:=by
 by_cases q:∃a,c<=a /\ a<n /\ M a c≠0
 ·exact q
 ·exfalso
  have q:∀a,c<=a->a<n->M a c=0:=fun a h1 h2=>by
   by_cases e:M a c=0
   ·exact e
   ·exact absurd ⟨a,h1,h2,e⟩ q
  let y:Nat->Rat:=fun j=>if j<c then -M j c else if j=c then 1 else 0;have ky:KerM n M y:=by
   intro i hi;unfold dotR;have e:∀m,c<m->m<=n+1->sN m (fun j=>M i j*y j)=(if i<c then -M i c else 0)+M i c:=by
    intro m
    induction m with
    | zero=>intro z;lia
    | succ m ih =>
     intro h1 h2;rw[Ε]
     by_cases e:m=c
     ·subst e;have e1:y m=1:=by simp[y]
      rw[e1];have e2:sN m (fun j=>M i j*y j)=if i<m then -M i m else 0:=by
       by_cases e3:i<m
       ·rw[if_pos e3,yO5 e3]
        ·rw[h i hi i e3,if_pos rfl];simp[y,e3]
         try grind
        ·intro j hj hne;rw[h i hi j hj,if_neg (by lia)];grind
       ·rw[if_neg e3];refine yO6 fun j hj=>?_;rw[h i hi j hj,if_neg (by lia)];grind
      rw[e2];grind
     ·rw[ih (by lia) (by lia)];have e1:y m=0:=by
       simp only[y];rw[if_neg (by lia),if_neg e]
      rw[e1];grind
   rw[e (n+1) (by lia) (ą _)]
   by_cases e3:i<c
   ·rw[if_pos e3];grind
   ·rw[if_neg e3,q i (by lia) hi];grind
  have e0:=hA y (by simp only[y];rw[if_neg (by lia),if_neg (by lia)]) (hk y ky) c hc;simp[y]at e0
theorem yN8 {n:Nat}{A M:Nat->Nat->Rat}(h:ClrM n M n)(hk:∀y,KerM n M y->KerM n A y):∀i,i<n->sN n (fun j=>A i j*M j n)=A i n:=by
 let y:Nat->Rat:=fun j=>if j<n then M j n else -1;have ky:KerM n M y:=by
  intro i hi;unfold dotR;rw[Ε,yO5 hi]
  ·rw[h i hi i hi,if_pos rfl];simp only[y];rw[if_pos hi,if_neg (by lia)];grind
  ·intro j hj hne;rw[h i hi j hj,if_neg (by lia)];grind
 intro i hi;have:=hk y ky i hi;unfold dotR at this;rw[Ε]at this;have e:sN n (fun j=>A i j*y j)=sN n (fun j=>A i j*M j n):=zF6 fun j hj=>by
  simp only[y];rw[if_pos hj]
 rw[e]at this;simp only[y]at this;rw[if_neg (by lia)]at this
 grind
noncomputable def Cd (D N:Nat)(r:Rat):Prop:=∃m:Int,r*(D:Rat)=(m:Rat) /\ m.natAbs<=N
theorem Cd.mono {D N N':Nat}{r:Rat}(h:Cd D N r)(hn:N<=N'):Cd D N' r:=let ⟨m,e,l⟩:=h;⟨m,e,Č l hn⟩
theorem Cd.mul {D N E W:Nat}{r q:Rat}(h:Cd D N r)(g:Cd E W q):Cd (D*E) (N*W) (r*q):=by
 obtain⟨m,e,l⟩:=h;obtain⟨k,f,u⟩:=g;refine⟨m*k,?_,by rw[ł];exact Ġ l u⟩;rw[Ģ,Ľ,<- e,<- f];grind
theorem Cd.add {D N W:Nat}{r q:Rat}(h:Cd D N r)(g:Cd D W q):Cd D (N+W) (r+q):=by
 obtain⟨m,e,l⟩:=h;obtain⟨k,f,u⟩:=g;refine⟨m+k,?_,by lia⟩;rw[Rat.intCast_add,<- e,<- f];grind
theorem Cd.neg {D N:Nat}{r:Rat}(h:Cd D N r):Cd D N (-r):=by
 obtain⟨m,e,l⟩:=h;refine⟨-m,?_,by lia⟩;rw[Rat.intCast_neg,<- e];grind
theorem Cd.sub {D N W:Nat}{r q:Rat}(h:Cd D N r)(g:Cd D W q):Cd D (N+W) (r - q):=by
 have:=h.add g.neg;rw[<- Rat.sub_eq_add_neg]at this;exact this
theorem Cd.zero (D N:Nat):Cd D N 0:=⟨0,by rw[ň];rfl,Ħ _⟩
theorem Cd.one (D:Nat):Cd D D 1:=⟨D,by rw[Rat.one_mul];rfl,by simp⟩
theorem Cd.up {D N:Nat}{r:Rat}(h:Cd D N r)(d:Nat):Cd (D*d) (N*d) r:=by
 have:=h.mul (Cd.one d);rw[Rat.mul_one]at this;exact this
theorem Cd.of {D k:Nat}{r:Rat}(h:IsM D k r):Cd D (k*D) r:=by
 obtain⟨_,m,l,e⟩:=h;exact⟨m,by rw[e];rfl,by simpa using l⟩
structure BdM (n:Nat)(M:Nat->Nat->Rat)(D N E W:Nat):Prop where
 d0:0<D
 dn:D<=N
 e0:0<E
 ew:E<=W
 co:∀i,i<n->∀j,j<n->Cd D N (M i j)
 la:∀i,i<n->Cd E W (M i n)
theorem xT9 {m:Int}{x:Rat}{D:Nat}(e:x*(D:Rat)=(m:Rat))(hx:x≠0)(hD:0<D):m≠0:=by
 intro z;subst z;have:=ς hD;have e:x*(D:Rat)=0:=e;rcases Š.mp e with q | q
 ·exact hx q
 ·exact this q
theorem xB8 (m:Int):∃s:Int,(s=1 \/ s = -1) /\ (m.natAbs:Int)=m*s:=by
 by_cases h:0<=m
 ·exact⟨1,.inl rfl,by lia⟩
 ·exact⟨-1,.inr rfl,by lia⟩
theorem yA0 (m:Int):∃s:Int,s.natAbs=1 /\ ((m.natAbs:Nat):Rat)=(m:Rat)*(s:Rat):=by
 obtain⟨s,h,e⟩:=xB8 m;have e2:((m.natAbs:Nat):Rat)=(((m.natAbs:Nat):Int):Rat):=rfl;refine⟨s,by rcases h with rfl | rfl<;>rfl,by rw[e2,e,Ľ]⟩
theorem Cd.lead {D N E W:Nat}{b x:Rat}{m:Int}(hb:Cd E W b)(e:x*(D:Rat)=(m:Rat))(hx:x≠0)(hD:0<D)(hN:D<=N):Cd (E*m.natAbs) (W*N) (b / x):=by
 obtain⟨k,f,u⟩:=hb;obtain⟨s,hs,e2⟩:=yA0 m;refine⟨k*D*s,?_,?_⟩
 ·rw[Ģ,Ľ,Ľ,e2,<- e,<- f];have:((D:Int):Rat)=(D:Rat):=rfl;rw[this]
  grind
 ·rw[ł,ł,hs,Nat.mul_one];exact Ġ u (by simpa using hN)
theorem Cd.took {D N E W:Nat}{b x c:Rat}{m:Int}(hb:Cd E W b)(hc:Cd D N c)(e:x*(D:Rat)=(m:Rat))(hx:x≠0)(hD:0<D):Cd (E*m.natAbs) (W*N) (b / x*c):=by
 obtain⟨k,f,u⟩:=hb;obtain⟨l,g,v⟩:=hc;obtain⟨s,hs,e2⟩:=yA0 m;refine⟨k*l*s,?_,?_⟩
 ·rw[Ģ,Ľ,Ľ,e2,<- e,<- f,<- g];have:=ς hD
  grind
 ·rw[ł,ł,hs,Nat.mul_one];exact Ġ u v
theorem Cd.stay {D N E W:Nat}{b x:Rat}{m:Int}(hb:Cd E W b)(hx:Cd D N x)(e:x*(D:Rat)=(m:Rat))(hD:0<D):Cd (E*m.natAbs) (W*N) b:=by
 have hm:m.natAbs<=N:=by
  obtain⟨k,f,u⟩:=hx;have:(k:Rat)=(m:Rat):=f.symm.trans e;have:k=m:=by exact_mod_cast this
  rw[<- this];exact u
 exact(hb.up m.natAbs).mono (Ġ (ą _) hm)
theorem BdM.swap {n a b D N E W:Nat}{M:Nat->Nat->Rat}(h:BdM n M D N E W)(ha:a<n)(hb:b<n):BdM n (δ M a b) D N E W:=by
 refine⟨h.d0,h.dn,h.e0,h.ew,fun i hi j hj=>?_,fun i hi=>?_⟩
 ·unfold δ;split
  ·exact h.co a ha j hj
  ·split
   ·exact h.co b hb j hj
   ·exact h.co i hi j hj
 ·unfold δ;split
  ·exact h.la a ha
  ·split
   ·exact h.la b hb
   ·exact h.la i hi
theorem BdM.piv {n c k D N E W:Nat}{M:Nat->Nat->Rat}(h:BdM n M D N E W)(hc:c<n)(hk:k<n)(hp:M c k≠0) :
  ∃D' E',BdM n (pivM M c k) D' (2*(N*N)) E' (2*(W*N)) /\ (∀i,i<n->∀j,j<n->Cd D' (2*(N*N)) (M c j / M c k*M i k)) /\ ∀i,i<n->Cd E' (2*(W*N)) (M c n / M c k*M i k):=by
 obtain⟨m,e,l⟩:=h.co c hc k hk;have hm:0<m.natAbs:=by have:=xT9 e hp h.d0;lia
 have hN:0<N:=č h.d0 h.dn;have l2:∀{X:Nat},X<=2*X:=fun {X}=>by lia
 refine⟨D*m.natAbs,E*m.natAbs,⟨Ņ h.d0 hm,Č (Ġ h.dn l) l2,Ņ h.e0 hm,Č (Ġ h.ew l) l2,fun i hi j hj=>?_,fun i hi=>?_⟩,fun i hi j hj=>?_,fun i hi=>?_⟩
 ·unfold pivM;split
  ·exact((h.co c hc j hj).lead e hp h.d0 h.dn).mono l2
  ·have:=((h.co i hi j hj).stay (h.co c hc k hk) e h.d0).sub ((h.co c hc j hj).took (h.co i hi k hk) e hp h.d0);exact this.mono (by lia)
 ·unfold pivM;split
  ·exact((h.la c hc).lead e hp h.d0 h.dn).mono l2
  ·have:=((h.la i hi).stay (h.co c hc k hk) e h.d0).sub ((h.la c hc).took (h.co i hi k hk) e hp h.d0);exact this.mono (by lia)
 ·exact((h.co c hc j hj).took (h.co i hi k hk) e hp h.d0).mono l2
 ·exact((h.la c hc).took (h.co i hi k hk) e hp h.d0).mono l2
noncomputable def BdB (n:Nat)(M:Nat->Nat->Rat)(a b:Nat):Prop:=∃D E,BdM n M D (2^a) E (2^b)
theorem BdB.piv {n c k a b:Nat}{M:Nat->Nat->Rat}(h:BdB n M a b)(hc:c<n)(hk:k<n)(hp:M c k≠0):BdB n (pivM M c k) (2*a+1) (a+b+1):=by
 obtain⟨D,E,h⟩:=h;obtain⟨D',E',h1,_⟩:=h.piv hc hk hp;refine⟨D',E',?_⟩;have e1:2*(2^a*2^a)=2^(2*a+1):=by rw[<- ī,Ŏ,<- ģ];congr 1;lia
 have e2:2*(2^b*2^a)=2^(a+b+1):=by rw[<- ī,Ŏ,<- ģ];congr 1;lia
 rw[<- e1,<- e2];exact h1
section
variable {α:Type}[DecidableEq α]
theorem zL0 {L:List α}{f g:α->Rat}(h:∀z∈L,f z<=g z):sumL L f<=sumL L g:=by
 induction L with
 | nil=>exact ŋ
 | cons z L ih =>
  rw[Ê,Ê];have h1:=h z Ć;have h2:=ih fun y hy=>h y (ă _ hy)
  grind
theorem Χ {L:List α}{f:α->Rat}(h:∀z∈L,0<=f z):0<=sumL L f:=by
 have:=zL0 (L:=L) (f:=fun _=>0) (g:=f) h;rw[ý L _ fun _ _=>rfl]at this;exact this
theorem Û {L:List α}{f g:α->Rat}(h:∀z∈L,f z=g z):sumL L f=sumL L g:=by
 induction L with
 | nil=>rfl
 | cons z L ih=>rw[Ê,Ê,h z Ć,ih fun y hy=>h y (ă _ hy)]
theorem zC7 {L:List α}{f:α->Rat}(h:∀z∈L,0<=f z)(h0:sumL L f=0):∀z∈L,f z=0:=by
 induction L with
 | nil=>intro z hz;cases hz
 | cons y L ih =>
  rw[Ê]at h0;have h1:=h y Ć;have h2:=Χ (L:=L) (f:=f) fun z hz=>h z (ă _ hz);intro z hz;rcases Ē.mp hz with e | e
  ·subst e;grind
  ·exact ih (fun z hz=>h z (ă _ hz)) (by grind) z e
theorem yX3 (L:List α)(f g:α->Rat):sumL L (fun z=>f z+g z)=sumL L f+sumL L g:=by
 induction L with
 | nil=>simp only[ü];grind
 | cons z L ih=>rw[Ê,Ê,Ê,ih];grind
theorem Β (L:List α)(f g:α->Rat):sumL L (fun z=>f z - g z)=sumL L f - sumL L g:=by
 induction L with
 | nil=>simp only[ü];grind
 | cons z L ih=>rw[Ê,Ê,Ê,ih];grind
theorem zB1 (L:List α)(f:α->Rat)(c:Rat):sumL L (fun z=>c*f z)=c*sumL L f:=by
 induction L with
 | nil=>simp only[ü];grind
 | cons z L ih=>rw[Ê,Ê,ih];grind
theorem zU7 (L M:List α)(f:α->α->Rat):sumL L (fun i=>sumL M fun j=>f i j)=sumL M fun j=>sumL L fun i=>f i j:=by
 induction L with
 | nil =>
  rw[ü];exact(ý M _ fun _ _=>rfl).symm
 | cons z L ih =>
  rw[Ê,ih,<- yX3];refine Û fun j _=>?_;rw[Ê]
noncomputable def absR (x:Rat):Rat:=if 0<=x then x else -x
theorem zT9 (x:Rat):0<=absR x:=by unfold absR;split<;>grind
theorem zO2 {x:Rat}(h:absR x=0):x=0:=by unfold absR at h;split at h<;>grind
theorem xB9 (x y:Rat):absR (x+y)<=absR x+absR y:=by unfold absR;split<;>split<;>split<;>grind
theorem yI9 {x y:Rat}(hy:0<=y):absR (x*y)=absR x*y:=by
 unfold absR
 by_cases h:0<=x
 ·rw[if_pos h,if_pos (ġ h hy)]
 ·rw[if_neg h]
  by_cases e:y=0
  ·subst e;simp[ś]
  ·have:0<(-x)*y:=Rat.mul_pos (by grind) (zP1 hy e);rw[if_neg (by grind)];grind
theorem yI8 (L:List α)(f:α->Rat):absR (sumL L f)<=sumL L fun z=>absR (f z):=by
 induction L with
 | nil=>rw[ü,ü];decide
 | cons z L ih =>
  rw[Ê,Ê];have:=xB9 (f z) (sumL L f)
  grind
structure SubC (C:List α)(P:α->α->Rat):Prop where
 nn:∀x∈C,∀y,0<=P x y
 le:∀x∈C,sumL C (P x)<=1
inductive Leak (C:List α)(P:α->α->Rat):α->Prop where
 | now {x:α} (hx:x∈C) (h:sumL C (P x)≠1):Leak C P x
 | via {x y:α} (hx:x∈C) (hy:y∈C) (h:P x y≠0) (l:Leak C P y):Leak C P x
theorem Leak.mem {C:List α}{P:α->α->Rat}{x:α}(h:Leak C P x):x∈C:=by cases h<;>assumption
theorem zX8 {C:List α}{P:α->α->Rat}(S:SubC C P){v:α->Rat}(h:∀j∈C,v j=sumL C fun i=>v i*P i j){x:α}(l:Leak C P x):v x=0:=by
 have h1:∀j∈C,0<=(sumL C fun i=>absR (v i)*P i j) - absR (v j):=fun j hj=>by
  have a:=yI8 C fun i=>v i*P i j;rw[<- h j hj,Û (g:=fun i=>absR (v i)*P i j) fun i hi=>yI9 (S.nn i hi j)]at a
  grind
 have h2:∀i∈C,0<=absR (v i) - absR (v i)*sumL C (P i):=fun i hi=>by
  have a:=S.le i hi;have b:=ġ (zT9 (v i)) (show 0<=1 - sumL C (P i) by grind)
  grind
 have e1:=Β C (fun j=>sumL C fun i=>absR (v i)*P i j) fun j=>absR (v j);have e2:=Β C (fun i=>absR (v i)) fun i=>absR (v i)*sumL C (P i);have e3:(sumL C fun i=>absR (v i)*sumL C (P i))=sumL C fun j=>sumL C fun i=>absR (v i)*P i j:=by
  rw[<- zU7];exact Û fun i _=>(zB1 C (P i) (absR (v i))).symm
 have n1:=Χ h1;have n2:=Χ h2;have z1:(sumL C fun j=>(sumL C fun i=>absR (v i)*P i j) - absR (v j))=0:=by grind
 have z2:(sumL C fun i=>absR (v i) - absR (v i)*sumL C (P i))=0:=by grind
 have f1:=zC7 h1 z1;have f2:=zC7 h2 z2
 induction l with
 | now hx hn =>
  rename_i x;have a:=f2 x hx;apply zO2;have b:absR (v x)*(1 - sumL C (P x))=0:=by grind
  rcases Š.mp b with q | q
  ·exact q
  ·exact absurd (by grind) hn
 | via hx hy hp _ ih =>
  rename_i x y _;have a:=f1 y hy;rw[ih]at a;have e0:absR (0:Rat)=0:=by decide
  have a:(sumL C fun i=>absR (v i)*P i y)=0:=by grind
  have b:=zC7 (fun i hi=>ġ (zT9 (v i)) (S.nn i hi y)) a x hx;apply zO2;rcases Š.mp b with q | q
  ·exact q
  ·exact absurd q hp
noncomputable def stay (C:List α)(P:α->α->Rat):Nat->α->Rat
 | 0=>fun _=>1
 | k+1=>fun x=>sumL C fun y=>P x y*stay C P k y
theorem yA3 {C:List α}{P:α->α->Rat}(S:SubC C P):∀k,∀x∈C,0<=stay C P k x
 | 0,_,_=>by show (0:Rat)<=1;decide
 | k+1,x,hx=>Χ fun y hy=>ġ (S.nn x hx y) (yA3 S k y hy)
theorem zE3 {C:List α}{P:α->α->Rat}(S:SubC C P):∀k,∀x∈C,stay C P k x<=1
 | 0,_,_=>ŋ
 | k+1,x,hx=>by
  have a:=zL0 (L:=C) (f:=fun y=>P x y*stay C P k y) (g:=P x) fun y hy=>by
   have:=ġ (S.nn x hx y) (show 0<=1 - stay C P k y by have:=zE3 S k y hy;grind)
   grind
  exact Rat.le_trans a (S.le x hx)
theorem zU9 {C:List α}{P:α->α->Rat}(S:SubC C P):∀k,∀x∈C,stay C P (k+1) x<=stay C P k x
 | 0,x,hx=>zE3 S 1 x hx
 | k+1,x,hx=>zL0 fun y hy=>by
  have:=ġ (S.nn x hx y) (show 0<=stay C P k y - stay C P (k+1) y by have:=zU9 S k y hy;grind)
  grind
noncomputable def hold (C:List α)(P:α->α->Rat)(k:Nat):List α:=C.filter fun x=>decide (stay C P k x=1)
theorem yE7 {C:List α}{P:α->α->Rat}(S:SubC C P){k:Nat}{x:α}(hx:x∈C)(h:stay C P (k+1) x=1):sumL C (P x)=1 /\ ∀y∈C,P x y≠0->stay C P k y=1:=by
 have n:∀y∈C,0<=P x y - P x y*stay C P k y:=fun y hy=>by
  have:=ġ (S.nn x hx y) (show 0<=1 - stay C P k y by have:=zE3 S k y hy;grind)
  grind
 have e:=Β C (P x) fun y=>P x y*stay C P k y;have h:(sumL C fun y=>P x y*stay C P k y)=1:=h;have a:=Χ n;have b:=S.le x hx;have c:sumL C (P x)=1:=by grind
 refine⟨c,fun y hy hp=>?_⟩;have z:(sumL C fun y=>P x y - P x y*stay C P k y)=0:=by grind
 have d:=zC7 n z y hy;have d:P x y*(1 - stay C P k y)=0:=by grind
 rcases Š.mp d with q | q
 ·exact absurd q hp
 ·grind
theorem yH4 {C:List α}{P:α->α->Rat}(S:SubC C P){k:Nat}{x:α}(h:x∈hold C P (k+1)):x∈hold C P k:=by
 obtain⟨hx,e⟩:=ĸ.mp h;have e:=of_decide_eq_true e;refine ĸ.mpr ⟨hx,decide_eq_true ?_⟩;have a:=zU9 S k x hx;have b:=zE3 S k x hx;rw[e]at a
 grind
theorem yU0 {C:List α}{P:α->α->Rat}(S:SubC C P)(l:∀x∈C,Leak C P x){k:Nat}(h:∀x∈hold C P k,x∈hold C P (k+1)):hold C P k=[]:=by
 have key:∀x,Leak C P x->x∉hold C P k:=by
  intro x lx
  induction lx with
  | now hx hn =>
   intro q;obtain⟨_,e⟩:=ĸ.mp (h _ q);exact hn (yE7 S hx (of_decide_eq_true e)).1
  | via hx hy hp _ ih =>
   intro q;obtain⟨_,e⟩:=ĸ.mp (h _ q);exact ih (ĸ.mpr ⟨hy,decide_eq_true ((yE7 S hx (of_decide_eq_true e)).2 _ hy hp)⟩)
 cases q:hold C P k with
 | nil=>rfl
 | cons x r =>
  exfalso
  have hm:x∈hold C P k:=by rw[q];exact Ć
  exact key x (l x (ĸ.mp hm).1) hm
theorem yH5 {C:List α}{P:α->α->Rat}(S:SubC C P)(hn:C.Nodup)(l:∀x∈C,Leak C P x):∀k,hold C P k=[] \/ (hold C P k).length+k<=C.length
 | 0=>.inr (by show _+0<=_;exact š _ _)
 | k+1=>by
  by_cases q:∀x∈hold C P k,x∈hold C P (k+1)
  ·left
   have e:=yU0 S l q;cases r:hold C P (k+1) with
   | nil=>rfl
   | cons x t =>
    have:=yH4 S (k:=k) (x:=x) (by rw[r];exact Ć);rw[e]at this;cases this
  ·rcases yH5 S hn l k with e | e
   ·exact absurd (fun x hx=>by rw[e]at hx;cases hx) q
   ·right
    have hx:∃x,x∈hold C P k /\ x∉hold C P (k+1):=by
     by_cases r:∃x,x∈hold C P k /\ x∉hold C P (k+1)
     ·exact r
     ·exact absurd (fun x hx=>by by_cases u:x∈hold C P (k+1);exact u;exact absurd ⟨x,hx,u⟩ r) q
    obtain⟨x,h1,h2⟩:=hx;have nd:(hold C P (k+1)).Nodup:=hn.filter _;have:=Ö (L:=(hold C P k).erase x) (ks:=hold C P (k+1)) nd fun z hz=>by
     refine(List.mem_erase_of_ne ?_).mpr (yH4 S hz);rintro rfl;exact h2 hz
    rw[List.length_erase_of_mem h1]at this;have:=List.length_pos_of_mem h1;lia
theorem xF4 {C:List α}{P:α->α->Rat}(S:SubC C P)(hn:C.Nodup)(l:∀x∈C,Leak C P x){k:Nat}(hk:C.length<=k){x:α}(hx:x∈C):stay C P k x<1:=by
 have e:hold C P k=[]:=by
  rcases yH5 S hn l k with e | e
  ·exact e
  ·exact Ř.mp (by lia)
 have a:=zE3 S k x hx
 by_cases q:stay C P k x=1
 ·have:x∈hold C P k:=ĸ.mpr ⟨hx,decide_eq_true q⟩;rw[e]at this;cases this
 ·grind
end
section
variable {α:Type}[DecidableEq α]
structure LkS (C:List α)(P:α->α->Rat)(S:List α):Prop where
 nd:S.Nodup
 lk:∀x∈S,Leak C P x
 now:∀x∈C,sumL C (P x)≠1->x∈S
noncomputable def ω (C:List α)(P:α->α->Rat)(S:List α):Prop:=∀x,Leak C P x->x∈S
theorem LkS.done {C:List α}{P:α->α->Rat}{S:List α}(h:LkS C P S)(d:∀x∈C,(∃y∈S,P x y≠0)->x∈S):ω C P S:=by
 intro x l
 induction l with
 | now hx hn=>exact h.now _ hx hn
 | via hx _ hp _ ih=>exact d _ hx ⟨_,ih,hp⟩
theorem LkS.full {C:List α}{P:α->α->Rat}{S:List α}(h:LkS C P S)(hl:C.length<=S.length):ω C P S:=by
 intro x l;have hx:=l.mem
 by_cases q:x∈S
 ·exact q
 ·exfalso
  have:=Ö (L:=C) (ks:=x::S) (Ĝ.mpr ⟨q,h.nd⟩) fun z hz=>by
   rcases Ē.mp hz with e | e
   ·subst e;exact hx
   ·exact(h.lk z e).mem
  rw[ğ]at this;lia
noncomputable def putS (S:List α)(x:α):List α:=if x∈S then S else S++[x]
theorem mem_putS {S:List α}{x z:α}:z∈putS S x↔z∈S \/ z=x:=by
 unfold putS;split
 ·rename_i h;exact⟨.inl,fun e=>e.elim id fun e=>e▸h⟩
 ·simp
theorem yP5 {S:List α}{x:α}(h:S.Nodup):(putS S x).Nodup:=by
 unfold putS;split
 ·exact h
 ·rename_i q;rw[œ];refine⟨h,by simp,fun a ha b hb e=>q ?_⟩;rw[ė.mp hb]at e;exact e▸ha
theorem LkS.put {C:List α}{P:α->α->Rat}{S:List α}(h:LkS C P S){x y:α}(hx:x∈C)(hy:y∈S)(hp:P x y≠0):LkS C P (putS S x) :=
 ⟨yP5 h.nd,fun z hz=>(mem_putS.mp hz).elim (h.lk z) (fun e=>e ▸ .via hx (h.lk y hy).mem hp (h.lk y hy)),fun z hz hn=>mem_putS.mpr (.inl (h.now z hz hn))⟩
noncomputable def Swp (C:List α)(P:α->α->Rat)(T:List α)(i:Nat)(S:List α):Prop:=(T.length+1<=S.length \/ (S=T /\ ∀x∈C.take i,(∃y∈T,P x y≠0)->x∈T)) /\ (ω C P T->ω C P S)
theorem Swp.start (C:List α)(P:α->α->Rat)(T:List α):Swp C P T 0 T:=⟨.inr ⟨rfl,fun x hx=>by simp at hx⟩,id⟩
theorem Swp.step {C:List α}{P:α->α->Rat}{T S:List α}{i:Nat}{x:α}(hx:C[i]?=some x)(h:Swp C P T i S)(b:Bool)(hb:b=true↔∃y∈S,P x y≠0):Swp C P T (i+1) (if b then putS S x else S):=by
 have et:C.take (i+1)=C.take i++[x]:=by rw[Ŀ,hx];rfl
 refine⟨?_,fun f=>?_⟩
 ·rcases h.1 with l | ⟨e,f⟩
  ·left
   cases b with
   | false=>exact l
   | true =>
    show _<=(putS S x).length;unfold putS;split
    ·exact l
    ·rw[Ď];lia
  ·subst e;cases b with
   | false =>
    right
    refine⟨rfl,fun z hz q=>?_⟩;rw[et]at hz;rcases ĝ.mp hz with e | e
    ·exact f z e q
    ·rw[ė.mp e]at q;exact absurd (hb.mpr q) (by simp)
   | true =>
    show _<=(putS S x).length \/ (putS S x=S /\ _);unfold putS
    by_cases hm:x∈S
    ·right
     rw[if_pos hm];refine⟨rfl,fun z hz q=>?_⟩;rw[et]at hz;rcases ĝ.mp hz with e | e
     ·exact f z e q
     ·rw[ė.mp e];exact hm
    ·left
     rw[if_neg hm,Ď];simp
 ·intro z l;cases b with
  | false=>exact h.2 f z l
  | true=>exact mem_putS.mpr (.inl (h.2 f z l))
theorem Swp.stop {C:List α}{P:α->α->Rat}{T S:List α}{k:Nat}(h:Swp C P T C.length S)(hs:LkS C P S)(hk:ω C P T \/ k<=T.length):ω C P S \/ k+1<=S.length:=by
 rcases hk with q | q
 ·exact .inl (h.2 q)
 ·rcases h.1 with l | ⟨e,f⟩
  ·right;lia
  ·left
   subst e;rw[đ]at f;exact hs.done f
theorem yQ9 {C L:List α}{R:α->α->Rat}(hC:C.Nodup)(hL:L.Nodup)(hCL:∀x∈C,x∈L){x:α}(h0:∀z,0<=R x z)(hs:sumL L (R x)=1):sumL C (R x)≠1↔∃z∈L,z∉C /\ R x z≠0:=by
 constructor
 ·intro h
  by_cases q:∃z∈L,z∉C /\ R x z≠0
  ·exact q
  ·exfalso
   apply h;rw[<- hs];refine zC1 (R x) hL hC hCL fun z hz hn=>?_
   by_cases e:z∈C
   ·exact e
   ·exact absurd ⟨z,hz,e,hn⟩ q
 ·rintro⟨z,hz,hn,hr⟩ e;have e2:=zC1 (L:=L) (ks:=L.filter fun y=>decide (y∈C)||decide (y=z)) (R x);have e3:sumL C (R x)+R x z<=sumL L (R x):=by
   have hcz:(C++[z]).Nodup:=by
    rw[œ];refine⟨hC,by simp,fun a ha b hb e=>hn ?_⟩;rw[ė.mp hb]at e;exact e▸ha
   have key:∀{ks L:List α},L.Nodup->ks.Nodup->(∀y∈ks,y∈L)->sumL ks (R x)<=sumL L (R x):=by
    intro ks
    induction ks with
    | nil=>intro L _ _ _;rw[ü];exact Χ fun y _=>h0 y
    | cons k ks ih =>
     intro L hL hk hs;rw[Ĝ]at hk;rw[Ê,ô (hs k Ć)];have:=ih (L:=L.erase k) (hL.erase k) hk.2 fun y hy=>by
      refine(List.mem_erase_of_ne ?_).mpr (hs y (ă _ hy));rintro rfl;exact hk.1 hy
     grind
   have:=key hL hcz fun y hy=>by
    rcases ĝ.mp hy with q | q
    ·exact hCL y q
    ·rw[ė.mp q];exact hz
   rw[zB7]at this;exact this
  rw[e,hs]at e3;have:=zP1 (h0 z) hr
  grind
end
section
variable {α:Type}[DecidableEq α]
theorem sort_same {le:α->α->Prop}(anti:∀a b,le a b->le b a->a=b):∀{l1 l2:List α},l1.Perm l2->l1.Pairwise le->l2.Pairwise le->l1=l2
 | [],l2,p,_,_=>p.nil_eq
 | a::l1,[],p,_,_=>absurd p.length_eq (by simp)
 | a::l1,b::l2,p,h1,h2=>by
  have e:a=b:=by
   have ha:a∈b::l2:=p.mem_iff.mp Ć;have hb:b∈a::l1:=p.mem_iff.mpr Ć;rcases Ē.mp ha with q | q
   ·exact q
   ·rcases Ē.mp hb with u | u
    ·exact u.symm
    ·exact anti a b ((ř.mp h1).1 b u) ((ř.mp h2).1 a q)
  subst e;rw[sort_same anti (List.perm_cons a |>.mp p) (ř.mp h1).2 (ř.mp h2).2]
end
section
variable {α:Type}[DecidableEq α]
theorem yM7 {f:α->Rat}(h0:∀z,0<=f z):∀{ks L:List α},L.Nodup->ks.Nodup->(∀y∈ks,y∈L)->sumL ks f<=sumL L f:=by
 intro ks
 induction ks with
 | nil=>intro L _ _ _;rw[ü];exact Χ fun y _=>h0 y
 | cons k ks ih =>
  intro L hL hk hs;rw[Ĝ]at hk;rw[Ê,ô (hs k Ć)];have:=ih (L:=L.erase k) (hL.erase k) hk.2 fun y hy=>by
   refine(List.mem_erase_of_ne ?_).mpr (hs y (ă _ hy));rintro rfl;exact hk.1 hy
  grind
theorem Good.sub {C L:List α}{D:Nat}{R:α->α->Rat}(G:Good L D R)(hC:C.Nodup)(hL:L.Nodup)(hCL:∀x∈C,x∈L):SubC C R :=
 ⟨fun x hx y=>(G.part x (hCL x hx) y).1,fun x hx=>by rw[<- G.all x (hCL x hx)];exact yM7 (fun z=>(G.part x (hCL x hx) z).1) hL hC hCL⟩
theorem yK8:∀{C:List α} {i j:Nat},C.Nodup->i<C.length->C[i]?=C[j]?->i=j
 | [],i,j,_,hi,_=>by simp at hi
 | x::C,0,0,_,_,_=>rfl
 | x::C,0,j+1,hn,_,e=>by
  rw[Ĝ]at hn;have:C[j]?=some x:=by simpa using e.symm
  exact absurd (Ċ this) hn.1
 | x::C,i+1,0,hn,_,e=>by
  rw[Ĝ]at hn;have:C[i]?=some x:=by simpa using e
  exact absurd (Ċ this) hn.1
 | x::C,i+1,j+1,hn,hi,e=>by
  rw[Ĝ]at hn;have:=yK8 (i:=i) (j:=j) hn.2 (by simpa using hi) (by simpa using e);lia
noncomputable def Nmd (C:List α)(c:Nat->α):Prop:=∀i,i<C.length->C[i]?=some (c i)
theorem Nmd.mem {C:List α}{c:Nat->α}(h:Nmd C c){i:Nat}(hi:i<C.length):c i∈C:=Ċ (h i hi)
theorem Nmd.sum {C:List α}{c:Nat->α}(h:Nmd C c)(f:α->Rat):∀n,n<=C.length->sN n (fun i=>f (c i))=sumL (C.take n) f
 | 0,_=>rfl
 | n+1,hn=>by
  have e:C.take (n+1)=C.take n++[c n]:=by rw[Ŀ,h n (by lia)];rfl
  rw[Ε,Nmd.sum h f n (by lia),e,zB7]
theorem Nmd.sumC {C:List α}{c:Nat->α}(h:Nmd C c)(f:α->Rat):sN C.length (fun i=>f (c i))=sumL C f:=by
 rw[h.sum f _ (ą _),đ]
theorem Nmd.inj {C:List α}{c:Nat->α}(h:Nmd C c)(hn:C.Nodup){i j:Nat}(hi:i<C.length)(hj:j<C.length)(e:c i=c j):i=j:=by
 exact yK8 hn hi ((h i hi).trans ((congrArg some e).trans (h j hj).symm))
theorem Nmd.idx {C:List α}{c:Nat->α}(h:Nmd C c)(hn:C.Nodup){i:Nat}(hi:i<C.length):C.idxOf (c i)=i:=by
 have l:C.idxOf (c i)<C.length:=List.idxOf_lt_length_of_mem (h.mem hi);have a:C[C.idxOf (c i)]=c i:=List.getElem_idxOf l;exact yK8 hn l ((Ā l).trans ((congrArg some a).trans (h i hi).symm))
theorem Nmd.at {C:List α}{c:Nat->α}(h:Nmd C c){x:α}(hx:x∈C):∃i,i<C.length /\ c i=x:=by
 obtain⟨i,hi,e⟩:=ě hx;refine⟨i,hi,?_⟩;have:=h i hi;rw[Ā hi,e]at this;exact(Option.some.inj this).symm
noncomputable def eqM (n:Nat)(c:Nat->α)(R:α->α->Rat)(b:α->Rat):Nat->Nat->Rat:=fun i j=>if j<n then (if c j=c i then 1 else 0) - R (c j) (c i) else b (c i)
theorem yU5 {C:List α}{c:Nat->α}(h:Nmd C c)(hn:C.Nodup)(R:α->α->Rat)(b:α->Rat)(y:Nat->Rat){i:Nat}(hi:i<C.length) :
  sN C.length (fun j=>eqM C.length c R b i j*y j)=y i - sumL C fun z=>y (C.idxOf z)*R z (c i):=by
 have e1:sN C.length (fun j=>eqM C.length c R b i j*y j)=sN C.length (fun j=>(if j=i then y i else 0)*1+(y j*R (c j) (c i))*(-1)):=zF6 fun j hj=>by
  unfold eqM;rw[if_pos hj]
  by_cases e:j=i
  ·subst e;rw[if_pos rfl,if_pos rfl];grind
  ·rw[if_neg e,if_neg fun q=>e (h.inj hn hj hi q)];grind
 rw[e1,yO7,yO5 (k:=i) hi (fun j _ hne=>if_neg hne),if_pos rfl];have e2:sN C.length (fun j=>y j*R (c j) (c i))=sumL C fun z=>y (C.idxOf z)*R z (c i):=by
  rw[<- h.sumC];exact zF6 fun j hj=>by rw[h.idx hn hj]
 rw[e2];grind
theorem xA6 {C:List α}{c:Nat->α}(h:Nmd C c)(hn:C.Nodup){R:α->α->Rat}(S:SubC C R)(l:∀x∈C,Leak C R x)(b:α->Rat){y:Nat->Rat}(hy:y C.length=0)(hk:KerM C.length (eqM C.length c R b) y):∀j,j<C.length->y j=0:=by
 have key:∀z∈C,y (C.idxOf z)=sumL C fun x=>y (C.idxOf x)*R x z:=fun z hz=>by
  obtain⟨i,hi,rfl⟩:=h.at hz;have:=hk i hi;unfold dotR at this;rw[Ε,yU5 h hn R b y hi,hy]at this;rw[h.idx hn hi]
  grind
 intro j hj;have:=zX8 S (v:=fun z=>y (C.idxOf z)) key (l _ (h.mem hj));rw[<- h.idx hn hj];exact this
theorem xJ4 {C:List α}{c:Nat->α}(h:Nmd C c)(hn:C.Nodup)(R:α->α->Rat)(b:α->Rat){x:Nat->Rat}(hs:∀i,i<C.length->sN C.length (fun j=>eqM C.length c R b i j*x j)=b (c i)):∀z∈C,x (C.idxOf z)=(sumL C fun y=>x (C.idxOf y)*R y z)+b z:=by
 intro z hz;obtain⟨i,hi,rfl⟩:=h.at hz;have:=hs i hi;rw[yU5 h hn R b x hi]at this;rw[h.idx hn hi]
 grind
theorem Cd.diff {D:Nat}{r:Rat}(b:Bool)(h:IsM D 1 r):Cd D D ((if b then 1 else 0) - r):=by
 obtain⟨_,m,hm,e⟩:=h;have l:m<=D:=by lia
 cases b with
 | true =>
  refine⟨(D:Int) - m,?_,by lia⟩;rw[Rat.intCast_sub];show _=(D:Rat) - (m:Rat);rw[<- e];simp only[if_true]
  grind
 | false =>
  refine⟨-(m:Int),?_,by lia⟩;rw[Rat.intCast_neg];show _ = -(m:Rat);rw[<- e];simp only[Ī,if_false]
  grind
theorem xQ2 {C L:List α}{c:Nat->α}(h:Nmd C c)(hCL:∀x∈C,x∈L){D:Nat}{R:α->α->Rat}(G:Good L D R)(hD:0<D){b:α->Rat}{E W:Nat}(hE:0<E)(hEW:E<=W)(hb:∀z∈C,Cd E W (b z)){a d:Nat}(ha:D<=2^a)(hd:W<=2^d):BdB C.length (eqM C.length c R b) a d:=by
 refine⟨D,E,hD,ha,hE,Č hEW hd,fun i hi j hj=>?_,fun i hi=>?_⟩
 ·unfold eqM;rw[if_pos hj];have:=Cd.diff (decide (c j=c i)) (G.part (c j) (hCL _ (h.mem hj)) (c i));simp only[decide_eq_true_eq]at this;exact this.mono ha
 ·unfold eqM;rw[if_neg (by lia)];exact(hb _ (h.mem hi)).mono hd
end
section
variable {α:Type}[DecidableEq α]
theorem zB0 {C C':List α}(hn:C.Nodup)(hn':C'.Nodup)(h:∀x,x∈C↔x∈C')(f:α->Rat):sumL C f=sumL C' f :=
 zC1 f hn' hn (fun z hz=>(h z).mp hz) fun z hz _=>(h z).mpr hz
theorem Leak.same {C C':List α}{R:α->α->Rat}(hn:C.Nodup)(hn':C'.Nodup)(h:∀x,x∈C↔x∈C'){x:α}(l:Leak C R x):Leak C' R x:=by
 induction l with
 | now hx hs=>exact .now ((h _).mp hx) (by rw[<- zB0 hn hn' h];exact hs)
 | via hx hy hp _ ih=>exact .via ((h _).mp hx) ((h _).mp hy) hp ih
theorem zL1 {C C':List α}{R:α->α->Rat}(hn:C.Nodup)(hn':C'.Nodup)(h:∀x,x∈C↔x∈C'):∀k,stay C R k=stay C' R k
 | 0=>rfl
 | k+1=>by
  funext x
  show sumL C _=sumL C' _;rw[zL1 hn hn' h k,zB0 hn hn' h]
theorem IsM.mul {P Q k j:Nat}{a b:Rat}(h:IsM P k a)(g:IsM Q j b):IsM (P*Q) (k*j) (a*b):=by
 obtain⟨h0,m,hm,e⟩:=h;obtain⟨g0,n,hn,f⟩:=g;refine⟨ġ h0 g0,m*n,?_,?_⟩
 ·have:=Ġ hm hn;have e:k*P*(j*Q)=k*j*(P*Q):=by rw[Nat.mul_mul_mul_comm]
  rw[<- e];exact this
 ·rw[Ģ,Ģ,<- e,<- f];grind
theorem zQ2 {C L:List α}{D:Nat}{R:α->α->Rat}(G:Good L D R)(hC:C.Nodup)(hL:L.Nodup)(hCL:∀x∈C,x∈L):∀k,∀x∈C,IsM (D^k) 1 (stay C R k x)
 | 0,x,_=>by rw[Nat.pow_zero];exact IsM.one 1
 | k+1,x,hx=>by
  have S:=G.sub hC hL hCL;have n0:=yA3 S (k+1) x hx;have n1:=zE3 S (k+1) x hx;have key:∀l:List α,(∀y∈l,y∈C)->∃m:Nat,(sumL l fun y=>R x y*stay C R k y)*((D^(k+1):Nat):Rat)=(m:Rat):=by
   intro l
   induction l with
   | nil=>intro _;exact⟨0,by rw[ü,ň];rfl⟩
   | cons y l ih =>
    intro hl;obtain⟨m,e⟩:=ih fun z hz=>hl z (ă _ hz);have hy:=hl y Ć;obtain⟨_,p,_,f⟩:=(G.part x (hCL x hx) y).mul (zQ2 G hC hL hCL k y hy);refine⟨p+m,?_⟩;rw[Ê,Rat.add_mul,e,Rat.natCast_add,<- f,ģ,Ŏ D]
  obtain⟨m,e⟩:=key C fun _ h=>h;refine⟨n0,m,?_,e⟩;have e:stay C R (k+1) x*((D^(k+1):Nat):Rat)=(m:Rat):=e;have h2:(m:Rat)<=((D^(k+1):Nat):Rat):=by
   rw[<- e];have c0:(0:Rat)<=((D^(k+1):Nat):Rat):=by exact_mod_cast Ħ _
   have:=ġ (show 0<=1 - stay C R (k+1) x by grind) c0
   grind
  have h3:m<=D^(k+1):=by exact_mod_cast h2
  lia
end
theorem Cd.bd {D N s:Nat}{r:Rat}(hD:0<D)(hDN:D<=N)(hN:N<=2^s)(h:Cd D N r):Bd (s+1) r:=by
 obtain⟨m,e,l⟩:=h;have er:r=Ě m D:=by
  rw[Į,Ĵ];have:=ς hD
  grind
 have hp:(2:Nat)^s<2^(s+1):=by rw[ģ];have:=Nat.two_pow_pos s;lia
 rw[er];refine Bd.divInt (by lia) (by lia) ?_;show D<_;lia
theorem BdB.all {n c k a b:Nat}{M:Nat->Nat->Rat}(h:BdB n M a b)(hc:c<n)(hk:k<n)(hp:M c k≠0)(h1:2*a+2<=8000)(h2:a+b+2<=8000):∀i,i<n->∀j,j<n+1->Bd 8000 (M i j) /\ Bd 8000 (M c j / M c k) /\ Bd 8000 (M c j / M c k*M i k):=by
 obtain⟨D,E,h⟩:=h;obtain⟨D',E',g,t1,t2⟩:=h.piv hc hk hp;have e1:2*(2^a*2^a)=2^(2*a+1):=by rw[<- ī,Ŏ,<- ģ];congr 1;lia
 have e2:2*(2^b*2^a)=2^(a+b+1):=by rw[<- ī,Ŏ,<- ģ];congr 1;lia
 intro i hi j hj;have el:∀x,pivM M c k c x=M c x / M c k:=fun x=>by unfold pivM;rw[if_pos rfl]
 by_cases q:j<n
 ·refine⟨((h.co i hi j q).bd h.d0 h.dn (ą _)).mono (by lia),?_,((t1 i hi j q).bd g.d0 g.dn (Nat.le_of_eq e1)).mono (by lia)⟩;rw[<- el];exact((g.co c hc j q).bd g.d0 g.dn (Nat.le_of_eq e1)).mono (by lia)
 ·have q:j=n:=by lia
  subst q;refine⟨((h.la i hi).bd h.e0 h.ew (ą _)).mono (by lia),?_,((t2 i hi).bd g.e0 g.ew (Nat.le_of_eq e2)).mono (by lia)⟩;rw[<- el];exact((g.la c hc).bd g.e0 g.ew (Nat.le_of_eq e2)).mono (by lia)
theorem BdB.swap {n x y a b:Nat}{M:Nat->Nat->Rat}(h:BdB n M a b)(hx:x<n)(hy:y<n):BdB n (δ M x y) a b:=let ⟨D,E,h⟩:=h;⟨D,E,h.swap hx hy⟩
end Tc
namespace L2
open PySem PySem.Spec PyProof.Rows
theorem yC5:typeLookup (.type "zip") "keys" = pure none:=by rw[typeLookup_type,builtinLookup_eq_fast];kernel_rfl
theorem zJ5:typeLookup (.type "zip") "__getattr__" = pure none:=by rw[typeLookup_type,builtinLookup_eq_fast];kernel_rfl
theorem zY2:entryFor table "zip.__getattribute__" = some Builtin.«object.__getattribute__» :=
 entryFor_alias (id':="object.__getattribute__") (by kernel_rfl) (by first | rfl | decide +kernel) (by decide +kernel) (by kernel_rfl)
section
variable {prog:Program}{w:World}{A:Around}{E:Value->Shared->Prop}{h:Heap}{g:Array GenState}{d:Drawn}{t:Nat}{os:OsState}{a:Addr}{fs:Array Value}
noncomputable abbrev ZpO (fs:Array Value):Obj:={ cls:=.type "zip",dict:=none,data:=.fields fs,slots:=#[] }
theorem yC8 {tk:Tok}{Q:PySem.Fin->Shared->Prop}(hh:A.handled=none)(hx:h.get? a=some (ZpO fs))(hE:∀h' tk' e,Heap.NewAttrErr h h' e (.ref a) "keys"->E (.ref e) ⟨h',g,d,tk',os⟩) :
  wpAny (model prog w) A (Builtin.«object.__getattribute__» ⟨[.ref a,.str "keys" tk],[]⟩) Q E ⟨h,g,d,t,os⟩:=by
 have hT:(⟨h,g,d,t,os⟩:Shared).TypeIs (.ref a) "zip":=⟨_,hx,rfl⟩;have f4:=yC5
 repeat (any_goals (first | assumption | wp_step))
 exact wpAny_raiseAttrError hh hE (attrMsg_fits (by decide +kernel) (by size_fits))
theorem yZ2 {Q:Option Value->Shared->Prop}(hh:A.handled=none)(hx:h.get? a=some (ZpO fs))(fin:∀h' tk,(∀b o,h.get? b=some o->h'.get? b=some o)->Q none ⟨h',g,d,tk,os⟩) :
  wpAny (model prog w) A (getAttr? (.ref a) "keys") Q E ⟨h,g,d,t,os⟩:=by
 have hT:∀t',(⟨h,g,d,t',os⟩:Shared).TypeIs (.ref a) "zip":=fun _=>⟨_,hx,rfl⟩;have hT0:=hT t;have hT1:=hT (t+1);have f1:=sub_AttributeError;have f3:=F.slot_zip_getattribute.lookup;have f4:=F.slot_zip_getattribute.bind (.ref a);have f5:=zJ5;unfold getAttr? getAttrBy? getAttrBy
 repeat (any_goals (first | assumption | wp_step))
 refine codeAny_call_builtin F.slot_zip_getattribute.plain zY2 (F.slot_zip_getattribute.check _ _ _ _ _ _ _ _ (hT _) (F.args_zip_getattribute_2 _ _) (yC8 (by first | exact hh | simp[hh]) hx fun h' tk' e hx'=>?_));obtain⟨t',u',he⟩:=hx'.there;have hk:=hx'.keeps;show wpAny _ _ (getattributeRaised _ _ _ _ _ _ _) _ _ _;unfold getattributeRaised
 repeat (any_goals (first | assumption | wp_step))
 exact fin _ _ hk
end
section
variable {P:Program}{w:World}{A:Around}{E:Value->Shared->Prop}{s:Shared}
noncomputable abbrev ZpB (h:Heap)(z ti to' a:Addr)(b:Bool):Prop:=h.get? z=some { cls:=.type "zip",dict:=none,data:=.fields #[rawInt a,.bool b,.bool false,.ref ti,.ref to'],slots:=#[] }
theorem yW4 {z ti to' m n l l' a:Addr}{k:Nat}{b:Bool}{xs ys:Array Value}{x y:Value}{Q:Value->Shared->Prop}(D:ZipApart z ti to' m n l l')(zz:ZpB s.heap z ti to' a b)(ha:∃o,s.heap.get? a=some o)(hT:IsPair s.heap ti (.ref m) (.ref n))
  (h1:s.heap.IsListIter m l k)(h2:s.heap.IsListIter n l' k)(hl1:s.heap.IsList l xs)(hl2:s.heap.IsList l' ys)(hx:xs[k]?=some x)(hy:ys[k]?=some y)
  (fin:∀g,ZpB g z ti to' a true->g.IsListIter m l (k+1)->g.IsListIter n l' (k+1)->IsPair g s.heap.objs.size x y->(∀c o,c≠z->c≠m->c≠n->s.heap.get? c=some o->g.get? c=some o)->Q (.ref s.heap.objs.size) { s with heap:=g }) :
  wpAny (model P w) A (Builtin.«zip.__next__» ⟨[.ref z],[]⟩) (fun r s'=>∃v,r = .done (.ret v) /\ Q v s') E s:=by
 obtain⟨hp,gg,dr,tk,os⟩:=s;show wpAny (model P w) _ (field (.ref z) 2 >>= _) _ _ _;refine wpAny_bind (wpAny_field zz rfl (x:=.bool false) rfl ?_);show wpAny (model P w) _ (field (.ref z) 3 >>= _) _ _ _;refine wpAny_bind (wpAny_field zz rfl (x:=.ref ti) rfl (wpAny_bind (wpAny_seqItems hT rfl ?_)));show wpAny (model P w) _ (Builtin.SmallTypes.ownedTupleIsFree (.ref z) >>= _) _ _ _;obtain⟨oa,ga⟩:=ha;refine wpAny_bind ?_;unfold Builtin.SmallTypes.ownedTupleIsFree;refine wpAny_bind (wpAny_field zz rfl (x:=rawInt a) rfl ?_);show wpAny (model P w) _ (loadIfAlive a >>= _) _ _ _;refine wpAny_bind (yI7 ga ?_);simp only[Option.isNone_some,Ī,if_false];refine wpAny_bind (wpAny_field zz rfl (x:=.bool b) rfl ?_);have go:∀g1:Heap,ZpB g1 z ti to' a true->Heap.SameBut z hp g1->∀(f:Value->(Option PySem.Fin×Array Value)->Sem (ForInStep (Option PySem.Fin×Array Value))) (fe:(Option PySem.Fin×Array Value)->Sem PySem.Fin),
   (∀(it:Addr) (u:Option PySem.Fin×Array Value) (q:Value) (Z:ForInStep (Option PySem.Fin×Array Value)->Shared->Prop) (s1:Shared),wpAny (model P w) A (Builtin.SmallTypes.nextOf (.ref it)) (fun v s2=>Z (.yield (none,u.2.push v)) s2) E s1->wpAny (model P w) A (f (.ref it) u) Z E s1) ->
   (∀vs:Array Value,fe (none,vs)=newTuple vs.toList >>= fun r=>ret r) ->
   wpAny (model P w) A (forIn #[Value.ref m,Value.ref n] (none,#[]) f >>= fe) (fun r s'=>∃v,r = .done (.ret v) /\ Q v s') E ⟨g1,gg,dr,tk,os⟩:=by
  intro g1 z1 b1 f fe hf hfe;have e:forIn #[Value.ref m,Value.ref n] ((none,#[]):Option PySem.Fin×Array Value) f=forIn [Value.ref m,Value.ref n] ((none,#[]):Option PySem.Fin×Array Value) f:=by simp
  rw[e];simp only[List.forIn_cons,List.forIn_nil];refine wpAny_bind (wpAny_bind (hf m _ .none _ _ (wpAny_nextOf_list_item (h1.extBut b1.extBut D.i1z) (hl1.extBut b1.extBut D.l1z) hx fun g2 i2 b2=>?_)));refine wpAny_bind (hf n _ .none _ _ (wpAny_nextOf_list_item ((h2.extBut b1.extBut D.i2z).extBut b2.extBut D.i12.symm) ((hl2.extBut b1.extBut D.l2z).extBut b2.extBut D.l2i1) hy fun g3 i3 b3=>?_));refine wpAny_pure ?_;rw[hfe];refine wpAny_bind (wpAny_newTuple (hsz:=(show (2:Nat)<=sizeLine by decide)) ?_);have es:g3.objs.size=hp.objs.size:=by rw[b3.1,b2.1,b1.1]
  have k3:∀c o,c≠z->c≠m->c≠n->hp.get? c=some o->g3.get? c=some o:=fun c o c1 c2 c3 e=>b3.extBut _ _ c3 (b2.extBut _ _ c2 (b1.extBut _ _ c1 e));have z3:ZpB g3 z ti to' a true:=b3.extBut _ _ D.i2z.symm (b2.extBut _ _ D.i1z.symm z1);refine wpAny_pure ⟨_,rfl,?_⟩;show Q (.ref g3.objs.size) _;rw[es];refine fin _ (ć _ z3) ((i2.extBut b3.extBut D.i12).at fun o q=>ć _ q) (i3.at fun o q=>ć _ q) ?_ fun c o c1 c2 c3 q=>ć _ (k3 c o c1 c2 c3 q);show IsPair _ hp.objs.size x y;rw[<- es];exact ē _ rfl
 cases b with
 | true =>
  refine wpAny_pure ?_;simp only[Ī,if_false];refine go hp zz ⟨rfl,fun _ _=>rfl⟩ _ _ (fun it u q Z s1 h=>?_) fun vs=>rfl;refine wpAny_bind (wpAny_holding ?_);show wpAny (model P w) A (Builtin.SmallTypes.nextOf (.ref it) >>= _) _ _ _;exact wpAny_bind (wpAny_mono h (fun v s2 z=>wpAny_pure (wpAny_pure z)) fun _ _ z=>z)
 | false =>
  refine wpAny_bind (wpAny_setField_rec zz (by simp) fun g1 z1 b1=>?_)
  replace z1:ZpB g1 z ti to' a true:=z1
  refine wpAny_pure ?_;simp only[Ī,if_false];refine go g1 z1 b1 _ _ (fun it u q Z s1 h=>?_) fun vs=>rfl;refine wpAny_bind (wpAny_holding ?_);show wpAny (model P w) A (Builtin.SmallTypes.nextOf (.ref it) >>= _) _ _ _;exact wpAny_bind (wpAny_mono h (fun v s2 z=>wpAny_pure (wpAny_pure z)) fun _ _ z=>z)
theorem yW5 {z ti to' m n l l' a:Addr}{k:Nat}{b:Bool}{xs:Array Value}{Q:PySem.Fin->Shared->Prop}(hh:A.handled=none)(D:ZipApart z ti to' m n l l')(zz:ZpB s.heap z ti to' a b)(ha:∃o,s.heap.get? a=some o)(hT:IsPair s.heap ti (.ref m) (.ref n))
  (h1:s.heap.IsListIter m l k)(hl1:s.heap.IsList l xs)(hx:xs[k]?=none)
  (fin:∀g e,(∀c o,c≠z->c≠m->s.heap.get? c=some o->g.get? c=some o)->(∃o,g.get? e=some o /\ o.cls = .type "StopIteration")->E (.ref e) { s with heap:=g }) :
  wpAny (model P w) A (Builtin.«zip.__next__» ⟨[.ref z],[]⟩) Q E s:=by
 obtain⟨hp,gg,dr,tk,os⟩:=s;show wpAny (model P w) _ (field (.ref z) 2 >>= _) _ _ _;refine wpAny_bind (wpAny_field zz rfl (x:=.bool false) rfl ?_);show wpAny (model P w) _ (field (.ref z) 3 >>= _) _ _ _;refine wpAny_bind (wpAny_field zz rfl (x:=.ref ti) rfl (wpAny_bind (wpAny_seqItems hT rfl ?_)));show wpAny (model P w) _ (Builtin.SmallTypes.ownedTupleIsFree (.ref z) >>= _) _ _ _;obtain⟨oa,ga⟩:=ha;refine wpAny_bind ?_;unfold Builtin.SmallTypes.ownedTupleIsFree;refine wpAny_bind (wpAny_field zz rfl (x:=rawInt a) rfl ?_);show wpAny (model P w) _ (loadIfAlive a >>= _) _ _ _;refine wpAny_bind (yI7 ga ?_);simp only[Option.isNone_some,Ī,if_false];refine wpAny_bind (wpAny_field zz rfl (x:=.bool b) rfl ?_);have go:∀g1:Heap,Heap.SameBut z hp g1->∀(f:Value->(Option PySem.Fin×Array Value)->Sem (ForInStep (Option PySem.Fin×Array Value))) (fe:(Option PySem.Fin×Array Value)->Sem PySem.Fin),
   (∀(it:Addr) (u:Option PySem.Fin×Array Value) (Z:ForInStep (Option PySem.Fin×Array Value)->Shared->Prop) (s1:Shared),wpAny (model P w) A (Builtin.SmallTypes.nextOf (.ref it)) (fun v s2=>Z (.yield (none,u.2.push v)) s2) E s1->wpAny (model P w) A (f (.ref it) u) Z E s1) ->
   wpAny (model P w) A (forIn #[Value.ref m,Value.ref n] (none,#[]) f >>= fe) Q E ⟨g1,gg,dr,tk,os⟩:=by
  intro g1 b1 f fe hf;have e:forIn #[Value.ref m,Value.ref n] ((none,#[]):Option PySem.Fin×Array Value) f=forIn [Value.ref m,Value.ref n] ((none,#[]):Option PySem.Fin×Array Value) f:=by simp
  rw[e];simp only[List.forIn_cons,List.forIn_nil];exact wpAny_bind (wpAny_bind (hf m _ _ _ (wpAny_nextOf_list_end hh (h1.extBut b1.extBut D.i1z) (hl1.extBut b1.extBut D.l1z) hx fun g2 e2 b2 h2=>fin g2 e2 (fun c o c1 c2 q=>b2 c o c2 (b1.extBut c o c1 q)) h2)))
 cases b with
 | true =>
  refine wpAny_pure ?_;simp only[Ī,if_false];refine go hp ⟨rfl,fun _ _=>rfl⟩ _ _ (fun it u Z s1 h=>?_);refine wpAny_bind (wpAny_holding ?_);show wpAny (model P w) A (Builtin.SmallTypes.nextOf (.ref it) >>= _) _ _ _;exact wpAny_bind (wpAny_mono h (fun v s2 z=>wpAny_pure (wpAny_pure z)) fun _ _ z=>z)
 | false =>
  refine wpAny_bind (wpAny_setField_rec zz (by simp) fun g1 z1 b1=>?_);refine wpAny_pure ?_;simp only[Ī,if_false];refine go g1 b1 _ _ (fun it u Z s1 h=>?_);refine wpAny_bind (wpAny_holding ?_);show wpAny (model P w) A (Builtin.SmallTypes.nextOf (.ref it) >>= _) _ _ _;exact wpAny_bind (wpAny_mono h (fun v s2 z=>wpAny_pure (wpAny_pure z)) fun _ _ z=>z)
noncomputable def ZpG (h:Heap)(z ti to' m n d:Addr):Prop:=(IsZip h z ti to' .none /\ ∃u v,IsPair h to' u v) \/ ∃a b,ZpB h z ti to' a b /\ (∃o,h.get? a=some o) /\ a≠d /\ a≠z /\ a≠m /\ a≠n
theorem yR9 {z ti to' m n l l' d:Addr}{k:Nat}{xs ys:Array Value}{x y:Value}{Q:Option Value->Shared->Prop}(D:ZipApart z ti to' m n l l')(zz:ZpG s.heap z ti to' m n d)(dlt:d<s.heap.objs.size)(hT:IsPair s.heap ti (.ref m) (.ref n))
  (h1:s.heap.IsListIter m l k)(h2:s.heap.IsListIter n l' k)(hl1:s.heap.IsList l xs)(hl2:s.heap.IsList l' ys)(hx:xs[k]?=some x)(hy:ys[k]?=some y)
  (fin:∀g,ZpG g z ti to' m n d->g.IsListIter m l (k+1)->g.IsListIter n l' (k+1)->IsPair g s.heap.objs.size x y->(∀c o,c≠z->c≠to'->c≠m->c≠n->s.heap.get? c=some o->g.get? c=some o)->Q (some (.ref s.heap.objs.size)) { s with heap:=g }) :
  wpAny (model P w) A (pyNext (.ref z)) Q E s:=by
 rcases zz with⟨zz,u,v,po⟩ | ⟨a,b,zz,ha,had,haz,ham,han⟩
 ·exact wpAny_pyNext_zip_item D zz hT po h1 h2 hl1 hl2 hx hy fun g jz jo j1 j2 jt hsz kp=>fin g (.inr ⟨_,false,jz,⟨_,jt⟩,ĥ dlt,ĥ (ĉ zz),ĥ (let ⟨_,q,_⟩:=h1;ĉ q),ĥ (let ⟨_,q,_⟩:=h2;ĉ q)⟩) j1 j2 jt kp
 ·have ty:s.TypeIs (.ref z) "zip":=⟨_,zz,rfl⟩;unfold pyNext;refine wpAny_bind (wpAny_attempt (wpAny_callSpecial?_slot (name:=Str.ofString "__next__") ty F.slot_zip_next (wpAny_call_entry F.slot_zip_next ty F.entry_zip_next
   (yW4 D zz ha hT h1 h2 hl1 hl2 hx hy fun g a1 a2 a3 a4 a5=>wpAny_pure (fin g (.inr ⟨a,true,a1,ha.imp fun o q=>a5 a o haz ham han q,had,haz,ham,han⟩) a2 a3 a4 fun c o c1 _ c3 c4 q=>a5 c o c1 c3 c4 q)) (F.args_zip_next_1 _))))
theorem xA7 {z ti to' m n l l' d:Addr}{k:Nat}{xs ys:Array Value}{Q:Option Value->Shared->Prop}(hh:A.handled=none)(D:ZipApart z ti to' m n l l')(zz:ZpG s.heap z ti to' m n d)(hT:IsPair s.heap ti (.ref m) (.ref n))
  (h1:s.heap.IsListIter m l k)(h2:s.heap.IsListIter n l' k)(hl1:s.heap.IsList l xs)(hl2:s.heap.IsList l' ys)(hx:xs[k]?=none)
  (fin:∀g,(∀c o,c≠z->c≠to'->c≠m->c≠n->s.heap.get? c=some o->g.get? c=some o)->Q none { s with heap:=g }) :
  wpAny (model P w) A (pyNext (.ref z)) Q E s:=by
 rcases zz with⟨zz,u,v,po⟩ | ⟨a,b,zz,ha,_⟩
 ·exact wpAny_pyNext_zip_end hh D zz hT po h1 h2 hl1 hl2 (.inl hx) fin
 ·have ty:s.TypeIs (.ref z) "zip":=⟨_,zz,rfl⟩;unfold pyNext;refine wpAny_bind (wpAny_attempt (wpAny_callSpecial?_slot (name:=Str.ofString "__next__") ty F.slot_zip_next (wpAny_call_entry F.slot_zip_next ty F.entry_zip_next (yW5 hh D zz ha hT h1 hl1 hx fun g e kp he=>?_) (F.args_zip_next_1 _))));obtain⟨o,ho,hc⟩:=he;exact wpAny_bind (wpAny_isInstance (T:="StopIteration") (b:=true) ⟨o,ho,hc⟩ isSubtype_stop (wpAny_pure (fin _ fun c o c1 _ c3 _ q=>kp c o c1 c3 q)))
end
noncomputable def zkV (ks:List Str)(us:List Value)(i:Nat):List (Key×Value):=((ks.zip us).take i).map fun p=>(.inr p.1,p.2)
theorem xK0 (ks:List Str)(us:List Value)(i:Nat):(zkV ks us i).length<=i:=by
 unfold zkV;rw[ā,ċ];lia
theorem xE8 {ks:List Str}{us:List Value}{i:Nat}{x:Str}{u:Value}(nd:ks.Nodup)(hk:ks[i]?=some x)(hu:us[i]?=some u):stored (zkV ks us i) (.inr x) u=zkV ks us (i+1):=by
 have hz:(ks.zip us)[i]?=some (x,u):=by
  rw[List.getElem?_zip_eq_some];exact⟨hk,hu⟩
 unfold stored;rw[if_neg]
 ·unfold zkV;rw[Ŀ,hz,Đ];rfl
 ·intro z;rw[List.any_eq_true]at z;obtain⟨kv,hm,e⟩:=z;unfold zkV at hm;obtain⟨⟨y,q⟩,h1,h2⟩:=Ė.mp hm;have e:kv.1=(.inr x:Key):=of_decide_eq_true e;rw[<- h2]at e;have e:y=x:=Sum.inr.inj e;obtain⟨j,hj,ej⟩:=ě h1;rw[ċ]at hj;have hj1:(ks.zip us)[j]?=some (y,q):=by
   rw[List.getElem_take]at ej;rw[Ā (by lia),ej]
  have hj2:=(List.getElem?_zip_eq_some.mp hj1).1;rw[e]at hj2;obtain⟨l1,e1⟩:=Ą.mp hj2;obtain⟨l2,e2⟩:=Ą.mp hk;exact Ŧ.mp nd j i l1 l2 (by lia) (e1.trans e2.symm)
theorem yM8:∀{vs:List Value} {ks:List Str} {i:Nat} {v:Value},StrsAre vs ks->vs[i]?=some v->∃x t,ks[i]?=some x /\ v = .str x t
 | _,_,i,v,.nil,h=>by simp at h
 | _,_,0,v,.cons y t _,h=>⟨y,t,rfl,by simpa using h.symm⟩
 | _,_,i+1,v,.cons y t r,h=>by
  obtain⟨x,t',h1,h2⟩:=yM8 (i:=i) r (by simpa using h);exact⟨x,t',by simpa using h1,h2⟩
section
variable {P:Program}{w:World}{A:Around}{E:Value->Shared->Prop}{s:Shared}
theorem yD4 {R:Result->Shared->Prop}{z ti to' m n l l' d:Addr}{xs ys:Array Value}{ks:List Str}(hh:A.handled=none)(Da:ZipApart z ti to' m n l l')(nd:ks.Nodup)(hk:StrsAre xs.toList ks)(hy:ys.size=xs.size)(hz:xs.size<4000)
  (d1:d≠z)(d2:d≠ti)(d3:d≠to')(d4:d≠m)(d5:d≠n)(d6:d≠l)(d7:d≠l')(t1:ti≠z)(t2:ti≠m)(t3:ti≠n)(t4:ti≠to') :
  ∀(k i:Nat) (s:Shared),i+k=xs.size->ZpG s.heap z ti to' m n d->IsPair s.heap ti (.ref m) (.ref n)->s.heap.IsListIter m l i->s.heap.IsListIter n l' i->s.heap.IsList l xs->s.heap.IsList l' ys->s.heap.DictOf (ç P w) d (zkV ks ys.toList i) ->
   (∀g tk,g.DictOf (ç P w) d (zkV ks ys.toList xs.size)->(∀c o,c≠z->c≠to'->c≠m->c≠n->c≠d->s.heap.get? c=some o->g.get? c=some o)->R (.ok (.ret .none)) { s with heap:=g,toks:=tk }) ->
   codeAny (model P w) A (.builtin "dict.update.loop" ⟨[.ref d,.ref z,rawInt i,.none],[]⟩) R s:=by
 intro k
 induction k with
 | zero =>
  intro i s hi zz hT h1 h2 hl1 hl2 hd fin;have:i=xs.size:=by lia
  subst this;refine codeAny_builtin zY3 ?_;rw[Around.under_plainId zF8 _];show wpAny (model P w) A.in1 (pyNext (.ref z) >>= _) _ _ s;refine wpAny_bind (xA7 (by first | exact hh | simp[hh]) Da zz hT h1 h2 hl1 hl2 (by simp) fun g b1=>?_);show wpAny (model P w) A.in1 (Builtin.Dict.addKeywords d [] >>= _) _ _ _;refine wpAny_bind (wpAny_pure (wpAny_pure (fin g s.toks ?_ fun c o c1 c2 c3 c4 _ q=>b1 c o c1 c2 c3 c4 q)));obtain⟨o,es,ep,ho,r⟩:=hd;exact⟨o,es,ep,b1 d o d1 d3 d4 d5 ho,r⟩
 | succ k ih =>
  intro i s hi zz hT h1 h2 hl1 hl2 hd fin;refine codeAny_builtin zY3 ?_;rw[Around.under_plainId zF8 _];show wpAny (model P w) A.in1 (pyNext (.ref z) >>= _) _ _ s;obtain⟨x,hx⟩:∃x,xs[i]?=some x:=⟨_,Array.getElem?_eq_getElem (by lia)⟩;obtain⟨y,hy1⟩:∃y,ys[i]?=some y:=⟨_,Array.getElem?_eq_getElem (by lia)⟩;obtain⟨x0,t0,hk0,rfl⟩:=yM8 hk (by simpa using hx);refine wpAny_bind (yR9 Da zz (by obtain⟨_,_,_,ho,_⟩:=hd;exact ĉ ho) hT h1 h2 hl1 hl2 hx hy1 fun g a1 a2 a3 a4 a5=>?_);obtain⟨hp,gg,dr,tk,os⟩:=s;have hd1:g.DictOf (ç P w) d (zkV ks ys.toList i):=by
   obtain⟨o,es,ep,ho,r⟩:=hd;exact⟨o,es,ep,a5 d o d1 d3 d4 d5 ho,r⟩
  have a4:g.get? hp.objs.size=some { cls:=.type "tuple",data:=.seq #[.str x0 t0,y] }:=a4;show wpAny (model P w) A.in1 (holding [.ref hp.objs.size] _ >>= _) _ _ ⟨g,gg,dr,tk,os⟩;refine wpAny_bind (wpAny_holding (wpAny_bind (wpAny_tryCatch (yK3 a4 ?_))));show wpAny (model P w) A.in1 (holding [.str x0 t0,y] (dictSet d (.str x0 t0) y)) _ _ _;refine wpAny_holding (wpAny_dictSet_pairs (zN2 P w x0 t0) hd1 (fun h2' hd2 s2=>?_) (Č (xK0 _ _ _) (Č (m:=4000) (by lia) (by decide))));rw[xE8 nd hk0 (by simpa using hy1)]at hd2
  replace s2:Heap.SameBut d g h2':=s2
  refine wpAny_pure ⟨plainId_quiet zF8 _,?_⟩;have hTg:IsPair g ti (.ref m) (.ref n):=a5 _ _ t1 t4 t2 t3 hT;refine ih (i+1) ⟨h2',gg,dr,_,os⟩ (by lia) ?_ (s2.extBut _ _ (Ne.symm d2) hTg) (a2.extBut s2.extBut (Ne.symm d4)) (a3.extBut s2.extBut (Ne.symm d5)) ?_ ?_ hd2 fun g3 tk3 hd3 k3=>fin g3 tk3 hd3 fun c o c1 c2 c3 c4 c5 q=>k3 c o c1 c2 c3 c4 c5 (s2.extBut c o c5 (a5 c o c1 c2 c3 c4 q))
  ·rcases a1 with⟨q1,u,v,q2⟩ | ⟨a,b,q,⟨o,qo⟩,q2,q3,q4,q5⟩
   ·exact .inl ⟨s2.extBut _ _ (Ne.symm d1) q1,u,v,s2.extBut _ _ (Ne.symm d3) q2⟩
   ·exact .inr ⟨a,b,s2.extBut _ _ (Ne.symm d1) q,⟨o,s2.extBut _ _ q2 qo⟩,q2,q3,q4,q5⟩
  ·exact(hl1.at fun o q=>a5 l o Da.l1z Da.l1TO Da.l1i1 Da.l1i2 q).extBut s2.extBut (Ne.symm d6)
  ·exact(hl2.at fun o q=>a5 l' o Da.l2z Da.l2TO Da.l2i1 Da.l2i2 q).extBut s2.extBut (Ne.symm d7)
theorem zT3 {z ti to' m n l l':Addr}{xs ys:Array Value}{ks:List Str}{Q:Value->Shared->Prop}(hh:A.handled=none)(Da:ZipApart z ti to' m n l l')(nd:ks.Nodup)(hk:StrsAre xs.toList ks)(hy:ys.size=xs.size)(hz:xs.size<4000)
  (zz:IsZip s.heap z ti to' .none)(hT:IsPair s.heap ti (.ref m) (.ref n))(hO:∃u v,IsPair s.heap to' u v)(h1:s.heap.IsListIter m l 0)(h2:s.heap.IsListIter n l' 0)(hl1:s.heap.IsList l xs)(hl2:s.heap.IsList l' ys)
  (fin:∀g tk,g.DictOf (ç P w) s.heap.objs.size (zkV ks ys.toList xs.size)->(∀c o,c≠z->c≠to'->c≠m->c≠n->s.heap.get? c=some o->g.get? c=some o)->Q (.ref s.heap.objs.size) { s with heap:=g,toks:=tk }) :
  wpAny (model P w) A (call (.type "dict") [.ref z]) Q E s:=by
 refine callType_codes (Q₁:=fun obj s₁=>obj = .ref s.heap.objs.size /\ s₁={ s with heap:=s.heap.push { cls:=.type "dict",data:=.dict #[] } }) F.kt_called_dict (F.kt_typeCall_dict_1 _) F.entry_dict_init (kt_code_dict_new _ ⟨rfl,rfl⟩) ?_;rintro obj s₁ ⟨rfl,rfl⟩;obtain⟨hp,gg,dr,tk,os⟩:=s;have hnew:(hp.push { cls:=.type "dict",data:=.dict #[] }).DictOf (ç P w) hp.objs.size []:=Heap.DictOf.new hp;have k1:∀c o,hp.get? c=some o->(hp.push { cls:=.type "dict",data:=.dict #[] }).get? c=some o:=fun c o q=>ć _ q;have z1:IsZip (hp.push { cls:=.type "dict",data:=.dict #[] }) z ti to' .none:=k1 _ _ zz;have ty1:(⟨hp.push { cls:=.type "dict",data:=.dict #[] },gg,dr,tk,os⟩:Shared).TypeIs (.ref z) "zip":=⟨_,z1,rfl⟩;have lz:z<hp.objs.size:=ĉ zz;have lti:ti<hp.objs.size:=ĉ hT;obtain⟨u,v,hO⟩:=hO;have lto:to'<hp.objs.size:=ĉ hO;have lm:m<hp.objs.size:=by obtain⟨_,q,_⟩:=h1;exact ĉ q
 have ln:n<hp.objs.size:=by obtain⟨_,q,_⟩:=h2;exact ĉ q
 have ll:l<hp.objs.size:=by obtain⟨_,q,_⟩:=hl1;exact ĉ q
 have ll':l'<hp.objs.size:=by obtain⟨_,q,_⟩:=hl2;exact ĉ q
 refine⟨hnew.typeIs,F.args_dict_init_2 _ _,?_⟩;unfold Builtin.«dict.__init__»;refine wpAny_bind ?_;unfold Builtin.Dict.selfAndRest;refine wpAny_bind (wpAny_notOrdered_dict hnew.typeIs (wpAny_pure ?_));show wpAny (model P w) _ (Builtin.Dict.updateFrom "dict.__init__" hp.objs.size (.ref z) [] .none) _ _ ⟨hp.push { cls:=.type "dict",data:=.dict #[] },gg,dr,tk,os⟩;generalize hp.push { cls:=.type "dict",data:=.dict #[] }=h1' at hnew z1 ty1 k1 ⊢;unfold Builtin.Dict.updateFrom;refine wpAny_bind (wpAny_typeOf ty1 ?_);rw[if_pos (by decide)];refine wpAny_bind (yZ2 (by first | exact hh | simp[hh]) z1 fun h2' t2 k2=>?_);rw[if_pos (show (none:Option Value).isNone=true from rfl)];have z2:IsZip h2' z ti to' .none:=k2 _ _ z1;refine wpAny_bind (wpAny_rule (wpAny_bind (wpAny_pyIter_zip z2 (wpAny_pure ⟨plainId_quiet zF8 _,?_⟩))));refine yD4 (by first | exact hh | simp[hh]) Da nd hk hy hz (ĥ lz) (ĥ lti) (ĥ lto) (ĥ lm) (ĥ ln) (ĥ ll) (ĥ ll') Da.TIz Da.TIi1 Da.TIi2 Da.TITO xs.size 0 ⟨h2',gg,dr,t2,os⟩ (Nat.zero_add _) (.inl ⟨z2,u,v,k2 _ _ (k1 _ _ hO)⟩) (k2 _ _ (k1 _ _ hT)) ?_ ?_ ?_ ?_ ?_ fun g tk3 hd kp=>?_
 ·obtain⟨o,q,r⟩:=h1;exact⟨o,k2 _ _ (k1 _ _ q),r⟩
 ·obtain⟨o,q,r⟩:=h2;exact⟨o,k2 _ _ (k1 _ _ q),r⟩
 ·obtain⟨o,q,r⟩:=hl1;exact⟨o,k2 _ _ (k1 _ _ q),r⟩
 ·obtain⟨o,q,r⟩:=hl2;exact⟨o,k2 _ _ (k1 _ _ q),r⟩
 ·obtain⟨o,es,ep,q,r⟩:=hnew;exact⟨o,es,ep,k2 _ _ q,r⟩
 ·exact⟨rfl,fin g tk3 hd fun c o c1 c2 c3 c4 q=>kp c o c1 c2 c3 c4 (Ĥ (ĉ q)) (k2 _ _ (k1 _ _ q))⟩
end
noncomputable def zipV (ks:List Str)(ys:List V):List (Key×V):=(ks.zip ys).map fun p=>(.inr p.1,p.2)
theorem yE5:∀{ks:List Str} {ys:List V} {us:List Value},Vals ys us->KV (zipV ks ys) ((ks.zip us).map fun p=>(.inr p.1,p.2))
 | [],_,_,_=>.nil
 | _::_,_,_,.nil=>.nil
 | k::ks,_,_,.cons a r=>.cons ⟨rfl,a⟩ (yE5 (ks:=ks) r)
noncomputable def yW9 (K:Ă)(ta:TA):TE:=fun σ H Q=>ta σ H fun vs H1=>∃(a b:Addr) (ks:List Str) (ys:List V),vs=[V.ref a,V.ref b] /\ SqL K H1 a (ks.map V.str) /\ SqL K H1 b ys /\ ks.Nodup /\ ys.length=ks.length /\ ks.length<4000 /\ ∀p,H1 p=none->Q (.ref p) (upd H1 p (.dK (zipV ks ys)))
theorem yK0 {X:Cx}{K:Ă}{a b:Expr}{ta:TA}{p p2 pos pos2:Pos}(hK:X.K=K)(hc:X.calm=true)(hg:Gl X "dict")(hm:X.mg "dict" = none)(hg2:Gl X "zip")(hm2:X.mg "zip" = none)(ha:PA X [a,b] ta)
  (hs:starEach [a,b] X.env=(false,eval a X.env)::starEach [b] X.env:=by rfl)(hs2:starEach [b] X.env=[(false,eval b X.env)]:=by rfl)(hs3:starEach [.Call (.Name "zip" p2) [a,b] [] pos2] X.env=[(false,eval (.Call (.Name "zip" p2) [a,b] [] pos2) X.env)]:=by rfl) :
  PE X (.Call (.Name "dict" p) [.Call (.Name "zip" p2) [a,b] [] pos2] [] pos) (yW9 K ta):=by
 subst hK;intro pins s σ H Q I h;refine Call_ (η I hg hm zN9 (PyProof.Rows.callWith_type1 ?_ hs3 rfl));rw[hs3];show wpAny _ _ (spliced ((false,eval (.Call (.Name "zip" p2) [a,b] [] pos2) X.env)::[])) _ _ s;refine Calls.spliced_cons (Call_ (η I hg2 hm2 xE3 (PyProof.Rows.callWith_type1 (thn (ha pos2 pins s σ H _ I h) fun us s1 ⟨vs,H1,I1,r1,q1⟩=>?_) hs (by rw[hs2];rfl))));obtain⟨b1,b2,ks,ys,rfl,hq1,hq2,nd,hlen,h4,q⟩:=q1;obtain⟨u,u',rfl,ru,ru'⟩:=xE9 r1;cases ru;cases ru';obtain⟨its1,rv1,p1,hz1⟩:=I1.list hq1;obtain⟨its2,rv2,p2',hz2⟩:=I1.list hq2;have l1:its1.length=ks.length:=by rw[<- rv1.length,ā]
 have l2:its2.length=ks.length:=by rw[<- rv2.length];exact hlen
 have lt1:b1<s1.heap.objs.size:=by obtain⟨_,q,_⟩:=p1.isList;exact ĉ q
 have lt2:b2<s1.heap.objs.size:=by obtain⟨_,q,_⟩:=p2'.isList;exact ĉ q
 refine call_zip_2 p1.isList p2'.isList fun h' jz jt jo j1 j2 hsz kp=>Calls.spliced_nil ?_;have ea:h'.objs.size=s1.heap.objs.size+5:=hsz;refine zT3 (xs:=its1.toArray) (ys:=its2.toArray) (ks:=ks) (I1.ok.hd hc) (zipApart_new lt1 lt2) nd (by simpa using zA5 rv1) (by simp[l1,l2]) (by rw[ĕ];lia) jz jt ⟨_,_,jo⟩ j1 j2 ?_ ?_ fun g tk hd kk=>?_
 ·obtain⟨o,q,r⟩:=p1.isList;exact⟨o,kp _ _ q,r⟩
 ·obtain⟨o,q,r⟩:=p2'.isList;exact⟨o,kp _ _ q,r⟩
 have zl:(zipV ks ys).length<=4000:=by unfold zipV;rw[ā,List.length_zip];lia
 have ne:∀{b:Addr} {ob:Obj} {j:Nat},s1.heap.get? b=some ob->b≠s1.heap.objs.size+j:=fun e=>Ĥ (č (ĉ e) (Nat.le_add_right _ _));refine⟨.ref _,_,I1.laid (a:=h'.objs.size) (o:=.dK (zipV ks ys)) (t':=tk) (fun b ob e=>kk b ob (ne (j:=4) e) (ne (j:=3) e) (ne (j:=0) e) (ne (j:=1) e) (kp b ob e)) (by rw[ea];exact Nat.le_add_right _ _) ⟨Č zl (by decide),?_,_,yE5 rv2,?_⟩,rfl,q _ (I1.hok.fresh (by rw[ea];exact Nat.le_add_right _ _))⟩
 ·refine beq_eq_false_iff_ne.mpr (ĥ ?_);rw[ea];exact č I1.big (Nat.le_add_right _ _)
 ·have hd:g.DictOf (ç X.prog X.w) h'.objs.size (zkV ks its2.toArray.toList its1.toArray.size):=hd;unfold zkV at hd;rw[List.take_of_length_le (by rw[List.length_zip,ĕ];lia)]at hd;simpa using hd
theorem zC6:∀{vs:List Value} {ys:List Str},StrsAre vs ys->Vals (ys.map V.str) vs
 | _,_,.nil=>.nil
 | _,_,.cons y t r=>.cons ⟨t,rfl⟩ (zC6 r)
theorem zV9:∀(p:Str) (l:List Str),risingS p l=true->(p::l).Pairwise fun a b=>ltCps b.cps.toList a.cps.toList=false
 | p,[],_=>by simp
 | p,x::l,h=>by
  rw[risingS,Ń,Bool.not_eq_true']at h;have ih:=zV9 x l h.2;rw[ř];refine⟨fun b hb=>?_,ih⟩;rcases Ē.mp hb with e | e
  ·rw[e];exact h.1
  ·have h1:=(ř.mp ih).1 b e;have h0:=h.1;rw[ltCps_eq]at h0 h1 ⊢;have h0:=of_decide_eq_false h0;have h1:=of_decide_eq_false h1;exact decide_eq_false (List.not_lt.mpr (List.le_trans (List.not_lt.mp h0) (List.not_lt.mp h1)))
theorem zV6:∀{l:List Str},sortedS l=true->l.Pairwise fun a b=>ltCps b.cps.toList a.cps.toList=false
 | [],_=>.nil
 | p::l,h=>zV9 p l h
theorem xA8 (a b:Str)(h1:ltCps b.cps.toList a.cps.toList=false)(h2:ltCps a.cps.toList b.cps.toList=false):a=b:=by
 rw[ltCps_eq]at h1 h2;have e:a.cps.toList=b.cps.toList:=List.le_antisymm (List.not_lt.mp (of_decide_eq_false h1)) (List.not_lt.mp (of_decide_eq_false h2));obtain⟨⟨x⟩⟩:=a;obtain⟨⟨y⟩⟩:=b;cases (show x=y from e)
 rfl
theorem yA5 {l1 l2:List Str}(p:l1.Perm l2)(h1:sortedS l1=true)(h2:sortedS l2=true):l1=l2:=_root_.Tc.sort_same xA8 p (zV6 h1) (zV6 h2)
section
variable {P0:Program}{w0:World}{A0:Around}{E0':Value->Shared->Prop}{s0:Shared}{T0:String}{r0 d0:Addr}{n0:Nat}{F0:Nat->Value->Prop}{G0:Heap->Prop}
theorem zY9 {R0:List Value->Shared->Prop}(S:PySem.W.KdlSrc P0 w0 T0 r0 d0 n0 F0 G0)(hh:A0.handled=none)(ok:G0 s0.heap)(hn:n0<=sizeLine)
  (fin:∀(h1:Heap) (t1:Nat) (ac:Array Value),(∀b o,s0.heap.get? b=some o->h1.get? b=some o)->s0.heap.objs.size<h1.objs.size->PySem.ItemsOf F0 ac n0->R0 ac.toList { s0 with heap:=h1,toks:=t1 }) :
  wpAny (model P0 w0) A0 (collect (.ref r0)) R0 E0' s0:=by
 have lt:=S.there _ ok;have ne1:=ĥ lt.1;have ne2:=ĥ lt.2;unfold collect;refine wpAny_bind (wpAny_runValue (codeAny_builtin entry_proto_collect' ?_));rw[Around.under_plainId PySem.F.plain_proto_collect _];refine(show wpAny (model P0 w0) A0.in1 (newList [] >>= fun l=>again (.builtin "list.__iadd__" ⟨[l,.ref r0],[]⟩)) _ _ s0 from wpAny_bind (wpAny_newObj_type (wpAny_pure ⟨plainId_quiet PySem.F.plain_list_iadd _,codeAny_builtin entry_list_iadd' ?_⟩)));rw[Around.under_plainId PySem.F.plain_list_iadd _];let hp:Heap:=s0.heap.push { cls:=.type "list",data:=.seq ([]:List Value).toArray };have new:hp.get? s0.heap.objs.size=some { cls:=.type "list",data:=.seq #[] }:=ē _ rfl;have key:=PySem.W.kdl_extend (A:=A0) (s:={ s0 with heap:=hp })
  (R:=fun (z:Result) (u:Shared)=>∃(h1:Heap) (t1:Nat) (ac:Array Value) (c:Nat),z = .ok (.ret (.ref s0.heap.objs.size)) /\ u={ s0 with heap:=h1,toks:=t1 } /\ (∀b o,s0.heap.get? b=some o->h1.get? b=some o) /\
   h1.get? s0.heap.objs.size=some { cls:=.type "list",dict:=none,data:=.seq ac c,slots:=#[] } /\ PySem.ItemsOf F0 ac n0)
  S hh (S.keep _ _ ok fun b _ o e=>ć _ e) s0.heap.objs.size ne1 ne2 (.ref s0.heap.objs.size) 0 new
  (fun h1 t1 ac c k1 k2 k3=>⟨h1,t1,ac,c,rfl,rfl,fun b o e=>k1 b o (Ĥ (ĉ e)) (ć _ e),k2,k3⟩) hn
 have go:∀u,(∃(h1:Heap) (t1:Nat) (ac:Array Value) (c:Nat),u={ s0 with heap:=h1,toks:=t1 } /\ (∀b o,s0.heap.get? b=some o->h1.get? b=some o) /\
   h1.get? s0.heap.objs.size=some { cls:=.type "list",dict:=none,data:=.seq ac c,slots:=#[] } /\ PySem.ItemsOf F0 ac n0)->wpAny (model P0 w0) A0 (load s0.heap.objs.size >>= fun o=>match o.data with | .seq items _=>pure items.toList | _=>unsupported "internal:collect") R0 E0' u:=by
  rintro u ⟨h1,t1,ac,c,rfl,k1,k2,k3⟩;exact wpAny_bind (wpAny_load k2 (wpAny_pure (fin h1 t1 ac k1 (ĉ k2) k3)))
 refine wpAny_mono key (fun z u x=>?_) fun e u x=>?_
 ·cases z with
  | done f =>
   obtain⟨h1,t1,ac,c,e,rfl,k1,k2,k3⟩:=x;cases e;exact go _ ⟨h1,t1,ac,c,rfl,k1,k2,k3⟩
  | again c1 =>
   refine⟨x.1,codeAny_mono x.2 fun z u y=>?_⟩;obtain⟨h1,t1,ac,c,rfl,rfl,k1,k2,k3⟩:=y;exact go _ ⟨h1,t1,ac,c,rfl,k1,k2,k3⟩
 ·obtain⟨_,_,_,_,e,_⟩:=x;cases e
end
section
variable {X:Cx}{K:Ă}
theorem zZ0:Φ X (.builtin "sorted") (fun xs H Q=>∃(a:Addr) (ss:List Str),xs=[V.ref a] /\ SqL X.K H a (ss.map V.str) /\ ss.length<64 /\ ∀ss',ss'.Perm ss->sortedS ss'=true->∀l,H l=none->Q (.ref l) (upd H l (.lst (ss'.map V.str)))):=by
 intro pins s σ H xs us Q I r h;obtain⟨a,ss,rfl,hq,h64,q⟩:=h;obtain⟨u,rfl,ru⟩:=ι r;cases ru;obtain⟨its,rv,pl,hz⟩:=I.list hq;have hl:its.length=ss.length:=by rw[<- rv.length,ā]
 refine sorted_strs pl.isList (zA5 rv) (by lia) fun out ss' a1 a2 a3=>?_;obtain⟨e,he⟩:=sortedAll_at s.heap its out;refine⟨.ref _,_,I.laid (a:=s.heap.objs.size+1) (o:=.lst (ss'.map V.str)) (t':=s.toks) (fun b ob e=>sortedAll_old e) (Nat.le_succ _) ⟨?_,out.toList,e,zC6 a1,by simpa using he⟩,rfl,q ss' a2 a3 _ (I.hok.fresh (Nat.le_succ _))⟩;rw[ā,a2.length_eq];exact Č (m:=4000) (by lia) (by decide)
theorem zT2 (h:X.K=K):Φ X (.builtin "sorted") (fun xs H Q=>∃(a:Addr) (ss:List Str),xs=[V.ref a] /\ SqL K H a (ss.map V.str) /\ ss.length<64 /\ ∀ss',ss'.Perm ss->sortedS ss'=true->∀l,H l=none->Q (.ref l) (upd H l (.lst (ss'.map V.str)))):=by subst h;exact zZ0
theorem zJ4 (hc:X.calm=true):Φ X (.builtin "sorted") (fun xs H Q=>∃(d:Addr) (kvs:List (Key×V)) (ss:List Str),xs=[V.ref d] /\ H d=some (.dK kvs) /\ kvs.map (·.1)=ss.map Sum.inr /\ ss.length<64 /\ ∀ss',ss'.Perm ss->sortedS ss'=true->∀l,H l=none->Q (.ref l) (upd H l (.lst (ss'.map V.str)))):=by
 intro pins s σ H xs us Q I r h;obtain⟨d,kvs,ss,rfl,hd,hk,h64,q⟩:=h;obtain⟨w0,rfl,rw0⟩:=ι r;cases rw0;obtain⟨o,es,ep,ps,g,ex,dat,hs,hps0,rel⟩:=I.raw hd (show isDk (.dK kvs)=true from rfl);have hps:ps=kvs.map fun kv=>(kV kv.1,kv.2):=hps0;have hlen:ps.length=es.size:=by rw[rel.length];simp
 have hkl:ss.length=ps.length:=by
  rw[hps,ā,<- ā (f:=(·.1)) (as:=kvs),hk,ā]
 refine Calls.call_function_entry kind_sorted plain_sorted entry_sorted (args_sorted1 _) ?_;unfold Builtin.«sorted»;refine wpAny_bind (m:=checkCount "sorted" 1 1 _) (wpAny_pure ?_);refine wpAny_bind (zY9 (A0:=X.A.in1) (yE8 (es:=es) (ep:=ep) hs) (I.ok.hd hc) ⟨o,g,ex,dat⟩ (Č (m:=4000) (by lia) (by decide)) fun h' tk acc kk hgr hacc=>?_);have sa:StrsAre acc.toList ss:=by
  have e1:acc.toList=es.toList.map (·.key):=by
   apply List.ext_getElem?;intro j;rw[Ĉ]
   by_cases hj:j<es.size
   ·have hj2:j<acc.size:=by rw[hacc.1];exact hj
    obtain⟨e,he,hv⟩:=hacc.2 j acc[j] (by simp[hj2]);have e2:es.toList[j]?=some e:=by simpa using he
    rw[e2];simp[hj2,hv]
   ·have hj2:¬j<acc.size:=by rw[hacc.1];exact hj
    rw[ō (by simp;lia),ō (by simp;lia)];rfl
  have vr:Vals (ps.map (·.1)) acc.toList:=by
   rw[e1];clear hlen hkl hps hps0 e1 hacc;generalize es.toList=el at rel
   induction rel with
   | nil=>exact .nil
   | cons h t ih=>exact .cons h.1 ih
  have e2:ps.map (·.1)=ss.map V.str:=by
   rw[hps,Ś];have:(kvs.map fun kv=>kV kv.1)=(kvs.map (·.1)).map kV:=by rw[Ś];rfl
   show (kvs.map fun kv=>kV kv.1)=_;rw[this,hk,Ś];rfl
  rw[e2]at vr;exact zA5 vr
 have hl2:acc.toList.length=ss.length:=by
  have:=hacc.1;rw[Array.length_toList];lia
 refine wpAny_bind (wpAny_newList ?_ (Č (m:=4000) (by lia) (by decide)));have hoL:(h'.push (seqObj "list" acc.toList.toArray 0)).get? h'.objs.size=some (seqObj "list" acc.toList.toArray 0):=ē _ rfl;refine wpAny_bind (wpAny_holding (wpAny_call_entry slot_list_sort ⟨_,hoL,rfl⟩ entry_list_sort (list_sort_treeK strKind_oneLt hoL sa.keysOf (fun v₁ v₂ rest e=>keyKind_strs (by rw[<- e];exact sa)) (by lia) fun st' a1 a2=>⟨_,rfl,?_⟩) (args_list_sort _)));obtain⟨ss',h1,h2,h3⟩:=sorted_out_str sa a1 a2;refine wpAny_pure ⟨_,rfl,?_⟩;have kk2:∀b ob,s.heap.get? b=some ob->(sortedHeap (h'.push (seqObj "list" acc.toList.toArray 0)) h'.objs.size acc.toList ((arrOf st').map (·.2))).get? b=some ob:=fun b ob e=>by
  have e1:=kk b ob e;have hlt:=ĉ e1;rw[sortedHeap_old (Ĥ hlt) (by rw[size_push'];exact Nat.lt_succ_of_lt hlt)];exact ć _ e1
 have hsz:s.heap.objs.size<=h'.objs.size:=Ş hgr;obtain⟨ee,he⟩:=sortedHeap_at (h:=h'.push (seqObj "list" acc.toList.toArray 0)) (a:=h'.objs.size) (vs:=acc.toList) (out:=(arrOf st').map (·.2)) (n:=0) hoL;refine⟨.ref _,_,I.laid (a:=h'.objs.size) (o:=.lst (ss'.map V.str)) (t':=tk) kk2 hsz ⟨?_,((arrOf st').map (·.2)).toList,ee,zC6 h1,?_⟩,rfl,q ss' h2 h3 _ (I.hok.fresh hsz)⟩
 ·rw[ā,h2.length_eq];exact Č (m:=4000) (by lia) (by decide)
 ·show _=some (seqObj "list" ((arrOf st').map (·.2)).toList.toArray ee);rw[Array.toArray_toList];exact he
end
end L2
namespace Tc
section
variable {α:Type}[DecidableEq α]
noncomputable def mass (C:List α)(P:α->α->Rat)(m:α->Rat):Nat->α->Rat
 | 0=>m
 | k+1=>fun z=>sumL C fun y=>mass C P m k y*P y z
theorem zX4 (C:List α)(P:α->α->Rat)(m:α->Rat):∀k j,(sumL C fun z=>mass C P m k z*stay C P j z)=sumL C fun z=>m z*stay C P (j+k) z
 | 0,j=>rfl
 | k+1,j=>by
  have e1:(sumL C fun z=>mass C P m (k+1) z*stay C P j z)=sumL C fun z=>sumL C fun y=>mass C P m k y*(P y z*stay C P j z):=Û fun z _=>by
   show (sumL C fun y=>mass C P m k y*P y z)*stay C P j z=_;have:=zB1 C (fun y=>mass C P m k y*P y z) (stay C P j z);have e:(sumL C fun y=>mass C P m k y*(P y z*stay C P j z))=sumL C fun y=>stay C P j z*(mass C P m k y*P y z):=Û fun y _=>by grind
   rw[e,this];grind
  rw[e1,zU7];have e2:(sumL C fun y=>sumL C fun z=>mass C P m k y*(P y z*stay C P j z))=sumL C fun y=>mass C P m k y*stay C P (j+1) y:=Û fun y _=>zB1 C _ _;rw[e2,zX4 C P m k (j+1)];have:j+1+k=j+(k+1):=by lia
  rw[this]
theorem yZ5 (C:List α)(P:α->α->Rat)(m:α->Rat)(k:Nat):sumL C (mass C P m k)=sumL C fun z=>m z*stay C P k z:=by
 have:=zX4 C P m k 0;rw[Nat.zero_add]at this;rw[<- this];exact Û fun z _=>by
  show _=_*(1:Rat);rw[Rat.mul_one]
theorem yG9 {C:List α}(P:α->α->Rat)(hC:C.Nodup){x:α}(hx:x∈C)(k:Nat):sumL C (mass C P (dlt x) k)=stay C P k x:=by
 rw[yZ5,ô hx];have e:sumL (C.erase x) (fun z=>dlt x z*stay C P k z)=0:=ý _ _ fun z hz=>by
  have:=((hC.mem_erase_iff).mp hz).1;unfold dlt;rw[if_neg this,ň]
 rw[e];unfold dlt;rw[if_pos rfl];grind
end
section
variable {α:Type}[DecidableEq α]
noncomputable def lap (a:α->Rat)(g:List α->Rat):List α->Rat
 | []=>0
 | r::R=>a r*g R - lap a (fun S=>g (r::S)) R
theorem zS7 (a:α->Rat)(x:Rat):∀(R:List α) (g h:List α->Rat),lap a (fun S=>x*g S - h S) R=x*lap a g R - lap a h R
 | [],_,_=>by show (0:Rat)=x*0 - 0;grind
 | r::R,g,h=>by
  show a r*(x*g R - h R) - lap a (fun S=>x*g (r::S) - h (r::S)) R=x*(a r*g R - lap a (fun S=>g (r::S)) R) - (a r*h R - lap a (fun S=>h (r::S)) R);rw[zS7 a x R (fun S=>g (r::S)) fun S=>h (r::S)]
  grind
theorem zS8 (a b:α->Rat):∀(R:List α) (g:List α->Rat),lap a (lap b g) R = -lap b (lap a g) R
 | [],_=>by show (0:Rat) = -0;grind
 | r::R,g=>by
  have e1:lap a (lap b g) (r::R)=a r*lap b g R - (b r*lap a g R - lap a (lap b fun T=>g (r::T)) R):=by
   show a r*lap b g R - lap a (fun S=>b r*g S - lap b (fun T=>g (r::T)) S) R=_;rw[zS7]
  have e2:lap b (lap a g) (r::R)=b r*lap a g R - (a r*lap b g R - lap b (lap a fun T=>g (r::T)) R):=by
   show b r*lap a g R - lap b (fun S=>a r*g S - lap a (fun T=>g (r::T)) S) R=_;rw[zS7]
  rw[e1,e2,zS8 a b R fun T=>g (r::T)]
  grind
theorem zS6 (a:α->Rat):∀R:List α,lap a (fun _=>0) R=0
 | []=>rfl
 | r::R=>by
  show a r*0 - lap a (fun _=>0) R=0;rw[zS6 a R];grind
theorem yZ8 (a:α->Rat)(s:Rat)(g:List α->Rat)(R:List α):lap a (fun S=>s*g S) R=s*lap a g R:=by
 have:=zS7 a s R g fun _=>0;rw[zS6]at this;have e:(fun S=>s*g S)=fun S=>s*g S - 0:=by funext S;grind
 rw[e,this];grind
theorem yS8 (A:α->α->Rat)(x:α->Rat)(C:List α):∀(R:List α) (g:List α->Rat) {b:α->Rat},(∀r∈R,b r=sumL C fun j=>A r j*x j)->lap b g R=sumL C fun j=>x j*lap (fun r=>A r j) g R
 | [],_,_,_=>by
  show (0:Rat)=sumL C fun j=>x j*0;exact(ý _ _ fun z _=>by grind).symm
 | r::R,g,b,h=>by
  show b r*g R - lap b (fun S=>g (r::S)) R=sumL C fun j=>x j*(A r j*g R - lap (fun r=>A r j) (fun S=>g (r::S)) R);rw[yS8 A x C R (fun S=>g (r::S)) fun y hy=>h y (ă _ hy),h r Ć];have e:(sumL C fun j=>x j*(A r j*g R - lap (fun r=>A r j) (fun S=>g (r::S)) R))=sumL C fun j=>g R*(A r j*x j) - x j*lap (fun r=>A r j) (fun S=>g (r::S)) R:=Û fun j _=>by grind
  rw[e,Β,zB1]
  grind
noncomputable def detL (A:α->α->Rat):List α->List α->Rat
 | []=>fun _=>1
 | c::cs=>lap (fun r=>A r c) (detL A cs)
theorem zT1 (A:α->α->Rat)(a:α):∀(cs:List α),a∈cs->∀R,detL A (a::cs) R=0
 | [],h,_=>nomatch h
 | b::cs,h,R=>by
  have e:=zS8 (fun r=>A r a) (fun r=>A r b) R (detL A cs);show lap (fun r=>A r a) (lap (fun r=>A r b) (detL A cs)) R=0
  by_cases q:a=b
  ·subst q;grind
  ·have h:a∈cs:=by
    rcases Ē.mp h with h | h
    ·exact absurd h q
    ·exact h
   rw[e];have:lap (fun r=>A r a) (detL A cs)=fun _=>0:=by
    funext S
    exact zT1 A a cs h S
   rw[this,zS6];grind
theorem zY7 (A:α->α->Rat)(a:α):∀(cs:List α),a∈cs->∃s:Rat,(s=1 \/ s = -1) /\ ∀R,detL A (a::cs.erase a) R=s*detL A cs R
 | [],h=>nomatch h
 | b::cs,h=>by
  by_cases q:b=a
  ·subst q;refine⟨1,.inl rfl,fun R=>?_⟩;rw[List.erase_cons_head];grind
  ·have h:a∈cs:=by
    rcases Ē.mp h with h | h
    ·exact absurd h.symm q
    ·exact h
   obtain⟨s,hs,e⟩:=zY7 A a cs h;have hs':-s=1 \/ -s = -1:=by
    rcases hs with hs | hs
    ·right;rw[hs]
    ·left;rw[hs];rfl
   refine⟨-s,hs',fun R=>?_⟩;rw[List.erase_cons_tail (by simpa using q)];have e1:=zS8 (fun r=>A r a) (fun r=>A r b) R (detL A (cs.erase a));show lap (fun r=>A r a) (lap (fun r=>A r b) (detL A (cs.erase a))) R = -s*lap (fun r=>A r b) (detL A cs) R;rw[e1];have:lap (fun r=>A r a) (detL A (cs.erase a))=fun S=>s*detL A cs S:=by
    funext S
    exact e S
   rw[this,yZ8];grind
theorem yZ9 {C:List α}(g:List α->Rat):∀{R:List α},R.Nodup->(∀r∈R,r∈C)->C.Nodup->∃w:α->Rat,(∀z,z∉R->w z=0) /\ ∀a:α->Rat,lap a g R=sumL C fun z=>w z*a z:=by
 intro R
 induction R generalizing g with
 | nil=>intro _ _ _;exact⟨fun _=>0,fun _ _=>rfl,fun a=>(ý _ _ fun z _=>by grind).symm⟩
 | cons r R ih =>
  intro hn hR hC;have hn':=Ĝ.mp hn;obtain⟨w,w0,hw⟩:=ih (fun S=>g (r::S)) hn'.2 (fun z hz=>hR z (ă _ hz)) hC;refine⟨fun z=>if z=r then g R else -w z,fun z hz=>?_,fun a=>?_⟩
  ·have h1:z≠r:=fun e=>hz (by rw[e];exact Ć);have h2:z∉R:=fun e=>hz (ă _ e);show (if z=r then g R else -w z)=0;rw[if_neg h1,w0 z h2];grind
  ·show a r*g R - lap a (fun S=>g (r::S)) R=_;rw[hw a];have hr:=hR r Ć;rw[ô hr (fun z=>(if z=r then g R else -w z)*a z),ô hr (fun z=>w z*a z),w0 r hn'.1];have e:(sumL (C.erase r) fun z=>(if z=r then g R else -w z)*a z)=sumL (C.erase r) fun z=>-1*(w z*a z):=Û fun z hz=>by
    have:=((hC.mem_erase_iff).mp hz).1;show (if z=r then g R else -w z)*a z = -1*(w z*a z);rw[if_neg this];grind
   rw[e,zB1];show _=(if r=r then g R else _)*a r+_;rw[if_pos rfl];grind
theorem yS9 {C:List α}(g:List α->Rat){r:α}{R:List α}(hn:(r::R).Nodup)(hR:∀z∈r::R,z∈C)(hC:C.Nodup):∃w:α->Rat,w r=g R /\ ∀a:α->Rat,lap a g (r::R)=sumL C fun z=>w z*a z:=by
 obtain⟨w,_,hw⟩:=yZ9 g hn hR hC;refine⟨w,?_,hw⟩;have h:=hw (dlt r);have hr:=hR r Ć;rw[ô hr]at h;have e:(sumL (C.erase r) fun z=>w z*dlt r z)=0:=ý _ _ fun z hz=>by
  have:=((hC.mem_erase_iff).mp hz).1;unfold dlt;rw[if_neg this];grind
 have e2:lap (dlt r) g (r::R)=g R:=by
  have go:∀(S:List α) (g:List α->Rat),r∉S->lap (dlt r) g S=0:=by
   intro S
   induction S with
   | nil=>intro _ _;rfl
   | cons y S ih =>
    intro g hy;show dlt r y*g S - lap (dlt r) (fun T=>g (y::T)) S=0;have h1:y≠r:=fun e=>hy (by rw[e];exact Ć);rw[ih _ fun e=>hy (ă _ e)];unfold dlt;rw[if_neg h1];grind
  show dlt r r*g R - lap (dlt r) (fun T=>g (r::T)) R=g R;rw[go R _ (Ĝ.mp hn).1];unfold dlt;rw[if_pos rfl];grind
 rw[e2,e]at h;unfold dlt at h;rw[if_pos rfl]at h
 grind
theorem zY6 {C:List α}{A:α->α->Rat}(hC:C.Nodup)(hK:∀w:α->Rat,(∀j∈C,(sumL C fun z=>w z*A z j)=0)->∀z∈C,w z=0):∀m,m<=C.length->∃cs R:List α,cs.length=m /\ R.length=m /\ R.Nodup /\ (∀z∈R,z∈C) /\ cs.Nodup /\ (∀z∈cs,z∈C) /\ detL A cs R≠0
 | 0,_=>⟨[],[],rfl,rfl,.nil,nofun,.nil,nofun,by show (1:Rat)≠0;decide⟩
 | m+1,hm=>by
  obtain⟨cs,R,lc,lR,nR,hR,nc,hc,hd⟩:=zY6 hC hK m (by lia);have:∃r∈C,r∉R:=Classical.byContradiction fun q=>by
   have:∀z∈C,z∈R:=fun z hz=>Classical.byContradiction fun h=>q ⟨z,hz,h⟩;have:=Ö hC this;lia
  obtain⟨r,hr,hrR⟩:=this;have n2:(r::R).Nodup:=Ĝ.mpr ⟨hrR,nR⟩;have h2:∀z∈r::R,z∈C:=fun z hz=>by
   rcases Ē.mp hz with e | e
   ·rw[e];exact hr
   ·exact hR z e
  obtain⟨w,w1,hw⟩:=yS9 (detL A cs) n2 h2 hC;have:∃j∈C,(sumL C fun z=>w z*A z j)≠0:=Classical.byContradiction fun q=>by
   have:=hK w (fun j hj=>Classical.byContradiction fun h=>q ⟨j,hj,h⟩) r hr;rw[w1]at this;exact hd this
  obtain⟨j,hj,hne⟩:=this;have e:detL A (j::cs) (r::R)≠0:=by
   show lap (fun r=>A r j) (detL A cs) (r::R)≠0;rw[hw];exact hne
  refine⟨j::cs,r::R,by rw[ğ,lc],by rw[ğ,lR],n2,h2,Ĝ.mpr ⟨fun q=>e (zT1 A j cs q _),nc⟩,fun z hz=>?_,e⟩;rcases Ē.mp hz with q | q
  ·rw[q];exact hj
  ·exact hc z q
theorem yT0 {D N E W:Nat}{a:α->Rat}:∀{R:List α} {g:List α->Rat},(∀r∈R,Cd D N (a r))->(∀S,(∀z∈S,z∈R)->S.length+1=R.length->Cd E W (g S))->Cd (D*E) (R.length*(N*W)) (lap a g R)
 | [],_,_,_=>Cd.zero _ _
 | r::R,g,ha,hg=>by
  have h1:=(ha r Ć).mul (hg R (fun z hz=>ă _ hz) rfl);have h2:=yT0 (R:=R) (g:=fun S=>g (r::S)) (fun z hz=>ha z (ă _ hz)) fun S hS hl=>hg _ (fun z hz=>by
   rcases Ē.mp hz with e | e
   ·rw[e];exact Ć
   ·exact ă _ (hS z e)) (by rw[ğ,ğ,hl])
  refine(h1.sub h2).mono ?_;rw[ğ,Nat.succ_mul];lia
theorem yU8 {D N n:Nat}{A:α->α->Rat}:∀{cs R:List α},R.length<=n->(∀z∈R,∀j∈cs,Cd D N (A z j))->Cd (D^cs.length) ((n*N)^cs.length) (detL A cs R)
 | [],R,_,_=>by
  rw[List.length_nil,Nat.pow_zero,Nat.pow_zero];exact Cd.one 1
 | c::cs,R,hn,h=>by
  have:=yT0 (R:=R) (g:=detL A cs) (fun r hr=>h r hr c Ć) fun S hS hl=>yU8 (n:=n) (by lia) fun z hz j hj=>h z (hS z hz) j (ă _ hj);rw[ğ,ģ,Ŏ (D^cs.length),ģ];refine this.mono ?_;rw[<- ĵ,Ŏ ((n*N)^_)];exact Ĕ _ (Ĕ _ hn)
theorem xQ9 {C:List α}{A:α->α->Rat}{x b:α->Rat}(hC:C.Nodup){cs R:List α}(nc:cs.Nodup)(hcs:∀z,z∈cs↔z∈C)(hb:∀r∈R,b r=sumL C fun j=>A r j*x j){k:α}(hk:k∈cs):∃s:Rat,(s=1 \/ s = -1) /\ x k*detL A cs R=s*lap b (detL A (cs.erase k)) R:=by
 obtain⟨s,hs,e⟩:=zY7 A k cs hk;refine⟨s,hs,?_⟩;have h:=yS8 A x C R (detL A (cs.erase k)) hb;have hkC:=(hcs k).mp hk;rw[ô hkC]at h;have e0:(sumL (C.erase k) fun j=>x j*lap (fun r=>A r j) (detL A (cs.erase k)) R)=0:=ý _ _ fun j hj=>by
  have hj':=(hC.mem_erase_iff).mp hj;have:lap (fun r=>A r j) (detL A (cs.erase k)) R=0:=zT1 A j (cs.erase k) ((nc.mem_erase_iff).mpr ⟨hj'.1,(hcs j).mpr hj'.2⟩) R;rw[this];grind
 have e1:lap (fun r=>A r k) (detL A (cs.erase k)) R=s*detL A cs R:=e R;rw[e0,e1]at h;rw[h];rcases hs with q | q<;>rw[q]<;>grind
theorem xI3 {C cs:List α}(hC:C.Nodup)(hn:cs.Nodup)(hs:∀z∈cs,z∈C)(hl:cs.length=C.length):∀z,z∈cs↔z∈C:=fun z=>⟨hs z,fun hz=>Classical.byContradiction fun q=>by
 have:=Ö (ks:=z::cs) (Ĝ.mpr ⟨q,hn⟩) (fun y hy=>by
  rcases Ē.mp hy with e | e
  ·rw[e];exact hz
  ·exact hs y e)
 rw[ğ]at this;lia⟩
theorem xL3 {C:List α}{A:α->α->Rat}{x b:α->Rat}(hC:C.Nodup){D E W:Nat}(D0:0<D)(E0:0<E)(EW:E<=W)(hA:∀z∈C,∀j∈C,Cd D D (A z j))(hb:∀z∈C,Cd E W (b z))(hx:∀z∈C,b z=sumL C fun j=>A z j*x j)
  (hK:∀w:α->Rat,(∀j∈C,(sumL C fun z=>w z*A z j)=0)->∀z∈C,w z=0):∃E',0<E' /\ E'<=W*(C.length*D)^C.length /\ ∀z∈C,Cd E' (W*(C.length*D)^C.length) (x z):=by
 obtain⟨cs,R,lc,lR,nR,hR,nc,hc,hd⟩:=zY6 hC hK C.length (ą _);have mc:=xI3 hC nc hc lc;obtain⟨u,eu,lu⟩:=yU8 (n:=C.length) (D:=D) (N:=D) (A:=A) (cs:=cs) (R:=R) (by lia) fun z hz j hj=>hA z (hR z hz) j (hc j hj);rw[lc]at eu lu;have u0:u≠0:=fun e=>by
  rw[e]at eu;have h1:((D^C.length:Nat):Rat)≠0:=ς (Nat.pow_pos D0);have:detL A cs R*((D^C.length:Nat):Rat)=0:=by rw[eu];rfl
  rcases Š.mp this with q | q
  ·exact hd q
  ·exact h1 q
 have up:0<u.natAbs:=by lia
 refine⟨E*u.natAbs,Ņ E0 up,Ġ EW lu,fun k hk=>?_⟩;have hkc:=(mc k).mpr hk;obtain⟨s,hs,e⟩:=xQ9 hC nc mc (fun r hr=>hx r (hR r hr)) hkc;have le:(cs.erase k).length=C.length - 1:=by rw[List.length_erase_of_mem hkc,lc]
 have n1:C.length=(C.length - 1)+1:=by
  have:=List.length_pos_of_mem hk;lia
 obtain⟨v,ev,lv⟩:=yT0 (R:=R) (g:=detL A (cs.erase k)) (fun r hr=>hb r (hR r hr)) fun S hS hl=>yU8 (n:=C.length) (D:=D) (N:=D) (by lia) fun z hz j hj=>hA z (hR z (hS z hz)) j (hc j (List.mem_of_mem_erase hj));rw[le]at ev lv;rw[lR]at lv;have key:x k*((E:Nat):Rat)*(u:Rat)=s*((v:Rat)*(D:Rat)):=by
  rw[<- eu,<- ev,n1,ģ,Ģ,Ģ,show C.length - 1+1 - 1=C.length - 1 by lia];have e':=e
  grind
 have fin:∀t:Int,x k*((E*u.natAbs:Nat):Rat)=((t*(v*D):Int):Rat)->(t=1 \/ t = -1)->Cd (E*u.natAbs) (W*(C.length*D)^C.length) (x k):=by
  intro t et ht;refine⟨t*(v*D),et,?_⟩;have:(t*(v*D)).natAbs=v.natAbs*D:=by
   rw[ł,ł];rcases ht with q | q<;>rw[q]<;>simp
  rw[this];refine Č (Ĕ D lv) (Nat.le_of_eq ?_);rw[n1,ģ,show C.length - 1+1 - 1=C.length - 1 by lia]
  grind
 rcases hs with q | q
 ·rcases Int.natAbs_eq u with a | a
  ·refine fin 1 ?_ (.inl rfl);rw[Ģ,Int.one_mul,Ľ];rw[a,q]at key;have:((D:Int):Rat)=((D:Nat):Rat):=rfl;have:(((u.natAbs:Nat):Int):Rat)=((u.natAbs:Nat):Rat):=rfl
   grind
  ·refine fin (-1) ?_ (.inr rfl);rw[Ģ,Ľ,Ľ];rw[a,q,Rat.intCast_neg]at key;have:((D:Int):Rat)=((D:Nat):Rat):=rfl;have:(((u.natAbs:Nat):Int):Rat)=((u.natAbs:Nat):Rat):=rfl;have:((-1:Int):Rat) = -1:=rfl
   grind
 ·rcases Int.natAbs_eq u with a | a
  ·refine fin (-1) ?_ (.inr rfl);rw[Ģ,Ľ,Ľ];rw[a,q]at key;have:((D:Int):Rat)=((D:Nat):Rat):=rfl;have:(((u.natAbs:Nat):Int):Rat)=((u.natAbs:Nat):Rat):=rfl;have:((-1:Int):Rat) = -1:=rfl
   grind
  ·refine fin 1 ?_ (.inl rfl);rw[Ģ,Int.one_mul,Ľ];rw[a,q,Rat.intCast_neg]at key;have:((D:Int):Rat)=((D:Nat):Rat):=rfl;have:(((u.natAbs:Nat):Int):Rat)=((u.natAbs:Nat):Rat):=rfl
   grind
theorem yS3 (f:α->Rat):∀{C:List α},C≠[]->∃x∈C,∀y∈C,f y<=f x
 | [],h=>absurd rfl h
 | [x],_=>⟨x,Ć,fun y hy=>by
  rcases Ē.mp hy with e | e
  ·rw[e];exact ŋ
  ·cases e⟩
 | x::y::C,_=>by
  obtain⟨z,hz,hm⟩:=yS3 f (C:=y::C) nofun
  by_cases q:f z<=f x
  ·refine⟨x,Ć,fun u hu=>?_⟩;rcases Ē.mp hu with e | e
   ·rw[e];exact ŋ
   ·exact Rat.le_trans (hm u e) q
  ·refine⟨z,ă _ hz,fun u hu=>?_⟩;rcases Ē.mp hu with e | e
   ·rw[e];exact ĺ (Rat.not_le.mp q)
   ·exact hm u e
theorem yS6 {C:List α}{P:α->α->Rat}(S:SubC C P){h:α->Rat}(hh:∀y∈C,h y=sumL C fun z=>P y z*h z)(hl:∀x∈C,Leak C P x):∀x∈C,h x=0:=by
 intro x0 hx0;obtain⟨xm,hxm,hM⟩:=yS3 (fun y=>absR (h y)) (C:=C) (fun e=>by rw[e]at hx0;cases hx0);let M:Rat:=absR (h xm);have hM:∀y∈C,absR (h y)<=M:=hM;have M0:0<=M:=zT9 _;have up:∀y∈C,absR (h y)<=sumL C fun z=>P y z*absR (h z):=fun y hy=>by
  have a:=yI8 C fun z=>P y z*h z;rw[<- hh y hy]at a;refine Rat.le_trans a (zL0 fun z hz=>?_);have:P y z*h z=h z*P y z:=Rat.mul_comm _ _;rw[this,yI9 (S.nn y hy z),Rat.mul_comm];exact ŋ
 have key:∀x,Leak C P x->absR (h x)=M->M=0:=by
  intro x l
  induction l with
  | now hx hs =>
   rename_i x;intro e;have a:=up x hx;have b:(sumL C fun z=>P x z*absR (h z))<=M*sumL C (P x):=by
    rw[<- zB1];exact zL0 fun z hz=>by
     have:=ġ (S.nn x hx z) (show 0<=M - absR (h z) by have:=hM z hz;grind)
     grind
   have c:=S.le x hx;have d:0<1 - sumL C (P x):=by
    have:sumL C (P x)≠1:=hs;have:=Rat.lt_of_le_of_ne c this
    grind
   have f:M*(1 - sumL C (P x))<=0:=by grind
   have g:=ġ M0 (ĺ d);have:M*(1 - sumL C (P x))=0:=by grind
   rcases Š.mp this with q | q
   ·exact q
   ·rw[q]at d;exact absurd d (by decide)
  | via hx hy hp _ ih =>
   rename_i x y _;intro e;refine ih ?_;have a:=up x hx;have nn:∀z∈C,0<=P x z*(M - absR (h z)):=fun z hz=>ġ (S.nn x hx z) (by have:=hM z hz;grind);have b:(sumL C fun z=>P x z*(M - absR (h z)))=M*sumL C (P x) - sumL C fun z=>P x z*absR (h z):=by
    rw[<- zB1,<- Β];exact Û fun z _=>by grind
   have c:=ġ M0 (show 0<=1 - sumL C (P x) by have:=S.le x hx;grind);have d:(sumL C fun z=>P x z*(M - absR (h z)))=0:=by
    have:=Χ nn
    grind
   have f:=zC7 nn d y hy;rcases Š.mp f with q | q
   ·exact absurd q hp
   ·grind
 have:M=0:=key xm (hl xm hxm) rfl;have:=hM x0 hx0;apply zO2;have:=zT9 (h x0)
 grind
theorem yC7 {C L:List α}{D:Nat}{R:α->α->Rat}(G:Good L D R)(hC:C.Nodup)(hL:L.Nodup)(hCL:∀x∈C,x∈L)(hl:∀x∈C,Leak C R x)(D0:0<D){X b:α->Rat}(hX:∀z∈C,X z=(sumL C fun y=>X y*R y z)+b z){E W:Nat}(E0:0<E)(EW:E<=W)(hb:∀z∈C,Cd E W (b z)) :
  ∃E',0<E' /\ E'<=W*(C.length*D)^C.length /\ ∀z∈C,Cd E' (W*(C.length*D)^C.length) (X z):=by
 refine xL3 (A:=fun z y=>dlt z y - R y z) hC D0 E0 EW (fun z hz j hj=>?_) hb (fun z hz=>?_) fun w hw=>yS6 (G.sub hC hL hCL) (fun y hy=>?_) hl
 ·have:=Cd.diff (decide (j=z)) (G.part j (hCL j hj) z);simp only[decide_eq_true_eq]at this;exact this
 ·have e:(sumL C fun y=>(dlt z y - R y z)*X y)=sumL C fun y=>dlt z y*X y - X y*R y z:=Û fun y _=>by grind
  rw[e,Β];have e2:(sumL C fun y=>dlt z y*X y)=X z:=by
   rw[ô hz];have:(sumL (C.erase z) fun y=>dlt z y*X y)=0:=ý _ _ fun y hy=>by
    have:=((hC.mem_erase_iff).mp hy).1;unfold dlt;rw[if_neg this];grind
   rw[this];unfold dlt;rw[if_pos rfl];grind
  rw[e2];have:=hX z hz
  grind
 ·have h:=hw y hy;have e:(sumL C fun z=>w z*(dlt z y - R y z))=sumL C fun z=>dlt y z*w z - R y z*w z:=Û fun z _=>by
   have:dlt z y=dlt y z:=by
    unfold dlt
    by_cases q:y=z
    ·rw[if_pos q,if_pos q.symm]
    ·rw[if_neg q,if_neg fun u=>q u.symm]
   rw[this];grind
  rw[e,Β]at h;have e2:(sumL C fun z=>dlt y z*w z)=w y:=by
   rw[ô hy];have:(sumL (C.erase y) fun z=>dlt y z*w z)=0:=ý _ _ fun z hz=>by
    have:=((hC.mem_erase_iff).mp hz).1;unfold dlt;rw[if_neg this];grind
   rw[this];unfold dlt;rw[if_pos rfl];grind
  rw[e2]at h
  grind
end
end Tc
namespace L2
open PySem PySem.Spec PyProof.Rows
theorem scF {N P:List Str}{sc:Scope}(h1:sc.kind = .function:=by rfl)(h2:sc.isCoroutine=false:=by rfl)(h3:sc.isGenerator=false:=by rfl)(h4:N.Nodup:=by decide +kernel)(h5:N.take P.length=P:=by rfl)(h6:∀x∈P,sc.names.lookup x=some .local \/ sc.names.lookup x=some .cell:=by decide +kernel)(h7:∀y∈sc.names,y.2 ≠ .free:=by decide +kernel):Ë N P sc:=⟨h1,h2,h3,h4,h5,h6,h7⟩
section
variable {X:Cx}{k j:Nat}{ps:List Str}{sp:Sp}{x:Str}{p pos:Pos}{e:Expr}{es:List Expr}{t:TA}
theorem pfn (F:FnAt X.prog X.w X.K X.mg X.base CX0 j x ps sp)(hr:Room k X.A)(ha:PA X (e::es) t)(hg:Gl X x:=by rfl)(hj:j<=k:=by decide)
  (hdb:(x==("__debug__":Str))=false:=by decide)(he:starEach (e::es) X.env=(false,eval e X.env)::starEach es X.env:=by rfl)(hpl:(backTo pos (starEach es X.env)).any (·.1)=false:=by rfl) :
  PE X (.Call (.Name x p) (e::es) [] pos) (xF2 sp [] E0 t):=yY5 F hr hg xT5 ha hj hdb he hpl
end
theorem pixT {X:Cx}{K:Ă}{a b:Expr}{ta tb:TE}{pos:Pos}(ha:PE X a ta)(hb:PE X b tb)(h:X.K=K:=by rfl)(hs:yE4 b:=by exact fun _ _=>rfl):PE X (.Subscript a b pos) (tOp (rIxT K) ta tb):=xG8 (xI5 h) ha hb hs
theorem pixL {X:Cx}{K:Ă}{a b:Expr}{ta tb:TE}{pos:Pos}(ha:PE X a ta)(hb:PE X b tb)(h:X.K=K:=by rfl)(hs:yE4 b:=by exact fun _ _=>rfl):PE X (.Subscript a b pos) (tOp (rIxL K) ta tb):=xG8 (xA1 h) ha hb hs
end L2
namespace Tc
open PySem L2
theorem Κ {l:List (Key×V)}{i:Nat}{k' v:V}(hk:(l.map fun kv=>(kV kv.1,kv.2))[i]?=some (k',v)):∃kvi,l[i]?=some kvi /\ (kV kvi.1,kvi.2)=(k',v):=by
 rw[Ĉ]at hk;cases q:l[i]? with
 | none=>rw[q]at hk;cases hk
 | some kvi=>rw[q]at hk;exact⟨kvi,rfl,Option.some.inj hk⟩
end Tc
namespace L2
open PySem PySem.Spec PyProof.Rows
section
variable {prog:Program}{w:World}{A:Around}{E:Value->Shared->Prop}{s:Shared}
open SeqAt AutoSeq1 MeetsSeq MeetsSeq2 MeetsSeq3 in
theorem xK1 (l b:Addr)(xs ys:Array Value)(n n2:Nat)(dd dd2:Option Addr)(sl sl2:Array (Option Value))(sz:xs.size=ys.size) :
  MeetsIn prog w (Builtin.«tuple.__ne__» ⟨[.ref l,.ref b],[]⟩) (fun A R s=>s.heap.get? l=some { cls:=.type "tuple",dict:=dd,data:=.seq xs n,slots:=sl } /\ s.heap.get? b=some { cls:=.type "tuple",dict:=dd2,data:=.seq ys n2,slots:=sl2 } /\
    (∀j (h1:j<xs.size) (h2:j<ys.size),EqW prog w A.in1 s xs[j] ys[j]) /\ R (.ok (.ret (.bool false))) s):=by
 intro A R s h;obtain⟨hp,g,d,tk,os⟩:=s;obtain⟨hl,hb,he,h⟩:=h;have f2:=AutoSeq1.sub_tuple_tuple;have hZ:(xs.toList.zip ys.toList).length=min xs.size ys.size:=by simp
 wp_walk using AutoSeq1.wpAny_loadPart' hl,AutoSeq1.wpAny_loadPart' hb,wpAny_forIn_list _ (fun rest b s'=>b.1=none /\ s'=⟨hp,g,d,tk,os⟩ /\ ∃i,rest=(xs.toList.zip ys.toList).drop i) _
 case turn =>
  rintro⟨y,x⟩ rest b s' ⟨hb',rfl,i,hz⟩;have hlt:i<(xs.toList.zip ys.toList).length:=by
   rcases Nat.lt_or_ge i (xs.toList.zip ys.toList).length with h' | h'
   ·exact h'
   ·rw[List.drop_of_length_le h']at hz;cases hz
  have hm:i<min xs.size ys.size:=hZ▸hlt;have h1:i<xs.size:=č hm (Nat.min_le_left _ _);have h2:i<ys.size:=č hm (Nat.min_le_right _ _);rw[ľ hlt]at hz;injection hz with hyx hrest;have hy:y=xs[i]:=by have:=congrArg Prod.fst hyx;simpa using this
  have hx:x=ys[i]:=by have:=congrArg Prod.snd hyx;simpa using this
  subst hy hx;refine wpAny_bind (he i h1 h2 _ _ ?_)
  wp_walk
  exact⟨rfl,rfl,i+1,hrest⟩
 case fin =>
  rintro⟨b1,b2⟩ s' ⟨hb',rfl,i,hz⟩;simp only at hb';subst hb'
  wp_walk
  show R (.ok (.ret (.bool _))) _;simpa[Builtin.Tuple.tupleCompareSizes,bne,sz] using h
 case h =>
  exact⟨rfl,rfl,0,rfl⟩
theorem xT0 {l b:Addr}{xs ys:Array Value}{Q:Value->Shared->Prop}(hl:s.heap.IsTuple l xs)(hb:s.heap.IsTuple b ys)(sz:xs.size=ys.size)(hu:A.units<cLine)(he:∀j (h1:j<xs.size) (h2:j<ys.size),EqW prog w A.in1 s xs[j] ys[j])(q:Q (.bool false) s) :
  wpAny (model prog w) A (richCompare .NotEq (.ref l) (.ref b)) Q E s:=by
 obtain⟨⟨cls,dd,data,sl⟩,ho,hc,n,hd⟩:=id hl;obtain⟨⟨cls2,dd2,data2,sl2⟩,ho2,hc2,n2,hd2⟩:=id hb;simp only at hc hd hc2 hd2;subst hc hd hc2 hd2;exact wpAny_richCompare_same_room (op:=.NotEq) ⟨_,ho,rfl⟩ ⟨_,ho2,rfl⟩ F.slot_tuple_ne (call_meetsIn F.slot_tuple_ne ⟨_,ho,rfl⟩ F.entry_tuple_ne (F.args_tuple_ne_2 _ _) (xK1 l b xs ys n n2 dd dd2 sl sl2 sz) ⟨ho,ho2,he,show Value.bool false≠Value.notImplemented /\ Q (.bool false) s from⟨(fun x=>nomatch x),q⟩⟩) hu
end
section
variable {X:Cx}{K:Ă}
noncomputable def AlU (K:Ă)(H:Hp)(x y:V):Prop:=∃a b xs ys,x = .ref a /\ y = .ref b /\ SqT K H a xs /\ SqT K H b ys /\ Paired (AlN K H 3) xs ys
theorem xN2 {k:Nat}(hK:X.K=K)(hr:Room k X.A):OpR X (compareOp .NotEq) (fun x y H Q=>AlU K H x y /\ Q (.bl false) H):=by
 subst hK;intro pins s σ H x y v u Q I rx ry h;obtain⟨⟨a,b,xs,ys,rfl,rfl,ha,hb,hp⟩,q⟩:=h;cases rx;cases ry;obtain⟨its1,r1,p1,_⟩:=I.tuple ha;obtain⟨its2,r2,p2,_⟩:=I.tuple hb;have hu:=hr.un;obtain⟨sz,he⟩:=xV0 (A:=X.A.in1) I (by show X.A.units+1+50<cLine;lia) hp r1 r2;exact xT0 p1 p2 sz (by lia) he ⟨.bl false,H,I,rfl,q⟩
noncomputable def xP5 (tl:TE):TI:=fun σ H R=>tl σ H fun x H1=>∃d ob u,x = .ref d /\ H1 d=some (.frz ob u) /\ isDk u=true /\ ∀ps,Pss H1 u ps->R (ItK d ob u ps) H1
theorem yY4 {tg l:Expr}{tl:TE}(hl:PE X l tl):PI X tg l (xP5 tl):=by
 intro pins s σ H R I h;refine thn (hl pins s σ H _ I h) fun v s1 ⟨x,H1,I1,r1,q1⟩=>?_;obtain⟨d,ob,u,rfl,hd,hu,q⟩:=q1;cases r1;obtain⟨es,ep,ps,g,ex,dat,hs,hps,rel⟩:=I1.rawF hd hu;refine zM1 hs ⟨ob,g,ex,dat⟩ ?_;have I2:Inv X pins σ H1 _:=I1.kept (t':=s1.toks) (h':=s1.heap.push { cls:=.type "dict_keyiterator",data:=.fields #[.ref d,.int 0 0,.int es.size 0,.int ep 0] }) fun b ob e=>ć _ e;refine⟨s1.heap.objs.size,[s1.heap.objs.size],_,_,_,rfl,I2,zU6 ex dat rel,⟨_,ē _ rfl,rfl,rfl⟩,fun b hb=>?_,q ps hps⟩;have e:b=s1.heap.objs.size:=by simpa using hb
 subst e;exact I1.fpOk (ą _) I1.fresh
end
end L2
namespace Tc
open PySem PySem.Spec PyProof.Rows L2
section
variable {X:Cx}{K:Ă}
theorem FrV.one {H:Hp}{v:V}{r q:Rat}(h:FrV H v r)(g:FrV H v q):r=q:=by
 obtain⟨a,rfl,h⟩:=h;obtain⟨b,e,g⟩:=g;have e:=V.ref.inj e;subst e;rw[h]at g;injection g with g;injection g with g;injection g with g1 g2;injection g2 with g2 _;have g1:=V.int.inj g1;have g2:=V.int.inj g2;have g2:r.den=q.den:=by lia
 rw[<- ķ r,<- ķ q,g1,g2]
theorem inF {pins:List (Addr×Obj)}{s:Shared}{σ:L2.St}{H:Hp}{x:V}{v:Value}{xs:List V}{rs:List Rat}{r:Rat}{its:List Value}{A:Around}(I:L2.Inv X pins σ H s)(rx:L2.RelV x v)(hx:FrV H x r)(hP:Paired (FrV H) xs rs)(hv:Vals xs its)(hu:A.units+50<cLine) :
  ∃P:Value->Bool,(∀y,y∈its.toArray->SeqAt.EqAt A s y v (P y)) /\ its.toArray.any P=decide (r∈rs):=by
 classical
 refine⟨fun w=>decide (∃y,RelV y w /\ FrV H y r),fun w hw=>?_,?_⟩
 ·obtain⟨y,hy,ry⟩:=zP9 hv w (by simpa using hw);obtain⟨i,hi,ei⟩:=ě hy;obtain⟨q,hq,fq⟩:=Ξ hP (Ā hi);rw[ei]at fq;obtain⟨as,r1⟩:=RepD.reads I (fq.rep (K:=X.K)) ry;obtain⟨bs,r2⟩:=RepD.reads I (hx.rep (K:=X.K)) rx;have e:=SeqAt.eqAt_reads _ _ A s w v as bs r1 r2 (fq.rep (K:=X.K)).lay (hx.rep (K:=X.K)).lay (by
   have h1:=Ż q.num q.den;have:min (pq q.num q.den).depth (pq r.num r.den).depth<=3:=Č (Nat.min_le_left _ _) (by simp[pq,PyData.depth,PyData.depthAll]);lia)
  rw[zN4,ο]at e;have eP:decide (∃y,RelV y w /\ FrV H y r)=decide (q=r):=by
   by_cases z:q=r
   ·rw[decide_eq_true z];exact decide_eq_true ⟨y,ry,z▸fq⟩
   ·rw[decide_eq_false z];refine decide_eq_false fun⟨y',ry',f'⟩=>z ?_;obtain⟨a,ea,_⟩:=id fq;obtain⟨b,eb,_⟩:=id f';subst ea eb;cases ry;cases ry';exact fq.one f'
  show SeqAt.EqAt A s w v (decide (∃y,RelV y w /\ FrV H y r));rw[eP];exact e
 ·rw[Bool.eq_iff_iff,decide_eq_true_iff];rw[Array.any_eq_true']
  constructor
  ·rintro⟨w,hw,e⟩;obtain⟨y',ry',f'⟩:=of_decide_eq_true e;obtain⟨y,hy,ry⟩:=zP9 hv w (by simpa using hw);obtain⟨i,hi,ei⟩:=ě hy;obtain⟨q,hq,fq⟩:=Ξ hP (Ā hi);rw[ei]at fq;obtain⟨a,ea,_⟩:=id fq;obtain⟨b,eb,_⟩:=id f';subst ea eb;cases ry;cases ry';rw[f'.one fq];exact Ċ hq
  ·intro h;obtain⟨i,hi,ei⟩:=ě h;have hl:xs.length=rs.length:=hP.length;have hix:i<xs.length:=by lia
   obtain⟨q,hq,fq⟩:=Ξ hP (Ā hix);rw[Ā hi,ei]at hq;cases hq;obtain⟨w,hw,rw'⟩:=hv.get (Ā hix);exact⟨w,by simpa using Ċ hw,decide_eq_true ⟨_,rw',fq⟩⟩
theorem xN3 {k:Nat}(hK:X.K=K)(hr:Room k X.A):OpR X (compareOp .In) (fun x y H Q=>∃p xs rs r,y = .ref p /\ SqL K H p xs /\ Paired (FrV H) xs rs /\ FrV H x r /\ Q (.bl (decide (r∈rs))) H):=by
 subst hK;intro pins s σ H x y v u Q I rx ry h;obtain⟨p,xs,rs,r,rfl,hq,hP,hx,q⟩:=h;cases ry;obtain⟨its,r',pl,hz⟩:=I.list hq;have hu:=hr.un;obtain⟨P,h1,h2⟩:=inF (A:=X.A.in1) I rx hx hP r' (by show X.A.units+1+50<cLine;lia);refine SeqAt.in_listAt P pl.isList h1 ⟨.bl (its.toArray.any P),H,I,rfl,?_⟩;rw[h2];exact q
theorem yR1 {k:Nat}(hK:X.K=K)(hr:Room k X.A):OpR X (compareOp .NotIn) (fun x y H Q=>∃p xs rs r,y = .ref p /\ SqL K H p xs /\ Paired (FrV H) xs rs /\ FrV H x r /\ Q (.bl (!decide (r∈rs))) H):=by
 subst hK;intro pins s σ H x y v u Q I rx ry h;obtain⟨p,xs,rs,r,rfl,hq,hP,hx,q⟩:=h;cases ry;obtain⟨its,r',pl,hz⟩:=I.list hq;have hu:=hr.un;obtain⟨P,h1,h2⟩:=inF (A:=X.A.in1) I rx hx hP r' (by show X.A.units+1+50<cLine;lia);refine SeqAt.notIn_listAt P pl.isList h1 ⟨.bl (!its.toArray.any P),H,I,rfl,?_⟩;rw[h2];exact q
end
end Tc
namespace L2
open PySem PySem.Spec PyProof.Rows
section
variable {K:Ă}{σ:St}{H:Hp}{Q:VK}{a:Addr}{xs:List V}{n i j:Int}{x:V}{C:Int->Int->Prop}{g:Int->Int->V}
theorem gL (h:H a=some (.lst xs))(e:atI xs n=some x)(q:Q x H):rIxL K (.ref a) (.int n) H Q:=⟨a,_,_,_,rfl,rfl,SqL.of h,e,q⟩
theorem gT (h:H a=some (.tup xs))(e:atI xs n=some x)(q:Q x H):rIxT K (.ref a) (.int n) H Q:=⟨a,_,_,_,rfl,rfl,SqT.of h,e,q⟩
theorem hL (h:H a=some (.lst xs))(e:atI xs n=some x)(q:Q x H):tC (.int n) σ H fun y H2=>rIxL K (.ref a) y H2 Q:=gL h e q
theorem hT (h:H a=some (.tup xs))(e:atI xs n=some x)(q:Q x H):tC (.int n) σ H fun y H2=>rIxT K (.ref a) y H2 Q:=gT h e q
theorem gI (c:C i j)(q:Q (g i j) H):rI C g (.int i) (.int j) H Q:=⟨_,_,rfl,rfl,c,q⟩
theorem gJ (q:Q (g i j) H):rI0 g (.int i) (.int j) H Q:=⟨_,_,rfl,rfl,q⟩
theorem hI (c:C i j)(q:Q (g i j) H):tC (.int j) σ H fun y H2=>rI C g (.int i) y H2 Q:=gI c q
theorem hJ (q:Q (g i j) H):tC (.int j) σ H fun y H2=>rI0 g (.int i) y H2 Q:=gJ q
end
theorem cutS {a b:TS}{D:Ends}{σ:St}{H:Hp}(h:∀N:St->Hp->Prop,N=b D->a { D with nx:=N } σ H):tSeq a b D σ H:=h _ rfl
theorem stpS {N:St->Hp->Prop}{a b:TS}{D:Ends}{σ:St}{H:Hp}(e:N=tSeq a b D)(h:∀N':St->Hp->Prop,N'=b D->a { D with nx:=N' } σ H):N σ H:=by subst e;exact h _ rfl
end L2
namespace T64
open PySem L2 Tc
noncomputable def top (i:Nat):Stmt:=PySem.Challenge.pw_tiercask_k64_whole_steady_in_the_long_ru.main.body.getD i (.Pass ⟨0,0,0,0⟩)
set_option genInjectivity false in
structure Ca where
 NoNumber:Addr
structure Txt (K:Ă)(mg:Str->Option Value)(ca:Ca):Prop where
 z_abs:mg "abs" = none
 z_any:mg "any" = none
 z_dict:mg "dict" = none
 z_enumerate:mg "enumerate" = none
 z_int:mg "int" = none
 z_isinstance:mg "isinstance" = none
 z_len:mg "len" = none
 z_list:mg "list" = none
 z_range:mg "range" = none
 z_reversed:mg "reversed" = none
 z_sorted:mg "sorted" = none
 z_tuple:mg "tuple" = none
 z_zip:mg "zip" = none
 c_NoNumber:mg "NoNumber" = some (.ref ca.NoNumber)
 e_NoNumber:PySem.W.excIn K ca.NoNumber [.type "ValueError",.type "Exception",.type "BaseException",.type "object"] "ValueError.__new__" = true
 x_NoNumber:ExcK K ca.NoNumber
 i_NoNumber_NoNumber:PySem.W.kitOne K (.ref ca.NoNumber) (.ref ca.NoNumber)=some true
 m_NoNumber_NoNumber:PySem.W.exmOne K (.ref ca.NoNumber) (.ref ca.NoNumber)=some true
structure RowAt (H:Hp)(kvs:List (Key×V))(f:Str->Option Rat):Prop where
 nodup:(kvs.map (·.1)).Nodup
 keys:∀kv∈kvs,∃z,kv.1 = .inr z
 has:∀z r,f z = .some r->∃v,valV kvs (.inr z) = .some v /\ FrV H v r
 not:∀z,f z = .none->valV kvs (.inr z) = .none
theorem RowAt.same {H H':Hp}{kvs:List (Key×V)}{f:Str->Option Rat}(h:RowAt H kvs f)(s:∀v r,FrV H v r->FrV H' v r):RowAt H' kvs f :=
 ⟨h.nodup,h.keys,fun z r e=>(let ⟨v,a,b⟩:=h.has z r e;⟨v,a,s v r b⟩),h.not⟩
theorem RowAt.nil (H:Hp):RowAt H [] fun _=>.none:=⟨List.nodup_nil,(fun _ z=>nomatch z),(fun _ _ e=>nomatch e),fun _ _=>rfl⟩
theorem zG3 (kvs:List (Key×V))(k:Key)(v:V):(putK kvs k v).map (·.1)=if (kvs.any fun kv=>decide (kv.1=k))=true then kvs.map (·.1) else kvs.map (·.1)++[k]:=by
 unfold putK
 split
 ·rw[Ś];apply Ũ;intro kv _;show (if kv.1=k then (kv.1,v) else kv).1=kv.1
  split<;>rfl
 ·rw[Đ];rfl
theorem RowAt.put {H:Hp}{kvs:List (Key×V)}{f:Str->Option Rat}(h:RowAt H kvs f){z:Str}{v:V}{r:Rat}(hv:FrV H v r):RowAt H (putK kvs (.inr z) v) fun y=>if y=z then .some r else f y:=by
 refine⟨?_,?_,fun y q e=>?_,fun y e=>?_⟩
 ·rw[zG3]
  split
  ·exact h.nodup
  ·rename_i hn;refine œ.mpr ⟨h.nodup,by simp,fun a ha b hb e=>hn ?_⟩;have hb:=ė.mp hb;subst hb;obtain⟨kv,hk,ek⟩:=Ė.mp ha;exact List.any_eq_true.mpr ⟨kv,hk,decide_eq_true (ek.trans e)⟩
 ·intro kv hkv;have:kv.1∈(putK kvs (.inr z) v).map (·.1):=Ė.mpr ⟨kv,hkv,rfl⟩;rw[zG3]at this
  split at this
  ·obtain⟨kw,h1,h2⟩:=Ė.mp this;rw[<- h2];exact h.keys kw h1
  ·rcases ĝ.mp this with q | q
   ·obtain⟨kw,h1,h2⟩:=Ė.mp q;rw[<- h2];exact h.keys kw h1
   ·exact⟨z,ė.mp q⟩
 ·rw[zJ9]
  by_cases ey:y=z
  ·subst ey;rw[if_pos rfl]at e ⊢;cases e;exact⟨v,rfl,hv⟩
  ·rw[if_neg ey]at e;rw[if_neg fun q=>ey (Sum.inr.inj q)];exact h.has y q e
 ·rw[zJ9]
  by_cases ey:y=z
  ·subst ey;rw[if_pos rfl]at e;cases e
  ·rw[if_neg ey]at e;rw[if_neg fun q=>ey (Sum.inr.inj q)];exact h.not y e
noncomputable def nmz:Key->Str
 | .inr z=>z
 | .inl _=>""
noncomputable def nms (ks:List (Key×V)):List Str:=ks.map fun kv=>nmz kv.1
theorem ů:∀{ks:List (Key×V)},(ks.map (·.1)).Nodup->∀{i:Nat} {p:Key×V},ks[i]? = .some p->valV ks p.1 = .some p.2
 | [],_,_,_,e=>by simp at e
 | q::qs,hn,0,p,e=>by
  simp at e;subst e;unfold valV;rw[List.find?_cons_of_pos (by simp)];rfl
 | q::qs,hn,i+1,p,e=>by
  have e':qs[i]? = .some p:=by simpa using e
  rw[ĩ,Ĝ]at hn;have ne:q.1≠p.1:=fun z=>hn.1 (by rw[z];exact Ė.mpr ⟨p,Ċ e',rfl⟩);have ih:=ů hn.2 e';unfold valV at ih ⊢;rw[List.find?_cons_of_neg (by simp[ne])];exact ih
theorem zI6 {ks:List (Key×V)}{z:Str}{v:V}(h:valV ks (.inr z) = .some v):z∈nms ks:=by
 unfold valV at h;cases q:ks.find? fun kv=>decide (kv.1 = .inr z) with
 | none=>rw[q]at h;cases h
 | some kv =>
  have h1:=List.mem_of_find?_eq_some q;have h2:=List.find?_some q;refine Ė.mpr ⟨kv,h1,?_⟩;rw[of_decide_eq_true h2];rfl
theorem yR8 {ks:List (Key×V)}(hn:(ks.map (·.1)).Nodup){i:Nat}{p:Key×V}(hp:ks[i]? = .some p){z:Str}(hz:p.1 = .inr z)(hk:∀kv∈ks,∃y,kv.1 = .inr y):z∉nms (ks.take i):=by
 intro h;obtain⟨q,hq,e⟩:=Ė.mp h;obtain⟨j,hj,ej⟩:=ě hq;have hji:j<i:=by rw[ċ]at hj;lia
 have hj2:ks[j]? = .some q:=by
  have:(ks.take i)[j]? = .some q:=by rw[Ā hj,ej]
  rwa [List.getElem?_take_of_lt hji]at this
 obtain⟨y,hy⟩:=hk q (Ċ hj2);have eyz:y=z:=by rw[hy]at e;exact e
 have ek:q.1=p.1:=by rw[hy,eyz,hz]
 have hi:i<ks.length:=(Ą.mp hp).1;have hjl:j<ks.length:=by lia
 have e1:(ks.map (·.1))[j]'(by simpa using hjl)=(ks.map (·.1))[i]'(by simpa using hi):=by
  have a1:ks[j]=q:=by rw[Ā hjl]at hj2;exact Option.some.inj hj2
  have a2:ks[i]=p:=by rw[Ā hi]at hp;exact Option.some.inj hp
  simp[a1,a2,ek]
 exact Ŧ.mp hn j i (by simpa using hjl) (by simpa using hi) hji e1
noncomputable def addF (e s:Str->Option Rat)(t:Rat)(ks:List Str):Str->Option Rat:=fun z=>if z∈ks then .some ((e z).getD 0+(s z).getD 0*t) else e z
noncomputable def zL5:Sp:=fun vs H Q _=>∃(a b:Addr) (x:V) (t:Rat) (kv ks:List (Key×V)) (e s:Str->Option Rat),vs=[.ref a,.ref b,x] /\ a≠b /\ H a=some (.dK kv) /\ H b=some (.dK ks) /\ RowAt H kv e /\ RowAt H ks s /\ FrV H x t /\ Bd 3500 t /\
 (∀z,Bd 3500 ((e z).getD 0) /\ Bd 3500 ((s z).getD 0)) /\ kv.length+ks.length<=900 /\
 ∀H' kv',(∀c o,H c=some o->c≠a->H' c=some o)->H' a=some (.dK kv')->kv'.length<=kv.length+ks.length->RowAt H' kv' (if t=0 then e else fun z=>if (s z).isSome then .some ((e z).getD 0+(s z).getD 0*t) else e z)->Q .non H'
noncomputable def addR (e s:Str->Option Rat)(t:Rat):Str->Option Rat:=if t=0 then e else fun z=>if (s z).isSome then .some ((e z).getD 0+(s z).getD 0*t) else e z
noncomputable def zQ3:Sp:=fun vs H Q _=>∃(rw st ax ay:Addr) (x y:Str) (fr:V) (t:Rat) (rows kx ky:List (Key×V)) (fx fy:Str->Option Rat),vs=[.ref rw,.ref st] /\ H rw=some (.dK rows) /\ H st=some (.tup [.str "pass",.str x,.str y,fr]) /\ FrV H fr t /\
 valV rows (.inr x)=some (.ref ax) /\ H ax=some (.dK kx) /\ RowAt H kx fx /\ valV rows (.inr y)=some (.ref ay) /\ H ay=some (.dK ky) /\ RowAt H ky fy /\ Bd 3500 t /\ Bd 3500 (1 - t) /\
 (∀z,Bd 3500 ((fx z).getD 0) /\ Bd 3500 ((fy z).getD 0) /\ Bd 3500 ((addR (fun _=>none) fx (1 - t) z).getD 0)) /\ kx.length+ky.length<=900 /\
 ∀p H' kv',H p=none->Same H H'->H' p=some (.dK kv')->kv'.length<=kx.length+ky.length->RowAt H' kv' (addR (addR (fun _=>none) fx (1 - t)) fy t)->Q (.ref p) H'
theorem _root_.Tc.FrV.tup {H H':Hp}{v:V}{r:Rat}(h:FrV H v r)(s:∀a xs,H a=some (.tup xs)->H' a=some (.tup xs)):FrV H' v r:=let ⟨a,e,h⟩:=h;⟨a,e,s _ _ h⟩
theorem Ì {H:Hp}{p:Addr}{u o:HO}(hp:H p=some u)(hu:∀xs,u ≠ .tup xs):∀a ys,H a=some (.tup ys)->upd H p o a=some (.tup ys):=fun a ys e=>by
 rw[upd_ne (å e hp (fun z=>hu ys z.symm))];exact e
theorem yR7 {kvs:List (Key×V)}{k:Key}{v:V}(h:(kvs.map (·.1)).Nodup):((putK kvs k v).map (·.1)).Nodup:=by
 rw[zG3]
 split
 ·exact h
 ·rename_i hn;refine œ.mpr ⟨h,by simp,fun a ha b hb e=>hn ?_⟩;have hb:=ė.mp hb;subst hb;obtain⟨kv,hk,ek⟩:=Ė.mp ha;exact List.any_eq_true.mpr ⟨kv,hk,decide_eq_true (ek.trans e)⟩
theorem xI2 {kvs:List (Key×V)}{k:Key}{v:V}{kv:Key×V}(h:kv∈putK kvs k v):kv.1=k \/ ∃kw∈kvs,kw.1=kv.1:=by
 have:kv.1∈(putK kvs k v).map (·.1):=Ė.mpr ⟨kv,h,rfl⟩;rw[zG3]at this
 split at this
 ·obtain⟨kw,h1,h2⟩:=Ė.mp this;exact .inr ⟨kw,h1,h2⟩
 ·rcases ĝ.mp this with q | q
  ·obtain⟨kw,h1,h2⟩:=Ė.mp q;exact .inr ⟨kw,h1,h2⟩
  ·exact .inl (ė.mp q)
theorem â {kvs:List (Key×V)}(h:(kvs.map (·.1)).Nodup)(hk:∀kv∈kvs,∃z,kv.1 = .inr z):(nms kvs).Nodup:=by
 unfold nms List.Nodup;unfold List.Nodup at h;rw[List.pairwise_map]at h ⊢;refine List.Pairwise.imp_of_mem (fun {a b} ha hb hab e=>hab ?_) h;obtain⟨x,hx⟩:=hk a ha;obtain⟨y,hy⟩:=hk b hb;rw[hx,hy]at e ⊢;have e:x=y:=e;rw[e]
theorem Ò (kvs:List (Key×V)):(nms kvs).length=kvs.length:=ā ..
theorem RowAt.iff {H:Hp}{kvs:List (Key×V)}{g:Str->Option Rat}(h:RowAt H kvs g)(z:Str):z∈nms kvs↔(g z).isSome=true:=by
 constructor
 ·intro q;obtain⟨kvi,hm,ez⟩:=Ė.mp q;obtain⟨y,hy⟩:=h.keys kvi hm;obtain⟨j,hj,ej⟩:=ě hm;have hval:=ů h.nodup (i:=j) (p:=kvi) (by rw[Ā hj,ej]);have eyz:y=z:=by rw[hy]at ez;exact ez
  rw[hy,eyz]at hval;cases q2:g z with
  | none=>rw[h.not z q2]at hval;cases hval
  | some r=>rfl
 ·intro q;obtain⟨r,hr⟩:=Option.isSome_iff_exists.mp q;obtain⟨v,h1,_⟩:=h.has z r hr;exact zI6 h1
theorem RowAt.len {H:Hp}{kvs:List (Key×V)}{f:Str->Rat}{L:List Str}(h:RowAt H kvs (op f))(hf:∀z,f z≠0->z∈L):kvs.length<=L.length:=by
 rw[<- Ò];exact Ö (â h.nodup h.keys) fun z hz=>hf z (op_some.mp ((h.iff z).mp hz))
theorem RowAt.len_eq {H H':Hp}{ka kb:List (Key×V)}{g:Str->Option Rat}(h:RowAt H ka g)(h':RowAt H' kb g):ka.length=kb.length:=by
 rw[<- Ò,<- Ò];exact Nat.le_antisymm (Ö (â h.nodup h.keys) fun z hz=>(h'.iff z).mpr ((h.iff z).mp hz)) (Ö (â h'.nodup h'.keys) fun z hz=>(h.iff z).mpr ((h'.iff z).mp hz))
theorem RowAt.getD {H:Hp}{kvs:List (Key×V)}{g:Str->Option Rat}(h:RowAt H kvs g){w:V}(hw:FrV H w 0)(z:Str):FrV H ((valV kvs (.inr z)).getD w) ((g z).getD 0):=by
 cases q:g z with
 | none=>rw[h.not z q];exact hw
 | some r=>obtain⟨v,h1,h2⟩:=h.has z r q;rw[h1];exact h2
theorem RowAt.at {H:Hp}{kvs:List (Key×V)}{g:Str->Option Rat}(h:RowAt H kvs g){i:Nat}{p:Key×V}(hp:kvs[i]?=some p):∃z r,p.1 = .inr z /\ g z=some r /\ FrV H p.2 r /\ z∉nms (kvs.take i) /\ nms (kvs.take (i+1))=nms (kvs.take i)++[z]:=by
 obtain⟨z,hz⟩:=h.keys p (Ċ hp);have hval:=ů h.nodup hp;rw[hz]at hval;refine⟨z,?_⟩;cases q:g z with
 | none=>rw[h.not z q]at hval;cases hval
 | some r =>
  obtain⟨v',h1,h2⟩:=h.has z r q;rw[hval]at h1;cases h1;refine⟨r,hz,rfl,h2,yR8 h.nodup hp hz h.keys,?_⟩;unfold nms;rw[Ŀ,hp,Đ];show _++[nmz p.1]=_;rw[hz];rfl
theorem RowAt.unit {H:Hp}{f:Addr}(n:Str)(h:FrV H (.ref f) 1):RowAt H (ζ [] [(.inr n,.ref f)]) (op (dlt n)):=by
 have e:(fun y=>if y=n then some (1:Rat) else (fun _=>none:Str->Option Rat) y)=op (dlt n):=by
  funext y
  unfold op dlt
  by_cases q:y=n
  ·rw[if_pos q,if_pos q,if_neg (by decide)]
  ·rw[if_neg q,if_neg q,if_pos rfl]
 rw[<- e];exact(RowAt.nil H).put (z:=n) h
theorem zT8 {g f:Str->Rat}{t:Rat}(hg:∀z,0<=g z)(hf:∀z,0<=f z)(ht:0<=t):addR (op g) (op f) t=op fun z=>g z+f z*t:=by
 unfold addR
 split
 ·rename_i e;subst e
  congr 1
  funext z
  rw[ś,Ŝ]
 ·rename_i e
  funext z
  by_cases q:f z=0
  ·have n:¬(op f z).isSome=true:=fun h=>op_some.mp h q;rw[if_neg n];have e2:g z+f z*t=g z:=by rw[q,ň,Ŝ]
   show op g z=op (fun z=>g z+f z*t) z;unfold op;show _=if g z+f z*t=0 then none else some (g z+f z*t);rw[e2]
  ·rw[if_pos (op_some.mpr q),ξ,ξ];have h1:0<f z*t:=Rat.mul_pos (zP1 (hf z) q) (zP1 ht e);have n:g z+f z*t≠0:=by have:=hg z;grind
   show _=if g z+f z*t=0 then none else some (g z+f z*t);rw[if_neg n]
inductive Stp where
 | br (z:Str) (yr:Int) (x:Str) (q:Rat)
 | ps (x y:Str) (t:Rat)
noncomputable abbrev Lay (z:Str):Prop:=(PyData.str z).canLay0=true
noncomputable def bwS:Stp->(Str->Str->Rat)->(Str->Str->Rat)
 | .br _ _ _ _,R=>R
 | .ps x y t,R=>bw x y t R
noncomputable def fwS:Stp->(Str->Rat)->(Str->Rat)
 | .br _ _ _ _,v=>v
 | .ps x y t,v=>fw x y t v
noncomputable def dnS:Stp->Nat
 | .br _ _ _ _=>1
 | .ps _ _ t=>t.den
noncomputable def OkS (L:List Str):Stp->Prop
 | .br z _ x _=>x∈L /\ Lay z
 | .ps x y t=>x∈L /\ y∈L /\ x≠y /\ 0<=t /\ t<=1 /\ t.den<2^40
noncomputable def ε (R:Str->Str->Rat):List Stp->Str->Str->Rat
 | []=>R
 | s::ss=>bwS s (ε R ss)
noncomputable def back (ss:List Stp):Str->Str->Rat:=ε dlt ss
noncomputable def Ð:List Stp->Nat
 | []=>1
 | s::ss=>Ð ss*dnS s
theorem zP8 (R:Str->Str->Rat)(s:Stp):∀ss:List Stp,ε R (ss++[s])=ε (bwS s R) ss
 | []=>rfl
 | a::ss=>by
  show bwS a (ε R (ss++[s]))=bwS a (ε (bwS s R) ss);rw[zP8 R s ss]
theorem zT6 (x y:Str)(t:Rat)(R:Str->Str->Rat):∀ss:List Stp,ε (fun n=>fw x y t (R n)) ss=fun n=>fw x y t (ε R ss n)
 | []=>rfl
 | .br _ _ _ _::ss=>zT6 x y t R ss
 | .ps x' y' t'::ss=>by
  show bw x' y' t' (ε (fun n=>fw x y t (R n)) ss)=fun n=>fw x y t (bw x' y' t' (ε R ss) n);rw[zT6 x y t R ss,xU9]
theorem zO1 {L:List Str}(ss:List Stp){s:Stp}(h:OkS L s):back (ss++[s])=fun n=>fwS s (back ss n):=by
 unfold back;rw[zP8];cases s with
 | br _ _ _ _=>rfl
 | ps x y t =>
  show ε (bw x y t dlt) ss=fun n=>fw x y t (ε dlt ss n);rw[xR0 t h.2.2.1,zT6]
theorem ø {L:List Str}(hn:L.Nodup):∀{ss:List Stp},(∀s∈ss,OkS L s)->Good L (Ð ss) (back ss)
 | [],_=>Good.dlt hn
 | .br _ _ _ _::ss,h=>by
  have g:=ø hn (ss:=ss) fun s hs=>h s (ă _ hs);show Good L (Ð ss*1) (back ss);rw[Nat.mul_one];exact g
 | .ps x y t::ss,h=>by
  have g:=ø hn (ss:=ss) fun s hs=>h s (ă _ hs);obtain⟨hx,hy,_,h0,h1,_⟩:=h _ Ć;exact g.bw hx hy h0 h1
theorem xJ5:∀s:Stp,0<dnS s
 | .br _ _ _ _=>Nat.one_pos
 | .ps _ _ t=>t.den_pos
theorem xQ3 {L:List Str}:∀{s:Stp},OkS L s->dnS s<=2^40
 | .br _ _ _ _,_=>Nat.one_le_two_pow
 | .ps _ _ _,h=>Ş h.2.2.2.2.2
theorem Ų:∀ss:List Stp,0<Ð ss
 | []=>Nat.one_pos
 | s::ss=>Ņ (Ų ss) (xJ5 s)
theorem yG6 {L:List Str}:∀{ss:List Stp},(∀s∈ss,OkS L s)->Ð ss<2^(40*ss.length+1)
 | [],_=>by decide
 | s::ss,h=>by
  have g:=yG6 (ss:=ss) fun s hs=>h s (ă _ hs);have e:40*(s::ss).length+1=(40*ss.length+1)+40:=by rw[ğ];lia
  rw[e,ī];exact Nat.mul_lt_mul_of_lt_of_le g (xQ3 (h s Ć)) (Nat.two_pow_pos _)
theorem _root_.Tc.IsM.bd {P k n:Nat}{r:Rat}(hP:0<P)(hk:1<=k)(hb:k*P<2^n)(h:IsM P k r):Bd n r:=by
 obtain⟨m,hm,rfl⟩:=h.eq hP;refine Bd.divInt (by lia) ?_ ?_
 ·show m<2^n;lia
 ·show P<2^n;have:=Ĕ P hk;lia
theorem zR1 {L:List Str}{ss:List Stp}(h:∀s∈ss,OkS L s)(hl:ss.length<=64){k:Nat}(hk:k<=16):k*Ð ss<2^2600:=by
 have h1:=yG6 h;have h2:2^(40*ss.length+1)<=2^2561:=þ (by lia);have h3:k*Ð ss<2^4*2^2561:=ď (Ĕ _ hk) (Nat.mul_lt_mul_of_pos_left (č h1 h2) (by decide));rw[<- ī]at h3;exact č h3 (þ (by decide))
theorem _root_.Tc.Bd.share {t:Rat}(h0:0<=t)(h1:t<=1)(hd:t.den<2^40):Bd 50 t /\ Bd 50 (1 - t):=by
 have a:=(IsM.one 1).mulL h0 h1;have b:=(IsM.one 1).mulR h0 h1;rw[Rat.one_mul,Ŕ]at a b;have hb:1*t.den<2^50:=č (by lia) (þ (m:=40) (by decide));exact⟨a.bd t.den_pos (ą _) hb,b.bd t.den_pos (ą _) hb⟩
noncomputable def StV (H:Hp)(v:V):Stp->Prop
 | .br z yr x q=>∃a l f,v = .ref a /\ H a=some (.tup [.str "bring",.ref l,.str x,f]) /\ H l=some (.tup [.str z,.int yr]) /\ FrV H f q
 | .ps x y t=>∃a f,v = .ref a /\ H a=some (.tup [.str "pass",.str x,.str y,f]) /\ FrV H f t
theorem StV.tup {H H':Hp}(s:∀a xs,H a=some (.tup xs)->H' a=some (.tup xs)):∀{v:V} {st:Stp},StV H v st->StV H' v st
 | _,.br _ _ _ _,⟨a,l,f,e,h1,h2,h3⟩=>⟨a,l,f,e,s _ _ h1,s _ _ h2,h3.tup s⟩
 | _,.ps _ _ _,⟨a,f,e,h1,h3⟩=>⟨a,f,e,s _ _ h1,h3.tup s⟩
theorem StV.same {H H':Hp}{v:V}{st:Stp}(h:StV H v st)(s:Same H H'):StV H' v st:=h.tup fun _ _ e=>s _ _ e
theorem õ {H H':Hp}{xs:List V}{ss:List Stp}(h:Paired (StV H) xs ss)(s:Same H H'):Paired (StV H') xs ss:=Paired.mapP h fun _ _ f=>f.same s
structure TabAt (H0 H:Hp)(rw:Addr)(rows:List (Key×V))(L:List Str)(R:Str->Str->Rat)(ad:Str->Addr):Prop where
 nodup:(rows.map (·.1)).Nodup
 keys:∀kv∈rows,∃z,kv.1 = .inr z /\ z∈L
 row:∀n∈L,valV rows (.inr n)=some (.ref (ad n)) /\ H0 (ad n)=none /\ ∃kvs,H (ad n)=some (.dK kvs) /\ RowAt H kvs (op (R n))
 inj:∀n∈L,∀m∈L,ad n=ad m->n=m
 apart:∀n∈L,ad n≠rw
theorem TabAt.nil (H0 H:Hp)(rw:Addr)(R:Str->Str->Rat)(ad:Str->Addr):TabAt H0 H rw [] [] R ad:=⟨List.nodup_nil,(fun _ z=>nomatch z),(fun _ z=>nomatch z),(fun _ z=>nomatch z),fun _ z=>nomatch z⟩
theorem TabAt.same {H0 H H':Hp}{rw:Addr}{rows:List (Key×V)}{L:List Str}{R:Str->Str->Rat}{ad:Str->Addr}(T:TabAt H0 H rw rows L R ad)(s:Same H H'):TabAt H0 H' rw rows L R ad :=
 ⟨T.nodup,T.keys,fun n hn=>(let ⟨a,b,kvs,c,d⟩:=T.row n hn;⟨a,b,kvs,s _ _ c,d.same fun _ _ f=>f.same s⟩),T.inj,T.apart⟩
theorem TabAt.len {H0 H:Hp}{rw:Addr}{rows:List (Key×V)}{L:List Str}{R:Str->Str->Rat}{ad:Str->Addr}(T:TabAt H0 H rw rows L R ad)(hn:L.Nodup):rows.length=L.length:=by
 rw[<- Ò];refine Nat.le_antisymm (Ö (â T.nodup fun kv h=>(let ⟨z,e,_⟩:=T.keys kv h;⟨z,e⟩)) fun z hz=>?_) (Ö hn fun z hz=>zI6 (T.row z hz).1);obtain⟨kv,h1,h2⟩:=Ė.mp hz;obtain⟨y,h3,h4⟩:=T.keys kv h1;rw[h3]at h2;have h2:y=z:=h2;rw[<- h2];exact h4
theorem TabAt.put {H0 H H':Hp}{rw:Addr}{rows:List (Key×V)}{L L':List Str}{R R':Str->Str->Rat}{ad:Str->Addr}(T:TabAt H0 H rw rows L R ad){n:Str}{q:Addr}{kvs:List (Key×V)}(hq0:H0 q=none)(hq:H q=none)(hqr:q≠rw)
  (hk:∀c o,H c=some o->c≠rw->H' c=some o)(hH:∀v r,FrV H v r->FrV H' v r)(hr:H' q=some (.dK kvs))(row:RowAt H' kvs (op (R' n)))(hR:∀m∈L,m≠n->R' m=R m)(hL:∀z,z∈L'↔z∈L \/ z=n) :
  TabAt H0 H' rw (putK rows (.inr n) (.ref q)) L' R' (fun z=>if z=n then q else ad z):=by
 have old:∀m,m∈L'->m≠n->m∈L:=fun m hm e=>by
  rcases (hL m).mp hm with z | z
  ·exact z
  ·exact absurd z e
 have ne:∀m∈L,ad m≠q:=fun m hm e=>by
  obtain⟨_,_,kv,c,_⟩:=T.row m hm;rw[e,hq]at c;cases c
 refine⟨yR7 T.nodup,fun kv h=>?_,fun m hm=>?_,fun m hm l hl e=>?_,fun m hm=>?_⟩
 ·rcases xI2 h with e | ⟨kw,h1,h2⟩
  ·exact⟨n,e,(hL n).mpr (.inr rfl)⟩
  ·obtain⟨z,e,hz⟩:=T.keys kw h1;exact⟨z,h2▸e,(hL z).mpr (.inl hz)⟩
 ·rw[zJ9]
  by_cases e:m=n
  ·subst e;rw[if_pos rfl,if_pos rfl];exact⟨rfl,hq0,kvs,hr,row⟩
  ·obtain⟨a,b,kv,c,d⟩:=T.row m (old m hm e);rw[if_neg fun z=>e (Sum.inr.inj z),if_neg e];refine⟨a,b,kv,hk _ _ c (T.apart m (old m hm e)),?_⟩;rw[hR m (old m hm e) e];exact d.same hH
 ·by_cases e1:m=n
  ·by_cases e2:l=n
   ·rw[e1,e2]
   ·rw[if_pos e1,if_neg e2]at e;exact absurd e.symm (ne l (old l hl e2))
  ·by_cases e2:l=n
   ·rw[if_neg e1,if_pos e2]at e;exact absurd e (ne m (old m hm e1))
   ·rw[if_neg e1,if_neg e2]at e;exact T.inj m (old m hm e1) l (old l hl e2) e
 ·by_cases e1:m=n
  ·rw[if_pos e1];exact hqr
  ·rw[if_neg e1];exact T.apart m (old m hm e1)
noncomputable def zL2 (K:Ă):Sp:=fun vs H Q _=>∃(an:Addr) (L:List Str),vs=[.ref an] /\ SqL K H an (L.map V.str) /\ L.Nodup /\ L.length<=8 /\ ∀p H' rows ad,H p=none->Same H H'->H' p=some (.dK rows)->TabAt H H' p rows L dlt ad->Q (.ref p) H'
noncomputable def xL0 (K:Ă):Sp:=fun vs H Q _=>∃(an as:Addr) (L:List Str) (xs:List V) (ss:List Stp),vs=[.ref an,.ref as] /\ SqL K H an (L.map V.str) /\ L.Nodup /\ L.length<=8 /\ SqL K H as xs /\ Paired (StV H) xs ss /\ (∀s∈ss,OkS L s) /\ ss.length<=64 /\
 ∀p H' rows ad,H p=none->Same H H'->H' p=some (.dK rows)->TabAt H H' p rows L (back ss) ad->Q (.ref p) H'
theorem _root_.Tc.IsM.mono {P k j:Nat}{r:Rat}(h:IsM P k r)(hk:k<=j):IsM P j r:=by
 obtain⟨a,m,b,c⟩:=h;exact⟨a,m,Č b (Ĕ _ hk),c⟩
theorem zQ1 {P:Nat}{f:Str->Rat}(h:∀z,IsM P 1 (f z)):∀l:List Str,IsM P l.length (sumL l f)
 | []=>IsM.zero P 0
 | z::l=>by
  rw[Ê,Rat.add_comm];exact(zQ1 h l).add (h z)
theorem zH0 {L:List Str}{i:Nat}{x:V}(h:(L.map V.str)[i]?=some x):∃n,x = .str n /\ L[i]?=some n:=by
 rw[Ĉ]at h;cases q:L[i]? with
 | none=>rw[q]at h;cases h
 | some n=>rw[q]at h;exact⟨n,(Option.some.inj h).symm,rfl⟩
theorem zG1 {L:List Str}{i:Nat}{n:Str}(h:L[i]?=some n)(z:Str):z∈L.take (i+1)↔z∈L.take i \/ z=n:=by
 rw[Ŀ,h];simp
inductive Plc where
 | ck (z:Str) (r:Rat)
 | sk (z:Str)
noncomputable def nmP:Plc->Str
 | .ck z _=>z
 | .sk z=>z
noncomputable def isC:Plc->Bool
 | .ck _ _=>true
 | .sk _=>false
noncomputable def kd (b:Bool):Str:=if b then "cask" else "sink"
noncomputable def PlV (H:Hp)(v:V):Plc->Prop
 | .ck z r=>∃a f,v = .ref a /\ H a=some (.tup [.str "cask",.str z,f]) /\ FrV H f r
 | .sk z=>∃a,v = .ref a /\ H a=some (.tup [.str "sink",.str z])
theorem PlV.tup {H H':Hp}(s:∀a xs,H a=some (.tup xs)->H' a=some (.tup xs)):∀{v:V} {p:Plc},PlV H v p->PlV H' v p
 | _,.ck _ _,⟨a,f,e,h1,h2⟩=>⟨a,f,e,s _ _ h1,h2.tup s⟩
 | _,.sk _,⟨a,e,h1⟩=>⟨a,e,s _ _ h1⟩
theorem PlV.same {H H':Hp}{v:V}{p:Plc}(h:PlV H v p)(s:Same H H'):PlV H' v p:=h.tup fun _ _ e=>s _ _ e
theorem PlV.at {H:Hp}:∀{v:V} {p:Plc},PlV H v p->∃a ys,v = .ref a /\ H a=some (.tup ys) /\ atI ys 0=some (.str (kd (isC p))) /\ atI ys 1=some (.str (nmP p))
 | _,.ck _ _,⟨a,f,e,h1,h2⟩=>⟨a,_,e,h1,rfl,rfl⟩
 | _,.sk _,⟨a,e,h1⟩=>⟨a,_,e,h1,rfl,rfl⟩
theorem à {H H':Hp}{xs:List V}{ps:List Plc}(h:Paired (PlV H) xs ps)(s:Same H H'):Paired (PlV H') xs ps:=Paired.mapP h fun _ _ f=>f.same s
noncomputable def allN (ps:List Plc):List Str:=ps.map nmP
noncomputable def ckN (ps:List Plc):List Str:=(ps.filter isC).map nmP
structure HouseOk (ps:List Plc):Prop where
 nd:(allN ps).Nodup
 lay:∀z∈allN ps,Lay z
 len:ps.length<=8
theorem Ó {ps:List Plc}{z:Str}(h:z∈ckN ps):z∈allN ps:=by
 obtain⟨p,hp,e⟩:=Ė.mp h;exact Ė.mpr ⟨p,(ĸ.mp hp).1,e⟩
theorem HouseOk.ck {ps:List Plc}(h:HouseOk ps):(ckN ps).Nodup:=h.nd.sublist (List.filter_sublist.map nmP)
theorem yI4 {ps:List Plc}:(ckN ps).length<=ps.length:=by
 unfold ckN;rw[ā];exact š _ _
noncomputable def resC (C:List Str)(R:Str->Str->Rat):Str->Str->Rat:=fun n z=>if z∈C then R n z else 0
noncomputable def all (L:List Str)(f:Str->Rat):Str->Option Rat:=fun z=>if z∈L then some (f z) else none
theorem Α (L:List Str)(f:Str->Rat)(n:Str):all (L++[n]) f=fun y=>if y=n then some (f n) else all L f y:=by
 funext y
 unfold all
 by_cases e:y=n
 ·subst e;simp
 ·simp[e]
theorem Τ (f:Str->Rat):all [] f=fun _=>none:=by funext z;simp[all]
noncomputable def zL3 (K:Ă):Sp:=fun vs H Q _=>∃(a:Addr) (xs:List V) (ps:List Plc),vs=[.ref a] /\ SqL K H a xs /\ Paired (PlV H) xs ps /\ ps.length<=8 /\ ∀p H',H p=none->Same H H'->H' p=some (.lst ((allN ps).map V.str))->Q (.ref p) H'
noncomputable def zL4 (K:Ă):Sp:=fun vs H Q _=>∃(a:Addr) (xs:List V) (ps:List Plc),vs=[.ref a] /\ SqL K H a xs /\ Paired (PlV H) xs ps /\ ps.length<=8 /\ ∀p H',H p=none->Same H H'->H' p=some (.lst ((ckN ps).map V.str))->Q (.ref p) H'
noncomputable def yN2 (K:Ă):Sp:=fun vs H Q _=>∃(a b:Addr) (kv:List (Key×V)) (C:List Str) (f:Str->Rat),vs=[.ref a,.ref b] /\ H a=some (.dK kv) /\ RowAt H kv (op f) /\ SqL K H b (C.map V.str) /\ C.length<=8 /\
 ∀p H' kv',H p=none->Same H H'->H' p=some (.dK kv')->RowAt H' kv' (op fun z=>if z∈C then f z else 0)->Q (.ref p) H'
noncomputable def zB9 (K:Ă):Sp:=fun vs H Q _=>∃(ah as:Addr) (xs:List V) (ps:List Plc) (ys:List V) (ss:List Stp),vs=[.ref ah,.ref as] /\ SqL K H ah xs /\ Paired (PlV H) xs ps /\ HouseOk ps /\ SqL K H as ys /\ Paired (StV H) ys ss /\ (∀s∈ss,OkS (allN ps) s) /\ ss.length<=40 /\
 ∀p H' rows ad,H p=none->Same H H'->H' p=some (.dK rows)->TabAt H H' p rows (ckN ps) (resC (ckN ps) (back ss)) ad->Q (.ref p) H'
theorem xN0 {f:Str->Rat}{C:List Str}{n:Str}(hf:f n≠0):(fun y=>if y=n then some (f n) else op (fun z=>if z∈C then f z else 0) y)=op fun z=>if z∈C++[n] then f z else 0:=by
 funext y
 by_cases e:y=n
 ·subst e;simp[op,hf]
 ·simp[op,e]
theorem xH2 {f:Str->Rat}{C:List Str}{n:Str}(hf:f n=0):(op fun z=>if z∈C then f z else 0)=op fun z=>if z∈C++[n] then f z else 0:=by
 funext y
 by_cases e:y=n
 ·subst e;simp[op,hf]
 ·simp[op,e]
theorem Ø {α:Type}{L:List α}{i:Nat}{n:α}(h:L[i]?=some n):L.take (i+1)=L.take i++[n]:=by rw[Ŀ,h];rfl
theorem TabAt.mem {H0 H:Hp}{rw:Addr}{rows:List (Key×V)}{L L':List Str}{R:Str->Str->Rat}{ad:Str->Addr}(T:TabAt H0 H rw rows L R ad)(h:∀z,z∈L'↔z∈L):TabAt H0 H rw rows L' R ad :=
 ⟨T.nodup,fun kv hk=>(let ⟨z,e,m⟩:=T.keys kv hk;⟨z,e,(h z).mpr m⟩),fun n hn=>T.row n ((h n).mp hn),fun n hn m hm e=>T.inj n ((h n).mp hn) m ((h m).mp hm) e,fun n hn=>T.apart n ((h n).mp hn)⟩
theorem yB2 {α β:Type}{F:α->β->Prop}{xs:List α}{ys:List β}(h:Paired F xs ys){y:β}(hy:y∈ys):∃x,x∈xs /\ F x y:=by
 induction h with
 | nil=>cases hy
 | cons r t ih =>
  rcases Ē.mp hy with e | e
  ·exact⟨_,Ć,e▸r⟩
  ·obtain⟨x,h1,h2⟩:=ih e;exact⟨x,ă _ h1,h2⟩
theorem yK2 {α β:Type}{F G:α->β->Prop}{xs:List α}{ys:List β}(h:Paired F xs ys)(k:∀x y,y∈ys->F x y->G x y):Paired G xs ys:=by
 induction h with
 | nil=>exact .nil
 | cons r t ih=>exact .cons (k _ _ Ć r) (ih fun x y hy f=>k x y (ă _ hy) f)
set_option genInjectivity false in
structure Br where
 z:Str
 yr:Int
 q:Rat
 g:Str->Rat
noncomputable def brL:List Stp->List Br
 | []=>[]
 | .br z yr x q::ss=>⟨z,yr,q,back ss x⟩::brL ss
 | .ps _ _ _::ss=>brL ss
noncomputable def adv (s:Stp)(b:Br):Br:=⟨b.z,b.yr,b.q,fwS s b.g⟩
noncomputable def newB:Stp->List Br
 | .br z yr x q=>[⟨z,yr,q,dlt x⟩]
 | .ps _ _ _=>[]
theorem zT4 {L:List Str}(s:Stp)(h:OkS L s):∀ss:List Stp,brL (ss++[s])=(brL ss).map (adv s)++newB s
 | []=>by cases s<;>rfl
 | .br z yr x q::ss=>by
  show (⟨z,yr,q,back (ss++[s]) x⟩:Br)::brL (ss++[s])=_;rw[zT4 s h ss,zO1 ss h];rfl
 | .ps _ _ _::ss=>zT4 s h ss
theorem zO0:∀ss:List Stp,(brL ss).length<=ss.length
 | []=>ą _
 | .br _ _ _ _::ss=>Nat.succ_le_succ (zO0 ss)
 | .ps _ _ _::ss=>Nat.le_succ_of_le (zO0 ss)
theorem yD8 {L:List Str}:∀{ss:List Stp},(∀s∈ss,OkS L s)->∀b∈brL ss,∃n x,x∈L /\ b.g=back (ss.drop n) x
 | .br z yr x q::ss,h,b,hb=>by
  rcases Ē.mp hb with e | e
  ·exact⟨1,x,(h _ Ć).1,by rw[e];rfl⟩
  ·obtain⟨n,y,hy,eg⟩:=yD8 (ss:=ss) (fun s hs=>h s (ă _ hs)) b e;exact⟨n+1,y,hy,eg⟩
 | .ps _ _ _::ss,h,b,hb=>by
  obtain⟨n,y,hy,eg⟩:=yD8 (ss:=ss) (fun s hs=>h s (ă _ hs)) b hb;exact⟨n+1,y,hy,eg⟩
noncomputable def BrV (H:Hp)(v:V)(bd:Br×Addr):Prop:=∃a l f kvs,v = .ref a /\ H a=some (.tup [.ref l,f,.ref bd.2]) /\ H l=some (.tup [.str bd.1.z,.int bd.1.yr]) /\ FrV H f bd.1.q /\ H bd.2=some (.dK kvs) /\ RowAt H kvs (op bd.1.g)
theorem BrV.keep {H H':Hp}{v:V}{bd:Br×Addr}(h:BrV H v bd)(s:∀a xs,H a=some (.tup xs)->H' a=some (.tup xs))(d:∀kvs,H bd.2=some (.dK kvs)->H' bd.2=some (.dK kvs)):BrV H' v bd:=by
 obtain⟨a,l,f,kvs,e,h1,h2,h3,h4,h5⟩:=h;exact⟨a,l,f,kvs,e,s _ _ h1,s _ _ h2,h3.tup s,d _ h4,h5.same fun v r g=>g.tup s⟩
noncomputable def zV4 (K:Ă):Sp:=fun vs H Q _=>∃(an as:Addr) (L:List Str) (xs:List V) (ss:List Stp),vs=[.ref an,.ref as] /\ SqL K H an (L.map V.str) /\ L.Nodup /\ L.length<=8 /\ SqL K H as xs /\ Paired (StV H) xs ss /\ (∀s∈ss,OkS L s) /\ ss.length<=64 /\
 ∀p H' ys tds,H p=none->Same H H'->H' p=some (.lst ys)->Paired (BrV H') ys tds->tds.map (·.1)=brL ss->(tds.map (·.2)).Nodup->(∀d∈tds.map (·.2),H d=none)->Q (.ref p) H'
noncomputable def Tm:Stp->Prop
 | .br _ _ _ q=>IsM 120 120 q
 | .ps _ _ t=>t.den<=1024
noncomputable def OkT (L:List Str)(s:Stp):Prop:=OkS L s /\ Tm s
noncomputable def stB (b:Bool):Stp->(Str->Rat)->(Str->Rat)
 | .br _ _ x q,f=>if b then fun z=>if z=x then f x+q else f z else f
 | .ps x y t,f=>fw x y t f
noncomputable def ledB (b:Bool)(ss:List Stp)(f:Str->Rat):Str->Rat:=ss.foldl (fun g s=>stB b s g) f
theorem yZ6 {b:Bool}{ss:List Stp}{f:Str->Rat}{j:Nat}{s:Stp}(h:ss[j]?=some s):ledB b (ss.take (j+1)) f=stB b s (ledB b (ss.take j) f):=by
 unfold ledB;rw[Ø h,Ţ];rfl
theorem yM5 {α:Type}(l:List α)(a p q:α->Rat)(t u:Rat):∀(_:DecidableEq α),(sumL l fun i=>a i*(p i*u+q i*t))=(sumL l fun i=>a i*p i)*u+(sumL l fun i=>a i*q i)*t:=by
 intro inst
 induction l with
 | nil=>simp only[ü];grind
 | cons x l ih=>rw[Ê,Ê,Ê,ih];grind
theorem xD6 {α:Type}(l:List α)(a:α->Rat)(g:α->Str->Rat)(x y:Str)(t:Rat)(z:Str):fw x y t (fun z=>sumL l fun i=>a i*g i z) z=sumL l fun i=>a i*fw x y t (g i) z:=by
 unfold fw;have inst:DecidableEq α:=fun a b=>Classical.propDecidable (a=b)
 by_cases e:z=y
 ·rw[if_pos e];have:=yM5 l a (fun i=>g i y) (fun i=>g i x) t 1 inst;have e2:(sumL l fun i=>a i*if z=y then g i y+g i x*t else if z=x then g i x - g i x*t else g i z)=sumL l fun i=>a i*(g i y*1+g i x*t):=by
   congr 1
   funext i
   rw[if_pos e];grind
  rw[e2,this];grind
 ·rw[if_neg e]
  by_cases e1:z=x
  ·rw[if_pos e1];have:=yM5 l a (fun i=>g i x) (fun i=>g i x) (-t) 1 inst;have e2:(sumL l fun i=>a i*if z=y then g i y+g i x*t else if z=x then g i x - g i x*t else g i z)=sumL l fun i=>a i*(g i x*1+g i x*(-t)):=by
    congr 1
    funext i
    rw[if_neg e,if_pos e1];grind
   rw[e2,this];grind
  ·rw[if_neg e1];show (sumL l fun i=>a i*g i z)=_
   congr 1
   funext i
   rw[if_neg e,if_neg e1]
theorem xP9 (f g:Str->Rat)(x y:Str)(t:Rat)(z:Str):fw x y t (fun z=>f z+g z) z=fw x y t f z+fw x y t g z:=by
 unfold fw
 split
 ·grind
 ·split<;>grind
noncomputable def bTs (ss:List Stp)(z:Str):Rat:=sumL (brL ss) fun b=>b.q*b.g z
theorem xB5 {L:List Str}{ss:List Stp}{s:Stp}(h:OkS L s)(z:Str):bTs (ss++[s]) z=stB true s (bTs ss) z:=by
 have inst:DecidableEq Br:=fun a b=>Classical.propDecidable (a=b);unfold bTs;rw[zT4 s h ss];have e1:∀(l m:List Br) (f:Br->Rat),sumL (l++m) f=sumL l f+sumL m f:=fun l m f=>by
  induction l with
  | nil=>rw[List.nil_append,ü,Ŋ]
  | cons a l ih=>rw[List.cons_append,Ê,Ê,ih,Rat.add_assoc]
 have e2:∀(l:List Br) (f:Br->Rat),sumL (l.map (adv s)) f=sumL l fun b=>f (adv s b):=fun l f=>by
  unfold sumL;rw[Ś];rfl
 rw[e1,e2];cases s with
 | br z0 yr x q =>
  show (sumL (brL ss) fun b=>b.q*b.g z)+sumL [(⟨z0,yr,q,dlt x⟩:Br)] (fun b=>b.q*b.g z)=if z=x then bTs ss x+q else bTs ss z;rw[Ê,ü];show _+(q*dlt x z+0)=_;unfold dlt
  by_cases e:z=x
  ·subst e;rw[if_pos rfl,if_pos rfl];unfold bTs;grind
  ·rw[if_neg e,if_neg e];unfold bTs;grind
 | ps x y t =>
  show (sumL (brL ss) fun b=>b.q*fw x y t b.g z)+sumL ([]:List Br) _=fw x y t (bTs ss) z;rw[ü,Ŝ];exact(xD6 (brL ss) (fun b=>b.q) (fun b=>b.g) x y t z).symm
theorem yH1 {L:List Str}{ss:List Stp}(hn:L.Nodup)(hO:∀s∈ss,OkS L s)(b:Bool)(f:Str->Rat):∀j,j<=ss.length->∀z∈L,ledB b (ss.take j) f z=(sumL L fun n=>f n*back (ss.take j) n z)+if b then bTs (ss.take j) z else 0
 | 0,_,z,hz=>by
  show f z=_;have e1:(sumL L fun n=>f n*back (ss.take 0) n z)=f z:=by
   rw[Ň];show (sumL L fun n=>f n*dlt n z)=_;rw[ô hz];have:sumL (L.erase z) (fun n=>f n*dlt n z)=0:=ý _ _ fun n hm=>by
    have:=((hn.mem_erase_iff).mp hm).1;unfold dlt;rw[if_neg fun e=>this e.symm,ś]
   rw[this];unfold dlt;rw[if_pos rfl];grind
  have e2:(if b then bTs (ss.take 0) z else 0)=0:=by
   rw[Ň];cases b<;>rfl
  rw[e1,e2,Ŝ]
 | j+1,hj,z,hz=>by
  obtain⟨s,hs⟩:∃s,ss[j]?=some s:=⟨_,Ā (by lia)⟩;have ok:=hO s (Ċ hs);have ih:=yH1 hn hO b f j (by lia);have es:=zO1 (ss.take j) ok;rw[<- Ø hs]at es;rw[yZ6 hs,es];have eb:∀z,bTs (ss.take (j+1)) z=stB true s (bTs (ss.take j)) z:=fun z=>by rw[Ø hs];exact xB5 ok z
  rw[eb];cases s with
  | br z0 yr x q =>
   cases b with
   | false=>exact ih z hz
   | true =>
    show (if z=x then ledB true (ss.take j) f x+q else ledB true (ss.take j) f z)=(sumL L fun n=>f n*back (ss.take j) n z)+if z=x then bTs (ss.take j) x+q else bTs (ss.take j) z
    by_cases e:z=x
    ·subst e;rw[if_pos rfl,if_pos rfl,ih z hz];simp only[if_true]
     grind
    ·rw[if_neg e,if_neg e,ih z hz];simp only[if_true]
  | ps x y t =>
   obtain⟨hx,hy,_⟩:=ok;have ez:fw x y t (ledB b (ss.take j) f) z=fw x y t (fun z=>(sumL L fun n=>f n*back (ss.take j) n z)+if b then bTs (ss.take j) z else 0) z:=by
    unfold fw;rw[ih x hx,ih y hy,ih z hz]
   show fw x y t (ledB b (ss.take j) f) z=(sumL L fun n=>f n*fw x y t (back (ss.take j) n) z)+if b then fw x y t (bTs (ss.take j)) z else 0;rw[ez,xP9,xD6];cases b with
   | true=>rfl
   | false =>
    have:fw x y t (fun _=>(0:Rat)) z=0:=by unfold fw;split;grind;split<;>grind
    show _+fw x y t (fun _=>(0:Rat)) z=_+0;rw[this]
noncomputable def LsF (H:Hp)(a:Addr)(rs:List Rat):Prop:=∃vs,H a=some (.lst vs) /\ Paired (FrV H) vs rs
theorem LsF.same {H H':Hp}{a:Addr}{rs:List Rat}(h:LsF H a rs)(s:Same H H'):LsF H' a rs:=let ⟨vs,h1,h2⟩:=h;⟨vs,s _ _ h1,Paired.mapP h2 fun _ _ f=>f.same s⟩
theorem LsF.keep {H H':Hp}{a:Addr}{rs:List Rat}(h:LsF H a rs)(tu:∀c l,H c=some (.tup l)->H' c=some (.tup l))(e:∀vs,H a=some (.lst vs)->H' a=some (.lst vs)):LsF H' a rs:=let ⟨vs,h1,h2⟩:=h;⟨vs,e _ h1,Paired.mapP h2 fun _ _ f=>f.tup tu⟩
theorem zS9 {α:Type}{xs:List α}{x y:α}{j:Nat}(h:(xs++[x])[j]?=some y):xs[j]?=some y \/ (j=xs.length /\ y=x):=by
 by_cases hj:j<xs.length
 ·left;rw[List.getElem?_append_left hj]at h;exact h
 ·right
  rw[Œ (by lia)]at h;have:j - xs.length=0:=by
   have:=(Ą.mp h).1;simp at this;lia
  rw[this]at h;exact⟨by lia,by simpa using h.symm⟩
noncomputable def nR (m:Nat)(f:Nat->Rat):List Rat:=(ę m).map f
theorem γ (m:Nat)(f:Nat->Rat):(nR m f).length=m:=by unfold nR;rw[ā,ŀ]
theorem yS0 {m:Nat}{f:Nat->Rat}{j:Nat}{r:Rat}(h:(nR m f)[j]?=some r):j<m /\ r=f j:=by
 unfold nR at h;rw[Ĉ]at h
 by_cases hj:j<m
 ·rw[List.getElem?_range hj]at h;exact⟨hj,(Option.some.inj h).symm⟩
 ·rw[ō (by rw[ŀ];lia)]at h;cases h
theorem zN1 (m:Nat)(f:Nat->Rat):nR (m+1) f=nR m f++[f m]:=by
 unfold nR;rw[ũ,Đ];rfl
theorem zS4 {m:Nat}{f g:Nat->Rat}(h:∀j,j<m->f j=g j):nR m f=nR m g:=by
 unfold nR;exact Ũ fun j hj=>h j (ŏ.mp hj)
noncomputable def MatAt (H:Hp)(a:Addr)(r m:Nat)(M:Nat->Nat->Rat):Prop:=∃bs:List Addr,H a=some (.lst (bs.map V.ref)) /\ bs.length=r /\ ∀i b,bs[i]?=some b->LsF H b (nR m (M i))
theorem zM0 {bs:List Addr}{i:Nat}{b:Addr}(h:bs[i]?=some b):atI (bs.map V.ref) ((i:Nat):Int)=some (.ref b):=ò (by rw[Ĉ,h];rfl)
theorem yP1 {bs:List Addr}{i:Nat}{x:V}(h:(bs.map V.ref)[i]?=some x):∃b,x = .ref b /\ bs[i]?=some b:=by
 rw[Ĉ]at h;cases q:bs[i]? with
 | none=>rw[q]at h;cases h
 | some b=>rw[q]at h;exact⟨b,(Option.some.inj h).symm,rfl⟩
theorem LsF.at {H:Hp}{a:Addr}{m:Nat}{f:Nat->Rat}(h:LsF H a (nR m f)){j:Nat}(hj:j<m):∃vs v,H a=some (.lst vs) /\ vs.length=m /\ atI vs ((j:Nat):Int)=some v /\ FrV H v (f j):=by
 obtain⟨vs,h1,h2⟩:=h;have hl:vs.length=m:=h2.length.trans (γ m f);obtain⟨v,hv⟩:∃v,vs[j]?=some v:=⟨_,Ā (by lia)⟩;obtain⟨r,hr,fr⟩:=Ü h2 hv;obtain⟨_,rfl⟩:=yS0 hr;exact⟨vs,v,h1,hl,ò hv,fr⟩
theorem eq01 (t:Rat):PyData.eqv (pq t.num t.den) (pq 0 1)=decide (t=0):=by
 rw[zN4];exact ο t 0
theorem eq11 (t:Rat):PyData.eqv (pq t.num t.den) (pq 1 1)=decide (t=1):=by
 rw[zN4];exact ο t 1
theorem yT5 {n k:Nat}(h:k<n):ixN n ((k:Nat):Int)=some k:=by
 unfold ixN;rw[if_pos (by lia),if_pos (by lia)];simp
theorem yH0 (bs:List Addr)(i:Nat)(b:Addr):(bs.map V.ref).set i (.ref b)=(bs.set i b).map V.ref:=by rw[List.map_set]
theorem MatAt.swap {H:Hp}{a:Addr}{bs:List Addr}{r m:Nat}{M:Nat->Nat->Rat}{x y:Nat}{bx bc:Addr}(h:H a=some (.lst (((bs.set x bc).set y bx).map V.ref)))(lb:bs.length=r)(hB:∀i b,bs[i]?=some b->LsF H b (nR m (M i)))(hx:bs[x]?=some bx)(hy:bs[y]?=some bc):MatAt H a r m (δ M x y):=by
 refine⟨_,h,by rw[List.length_set,List.length_set];exact lb,fun i b e=>?_⟩;have lx:=(Ą.mp hx).1;have ly:=(Ą.mp hy).1;unfold δ;rw[List.getElem?_set]at e
 by_cases e1:y=i
 ·rw[if_pos e1,List.length_set,if_pos ly]at e;cases e;rw[if_pos e1.symm];exact hB x bx hx
 ·rw[if_neg e1,List.getElem?_set]at e;rw[if_neg fun q=>e1 q.symm]
  by_cases e2:x=i
  ·rw[if_pos e2,if_pos lx]at e;cases e;rw[if_pos e2.symm];exact hB y bc hy
  ·rw[if_neg e2]at e;rw[if_neg fun q=>e2 q.symm];exact hB i b e
theorem zM9 {kv:List (Key×V)}(n:Str)(v:V)(hk:∀q∈kv,∃z,q.1 = .inr z):nms (putK kv (.inr n) v)=putS (nms kv) n:=by
 have key:∀{l:List (Key×V)},(∀q∈l,∃z,q.1 = .inr z)->((l.any fun q=>decide (q.1 = .inr n))=true↔n∈nms l):=by
  intro l h;rw[List.any_eq_true];unfold nms;rw[Ė]
  constructor
  ·rintro⟨q,hq,e⟩;refine⟨q,hq,?_⟩;rw[of_decide_eq_true e];rfl
  ·rintro⟨q,hq,e⟩;obtain⟨z,ez⟩:=h q hq;refine⟨q,hq,decide_eq_true ?_⟩;rw[ez]at e ⊢;rw[show z=n from e]
 unfold putK putS
 by_cases q:n∈nms kv
 ·rw[if_pos ((key hk).mpr q),if_pos q];unfold nms;rw[Ś];refine Ũ fun p _=>?_;show nmz (if p.1 = .inr n then (p.1,v) else p).1=nmz p.1
  split<;>rfl
 ·rw[if_neg (fun u=>q ((key hk).mp u)),if_neg q];unfold nms;rw[Đ];rfl
theorem yY0 {S:List Str}{x:Str}(h:x∈S):putS S x=S:=by unfold putS;rw[if_pos h]
theorem zK3 {S:List Str}{x:Str}(h:x∉S):putS S x=S++[x]:=by unfold putS;rw[if_neg h]
theorem zN0 {C:List Str}(hn:C.Nodup){i:Nat}{x:Str}(h:C[i]?=some x):x∉C.take i:=by
 intro hm;obtain⟨j,hj,e⟩:=ě hm;rw[ċ]at hj;rw[List.getElem_take]at e;obtain⟨hi,e2⟩:=Ą.mp h;exact Ŧ.mp hn j i (by lia) hi (by lia) (e.trans e2.symm)
theorem ë {L:List Str}{f g:Str->Rat}(h:∀z∈L,f z=g z):all L f=all L g:=by
 funext z
 unfold all
 by_cases hz:z∈L
 ·rw[if_pos hz,if_pos hz,h z hz]
 ·rw[if_neg hz,if_neg hz]
theorem zF2 {L:List Str}{f:Str->Rat}{n:Str}(hn:n∈L)(r:Rat):(fun y=>if y=n then some r else all L f y)=all L (fun y=>if y=n then r else f y):=by
 funext y
 unfold all
 by_cases e:y=n
 ·subst e;simp[hn]
 ·simp[e]
theorem yB3 {f:Str->Rat}{z:Str}{r:Rat}(h:op f z=some r):f z=r /\ r≠0:=by
 unfold op at h
 split at h
 ·cases h
 ·rename_i q;cases h;exact⟨rfl,q⟩
theorem zW8 {α β:Type}{F:α->β->Prop}:∀{xs:List α} {ys:List β},xs.length=ys.length->(∀(i:Nat) (x:α) (y:β),xs[i]?=some x->ys[i]?=some y->F x y)->Paired F xs ys
 | [],[],_,_=>.nil
 | [],_::_,h,_=>by simp at h
 | _::_,[],h,_=>by simp at h
 | x::xs,y::ys,h,g=>.cons (g 0 x y rfl rfl) (zW8 (by simpa using h) fun i a b ha hb=>g (i+1) a b (by simpa using ha) (by simpa using hb))
theorem RowAt.vals {H:Hp}{kvs:List (Key×V)}{f:Str->Rat}(h:RowAt H kvs (op f)):Paired (FrV H) (kvs.map (·.2)) ((nms kvs).map f):=by
 refine zW8 (by rw[ā,ā,Ò]) fun i x y hx hy=>?_;rw[Ĉ]at hx hy;cases q:kvs[i]? with
 | none=>rw[q]at hx;cases hx
 | some p =>
  rw[q]at hx;cases hx;obtain⟨z,r,hz,hg,fr,_,_⟩:=h.at q;have:(nms kvs)[i]?=some z:=by
   unfold nms;rw[Ĉ,q];show some (nmz p.1)=_;rw[hz];rfl
  rw[this]at hy;cases hy;rw[(yB3 hg).1];exact fr
theorem yO8 {H:Hp}{kvs:List (Key×V)}{C:List Str}{f g:Str->Rat}(nC:C.Nodup)(h:RowAt H kvs (op (fun z=>if z∈C then f z else 0)))(hg:∀z∈C,f z=0->g z=0):sumL (nms kvs) g=sumL C g:=by
 refine zC1 g nC (â h.nodup h.keys) (fun z hz=>?_) fun z hz hn=>?_
 ·have:=op_some.mp ((h.iff z).mp hz)
  by_cases e:z∈C
  ·exact e
  ·rw[if_neg e]at this;exact absurd rfl this
 ·refine(h.iff z).mpr (op_some.mpr ?_);rw[if_pos hz];exact fun e=>hn (hg z hz e)
theorem xN9 (C:List Str):Nmd C (fun i=>C.getD i ""):=fun i hi=>by
 show C[i]?=some (C.getD i "");rw[Ļ,Ā hi];rfl
theorem yH3:∀{rows:List (Key×V)},(∀kv∈rows,∃z,kv.1 = .inr z)->(rows.map fun kv=>kV kv.1)=(nms rows).map V.str
 | [],_=>rfl
 | kv::rows,h=>by
  obtain⟨z,e⟩:=h kv Ć;have ih:=yH3 (rows:=rows) fun kv hk=>h kv (ă _ hk);rw[ĩ,ih];show kV kv.1::_=V.str (nmz kv.1)::_;rw[e];rfl
theorem zK6:∀{rows:List (Key×V)},(∀kv∈rows,∃z,kv.1 = .inr z)->rows.map (·.1)=(nms rows).map Sum.inr
 | [],_=>rfl
 | kv::rows,h=>by
  obtain⟨z,e⟩:=h kv Ć;have ih:=zK6 (rows:=rows) fun kv hk=>h kv (ă _ hk);rw[ĩ,ih];show kv.1::_=Sum.inr (nmz kv.1)::_;rw[e];rfl
theorem zJ7:∀{C:List Str} {vs:List V},vs.length=C.length->nms (zipV C vs)=C
 | [],vs,_=>rfl
 | c::C,[],h=>by simp at h
 | c::C,v::vs,h=>by
  have:=zJ7 (C:=C) (vs:=vs) (by simpa using h);show c::nms (zipV C vs)=c::C;rw[this]
theorem zU0 (C:List Str)(vs:List V):∀kv∈zipV C vs,∃z,kv.1 = .inr z:=fun kv h=>by
 unfold zipV at h;obtain⟨p,_,e⟩:=Ė.mp h;exact⟨p.1,by rw[<- e]⟩
theorem yT9 {C:List Str}(h:C.Nodup):(C.map (Sum.inr:Str->Key)).Nodup:=by
 rw[List.nodup_iff_pairwise_ne,List.pairwise_map];exact(List.nodup_iff_pairwise_ne.mp h).imp fun h e=>h (Sum.inr.inj e)
theorem RowAt.zip {H:Hp}{C:List Str}{vs:List V}{x:Nat->Rat}(nC:C.Nodup)(h:Paired (FrV H) vs (nR C.length x)):RowAt H (zipV C vs) (all C fun z=>x (C.idxOf z)):=by
 have hl:vs.length=C.length:=h.length.trans (γ _ _);have nk:((zipV C vs).map (·.1)).Nodup:=by
  rw[zK6 (zU0 C vs),zJ7 hl];exact yT9 nC
 refine⟨nk,zU0 C vs,fun z r e=>?_,fun z e=>?_⟩
 ·unfold all at e
  split at e
  ·rename_i hz;cases e;have li:C.idxOf z<C.length:=List.idxOf_lt_length_of_mem hz;obtain⟨v,hv⟩:∃v,vs[C.idxOf z]?=some v:=⟨_,Ā (by lia)⟩;obtain⟨r,hr,fr⟩:=Ü h hv;obtain⟨_,rfl⟩:=yS0 hr;refine⟨v,?_,fr⟩;have hg:(zipV C vs)[C.idxOf z]?=some (.inr z,v):=by
    unfold zipV;rw[Ĉ];have:(C.zip vs)[C.idxOf z]?=some (z,v):=by
     rw[List.getElem?_zip_eq_some];exact⟨by rw[Ā li,List.getElem_idxOf li],hv⟩
    rw[this];rfl
   exact ů nk hg
  ·cases e
 ·unfold all at e
  split at e
  ·cases e
  ·rename_i hz;cases q:valV (zipV C vs) (.inr z) with
   | none=>rfl
   | some v =>
    have:=zI6 q;rw[zJ7 hl]at this;exact absurd this hz
noncomputable def xC8:Sp:=fun vs H Q _=>∃(a b:Addr) (fv:V) (m:Nat) (f g:Nat->Rat) (t:Rat),vs=[.ref a,.ref b,fv] /\ LsF H a (nR m f) /\ LsF H b (nR m g) /\ FrV H fv t /\ m<=30 /\ Bd 8000 t /\ (∀j,j<m->Bd 8000 (f j) /\ Bd 8000 (g j) /\ Bd 8000 (g j*t)) /\
 ∀p H',H p=none->Same H H'->LsF H' p (nR m fun j=>f j - g j*t)->Q (.ref p) H'
noncomputable def xL1:Sp:=fun vs H Q _=>∃(a:Addr) (r m c k:Nat) (M:Nat->Nat->Rat),vs=[.ref a,.int (c:Nat),.int (k:Nat)] /\ MatAt H a r m M /\ c<r /\ k<m /\ r<=30 /\ m<=30 /\ M c k≠0 /\ (∀i,i<r->∀j,j<m->Bd 8000 (M i j) /\ Bd 8000 (M c j / M c k) /\ Bd 8000 (M c j / M c k*M i k)) /\
 ∀p H',H p=none->Same H H'->MatAt H' p r m (pivM M c k)->Q (.ref p) H'
noncomputable def yF0:Sp:=fun vs H Q _=>∃(a:Addr) (n d e:Nat) (A:Nat->Nat->Rat),vs=[.ref a] /\ MatAt H a n (n+1) A /\ n<=5 /\ BdB n A d e /\ 32*(d+1)<=7900 /\ e+31*(d+1)<=7900 /\ (∀y,y n=0->KerM n A y->∀j,j<n->y j=0) /\
 ∀p H' x,H p=none->Same H H'->LsF H' p (nR n x)->(∀i,i<n->sN n (fun j=>A i j*x j)=A i n)->(∃E W,0<E /\ E<=W /\ W<=2^(e+31*(d+1)) /\ ∀i,i<n->Cd E W (x i))->Q (.ref p) H'
noncomputable def yN4:Sp:=fun vs H Q _=>∃(pr pa:Addr) (H0:Hp) (rows kb:List (Key×V)) (ad:Str->Addr) (C L:List Str) (R:Str->Str->Rat) (b:Str->Rat) (D E W d e:Nat),vs=[.ref pr,.ref pa] /\ H pr=some (.dK rows) /\ TabAt H0 H pr rows C (resC C R) ad /\ nms rows=C /\ C.Nodup /\ C.length<=5 /\ L.Nodup /\ (∀x∈C,x∈L) /\
 Good L D R /\ 0<D /\ D<=2^d /\ H pa=some (.dK kb) /\ RowAt H kb (all C b) /\ 0<E /\ E<=W /\ W<=2^e /\ (∀z∈C,Cd E W (b z)) /\ 32*(d+1)<=7900 /\ e+31*(d+1)<=7900 /\ (∀x∈C,Leak C R x) /\
 ∀p H' kv X,H p=none->Same H H'->H' p=some (.dK kv)->RowAt H' kv (all C X)->nms kv=C->(∀z∈C,X z=(sumL C fun y=>X y*R y z)+b z)->(∃E W,0<E /\ E<=W /\ W<=2^(e+31*(d+1)) /\ ∀z∈C,Cd E W (X z))->Q (.ref p) H'
noncomputable def bT (ss:List Stp)(z:Str):Rat:=sumQ ((brL ss).map fun b=>b.q*b.g z)
theorem zW6:∀a b:List Stp,Ð (a++b)=Ð b*Ð a
 | [],b=>by show Ð b=Ð b*1;rw[Nat.mul_one]
 | s::a,b=>by
  show Ð (a++b)*dnS s=Ð b*(Ð a*dnS s);rw[zW6 a b,ĵ]
theorem yJ8 (ss:List Stp)(n:Nat):Ð ss=Ð (ss.drop n)*Ð (ss.take n):=by
 rw[<- zW6,Ō]
theorem yP8 {L:List Str}:∀{ss:List Stp},(∀s∈ss,OkT L s)->Ð ss<=1024^ss.length
 | [],_=>ą _
 | s::ss,h=>by
  have g:=yP8 (ss:=ss) fun s hs=>h s (ă _ hs);have e:dnS s<=1024:=by
   have:=(h s Ć).2;cases s with
   | br _ _ _ _=>exact(by decide:1<=1024)
   | ps _ _ t=>exact this
  rw[ğ,ģ];exact Ġ g e
theorem zB2 {L:List Str}{ss:List Stp}(h:∀s∈ss,OkT L s)(hl:ss.length<=10):Ð ss<=2^100 :=
 Č (yP8 h) (Č (ħ (by decide) hl) (by decide))
theorem xB4 {L:List Str}:∀{ss:List Stp},(∀s∈ss,OkT L s)->∀b∈brL ss,IsM 120 120 b.q
 | .br z yr x q::ss,h,b,hb=>by
  rcases Ē.mp hb with e | e
  ·rw[e];exact(h _ Ć).2
  ·exact xB4 (ss:=ss) (fun s hs=>h s (ă _ hs)) b e
 | .ps _ _ _::ss,h,b,hb=>xB4 (ss:=ss) (fun s hs=>h s (ă _ hs)) b hb
theorem xR3 {L:List Str}(hn:L.Nodup){ss:List Stp}(hO:∀s∈ss,OkT L s)(z:Str):∀b∈brL ss,IsM (Ð ss) 1 (b.g z):=by
 intro b hb;obtain⟨n,x,hx,eg⟩:=yD8 (fun s hs=>(hO s hs).1) b hb;have G:=ø hn (ss:=ss.drop n) fun s hs=>(hO s (Ť hs)).1;rw[yJ8 ss n,eg];exact(G.part x hx z).up _
theorem xE4 {L:List Str}(hn:L.Nodup){ss:List Stp}(hO:∀s∈ss,OkT L s)(z:Str):∀b∈brL ss,IsM (120*Ð ss) 120 (b.q*b.g z):=by
 intro b hb;have:=(xB4 hO b hb).mul (xR3 hn hO z b hb);rw[Nat.mul_one]at this;exact this
theorem yE0 {L:List Str}(hn:L.Nodup){ss:List Stp}(hO:∀s∈ss,OkT L s)(z:Str):∀k,k<=(brL ss).length->IsM (120*Ð ss) (120*k) (sumQ (((brL ss).take k).map fun b=>b.q*b.g z))
 | 0,_=>IsM.zero _ _
 | k+1,h=>by
  obtain⟨b,hb⟩:∃b,(brL ss)[k]?=some b:=⟨_,Ā (by lia)⟩;have e:(brL ss).take (k+1)=(brL ss).take k++[b]:=by rw[Ŀ,hb];rfl
  rw[e,Đ];have g:=yE0 hn hO z k (by lia);have q:=xE4 hn hO z b (Ċ hb);have s:sumQ (((brL ss).take k).map (fun b=>b.q*b.g z)++[b].map fun b=>b.q*b.g z)=sumQ (((brL ss).take k).map fun b=>b.q*b.g z)+b.q*b.g z:=by
   unfold sumQ;rw[Ţ];rfl
  rw[s];have:=g.add q;exact this
theorem twelve {D:Nat}(h:D<=2^100){k:Nat}(hk:k<=1200):k*(120*D)<=2^118:=by
 have e18:(2:Nat)^18=262144:=by decide
 have h1:k*120<=2^18:=by lia
 rw[<- ĵ];have:=Ġ h1 h;rw[<- ī]at this;exact this
theorem xB6 {L:List Str}(hn:L.Nodup){ss:List Stp}(hO:∀s∈ss,OkT L s)(hl:ss.length<=10)(z:Str):Cd (120*Ð ss) (1200*(120*Ð ss)) (bT ss z):=by
 have:=yE0 hn hO z _ (ą _);rw[đ]at this;refine(Cd.of this).mono (Ĕ _ ?_);have:=zO0 ss;lia
noncomputable def yF4 (K:Ă):Sp:=fun vs H Q _=>∃(ah as:Addr) (xs:List V) (ps:List Plc) (ys:List V) (ss:List Stp),vs=[.ref ah,.ref as] /\ SqL K H ah xs /\ Paired (PlV H) xs ps /\ HouseOk ps /\ SqL K H as ys /\ Paired (StV H) ys ss /\ (∀s∈ss,OkT (allN ps) s) /\ ss.length<=10 /\
 ∀p H' kv,H p=none->Same H H'->H' p=some (.dK kv)->RowAt H' kv (all (ckN ps) (bT ss))->nms kv=ckN ps->Q (.ref p) H'
noncomputable def zK1:Sp:=fun vs H Q _=>∃(pr:Addr) (H0:Hp) (rows:List (Key×V)) (ad:Str->Addr) (C L:List Str) (R:Str->Str->Rat) (D:Nat),vs=[.ref pr] /\ H pr=some (.dK rows) /\ TabAt H0 H pr rows C (resC C R) ad /\ nms rows=C /\ C.Nodup /\ C.length<=5 /\ L.Nodup /\ (∀x∈C,x∈L) /\ Good L D R /\ 0<D /\ 8*D<2^2600 /\
 ∀p H' ss,H p=none->Same H H'->H' p=some (.lst (ss.map V.str))->ss.Nodup->(∀x,x∈ss↔x∈C /\ ¬Leak C R x)->PyProof.Rows.sortedS ss=true->Q (.ref p) H'
noncomputable def xC5:Sp:=fun vs H Q _=>∃(pr:Addr) (H0:Hp) (rows:List (Key×V)) (ad:Str->Addr) (C L:List Str) (R:Str->Str->Rat) (D:Nat),vs=[.ref pr] /\ H pr=some (.dK rows) /\ TabAt H0 H pr rows C (resC C R) ad /\ nms rows=C /\ C.Nodup /\ C≠[] /\ C.length<=5 /\ L.Nodup /\ (∀x∈C,x∈L) /\ Good L D R /\ 0<D /\ D<=2^500 /\ (∀x∈C,Leak C R x) /\
 ∀p H' f r (k:Nat),H p=none->Same H H'->H' p=some (.tup [.int (k:Nat),f])->FrV H' f r->1<=k->k<=C.length->(∀x∈C,stay C R k x<=r)->(∃x∈C,stay C R k x=r)->r<1->(∀j,j<k->∃x∈C,stay C R j x=1)->Q (.ref p) H'
noncomputable def trK (S:List Str):List (Key×V):=S.map fun z=>(.inr z,.bl true)
theorem yM3 (S:List Str):(trK S).length=S.length:=by unfold trK;rw[ā]
theorem zQ0 (x:Str):∀S:List Str,valV (trK S) (.inr x)=if x∈S then some (.bl true) else none
 | []=>rfl
 | z::S=>by
  show valV ((Sum.inr z,V.bl true)::trK S) (.inr x)=_
  by_cases e:z=x
  ·subst e;rw[ų rfl,if_pos Ć]
  ·rw[Ŵ (fun q=>e (Sum.inr.inj q)),zQ0 x S];have:(x∈z::S)↔x∈S:=by
    rw[Ē];exact⟨fun q=>q.elim (fun q=>absurd q.symm e) id,.inr⟩
   by_cases q:x∈S
   ·rw[if_pos q,if_pos (this.mpr q)]
   ·rw[if_neg q,if_neg (fun u=>q (this.mp u))]
theorem yM2 (S:List Str)(x:Str):putK (trK S) (.inr x) (.bl true)=trK (putS S x):=by
 have h:=zF3 (.inr x) (trK S);rw[zQ0]at h;unfold putK putS;rw[h]
 by_cases q:x∈S
 ·rw[if_pos q,if_pos q,if_pos (show (some (V.bl true)).isSome=true from rfl)];unfold trK;rw[Ś];refine Ũ fun z _=>?_;show (if (Sum.inr z:Key) = .inr x then ((Sum.inr z:Key),V.bl true) else (.inr z,.bl true))=(.inr z,.bl true)
  split<;>rfl
 ·rw[if_neg q,if_neg q,if_neg (by simp)];unfold trK;rw[Đ];rfl
noncomputable def xC7 (K:Ă):Sp:=fun vs H Q _=>∃(ah as:Addr) (xs:List V) (ps:List Plc) (ys:List V) (ss:List Stp),vs=[.ref ah,.ref as] /\ SqL K H ah xs /\ Paired (PlV H) xs ps /\ HouseOk ps /\ ckN ps≠[] /\ (ckN ps).length<=5 /\ SqL K H as ys /\ Paired (StV H) ys ss /\ (∀s∈ss,OkT (allN ps) s) /\ ss.length<=10 /\
 (∀p H' l zs,H p=none->Same H H'->H l=none->l≠p->H' p=some (.tup [.str "closed",.ref l])->H' l=some (.lst (zs.map V.str))->zs.Nodup->(∀x,x∈zs↔x∈ckN ps /\ ¬Leak (ckN ps) (back ss) x)->PyProof.Rows.sortedS zs=true->zs≠[]->Q (.ref p) H') /\
 ((∀x∈ckN ps,Leak (ckN ps) (back ss) x)->∀p H' q d f r (k:Nat) kv X,H p=none->Same H H'->H' p=some (.tup [.str "lasting",.ref d,.ref q])->H d=none->H' d=some (.dK kv)->RowAt H' kv (all (ckN ps) X)->(∀z∈ckN ps,X z=(sumL (ckN ps) fun y=>X y*back ss y z)+bT ss z) ->
  (∃E W,0<E /\ E<=W /\ W<=2^3400 /\ ∀z∈ckN ps,Cd E W (X z))->H' q=some (.tup [.int (k:Nat),f])->FrV H' f r->1<=k->k<=(ckN ps).length->(∀x∈ckN ps,stay (ckN ps) (back ss) k x<=r)->(∃x∈ckN ps,stay (ckN ps) (back ss) k x=r)->r<1->(∀j,j<k->∃x∈ckN ps,stay (ckN ps) (back ss) j x=1)->Q (.ref p) H')
theorem all_some {L:List Str}{f:Str->Rat}{z:Str}:(all L f z).isSome=true↔z∈L:=by
 unfold all
 split
 ·rename_i h;simp[h]
 ·rename_i h;simp[h]
theorem RowAt.len' {H:Hp}{kvs:List (Key×V)}{g:Str->Option Rat}{L:List Str}(h:RowAt H kvs g)(hf:∀z,(g z).isSome=true->z∈L):kvs.length<=L.length:=by
 rw[<- Ò];exact Ö (â h.nodup h.keys) fun z hz=>hf z ((h.iff z).mp hz)
theorem zJ1 {D N:Nat}{f:Str->Rat}:∀{l:List Str},(∀z∈l,Cd D N (f z))->Cd D (l.length*N) (sumL l f)
 | [],_=>Cd.zero _ _
 | z::l,h=>by
  rw[Ê,ğ];have a:=h z Ć;have b:=zJ1 (l:=l) fun y hy=>h y (ă _ hy);refine(a.add b).mono ?_;rw[Nat.succ_mul];lia
theorem xO5 {C L:List Str}{ss:List Stp}(hL:L.Nodup)(hC:C.Nodup)(hCL:∀x∈C,x∈L)(hO:∀s∈ss,OkS L s){f:Str->Rat}(hf0:∀z,z∉C->f z=0):∀z∈C,ledB true ss f z=(sumL C fun n=>f n*back ss n z)+bT ss z:=by
 intro z hz;have h:=yH1 hL hO true f ss.length (ą _) z (hCL z hz);rw[đ]at h;rw[h];have e:(sumL C fun n=>f n*back ss n z)=sumL L fun n=>f n*back ss n z:=zC1 _ hL hC hCL fun n _ hne=>by
  by_cases q:n∈C
  ·exact q
  ·rw[hf0 n q,ň]at hne;exact absurd rfl hne
 rw[e];rfl
noncomputable def HsV (K:Ă)(H:Hp)(ah as:Addr)(xs:List V)(ps:List Plc)(ys:List V)(ss:List Stp):Prop:=H ah=some (.lst xs) /\ Paired (PlV H) xs ps /\ HouseOk ps /\ (ckN ps).length<=5 /\ H as=some (.lst ys) /\ Paired (StV H) ys ss /\ (∀s∈ss,OkT (allN ps) s) /\ ss.length<=10
noncomputable def ldR (C:List Str)(R:Str->Str->Rat)(f:Str->Rat):Str->Rat:=fun z=>sumL C fun y=>f y*R y z
noncomputable def yN5:Sp:=fun vs H Q _=>∃(pr pt:Addr) (H0:Hp) (rows kt:List (Key×V)) (ad:Str->Addr) (C L:List Str) (R:Str->Str->Rat) (f:Str->Rat) (D E W:Nat),vs=[.ref pr,.ref pt] /\ H pr=some (.dK rows) /\ TabAt H0 H pr rows C (resC C R) ad /\ nms rows=C /\ C.Nodup /\ C.length<=5 /\ (∀x∈C,x∈L) /\ Good L D R /\ 0<D /\ D<=2^100 /\
 H pt=some (.dK kt) /\ RowAt H kt (all C f) /\ pt≠pr /\ (∀x∈C,ad x≠pt) /\ 0<E /\ E<=W /\ W<=2^3000 /\ (∀z∈C,Cd E W (f z)) /\
 ∀p H' kv,H p=none->Same H H'->H' p=some (.dK kv)->RowAt H' kv (all C (ldR C R f))->Q (.ref p) H'
noncomputable def spBy (K:Ă):Sp:=fun vs H Q _=>∃(ah as:Addr) (xs:List V) (ps:List Plc) (ys:List V) (ss:List Stp) (n:Nat),vs=[.ref ah,.ref as,.int (n:Nat)] /\ HsV K H ah as xs ps ys ss /\ n<=8 /\
 ((∃x∈ckN ps,¬Leak (ckN ps) (back ss) x)->∀H',Same H H'->Q .non H') /\
 ((∀x∈ckN ps,Leak (ckN ps) (back ss) x)->∀p H' (ds:List Addr),H p=none->Same H H'->H' p=some (.lst (ds.map V.ref))->ds.length=n->ds.Nodup->(∀i d,ds[i]?=some d->H d=none /\ d≠p /\ ∃kv,H' d=some (.dK kv) /\ RowAt H' kv (all (ckN ps) (mass (ckN ps) (back ss) (bT ss) i)))->Q (.ref p) H')
theorem zG9 {C C':List Str}(h:∀z,z∈C↔z∈C')(f:Str->Rat):all C f=all C' f:=by
 funext z
 unfold all
 by_cases q:z∈C
 ·rw[if_pos q,if_pos ((h z).mp q)]
 ·rw[if_neg q,if_neg fun u=>q ((h z).mpr u)]
theorem zE0 {C C':List Str}(nC:C.Nodup)(nC':C'.Nodup)(h:∀z,z∈C↔z∈C')(R:Str->Str->Rat)(f:Str->Rat):ldR C R f=ldR C' R f:=by
 funext z
 exact zB0 nC nC' h _
theorem zX9 {C L:List Str}{R:Str->Str->Rat}{D:Nat}(G:Good L D R)(hCL:∀x∈C,x∈L)(c5:C.length<=5){E W:Nat}{f:Str->Rat}(h:∀z∈C,Cd E W (f z))(z:Str):Cd (E*D) (5*(W*D)) (ldR C R f z):=by
 have:=zJ1 (l:=C) (f:=fun y=>f y*R y z) fun y hy=>(h y hy).mul (Cd.of (G.part y (hCL y hy) z));rw[Ŕ]at this;exact this.mono (Ĕ _ c5)
theorem zU1 {W D e:Nat}(hW:W<=2^e)(hD:D<=2^100):5*(W*D)<=2^(e+103):=by
 have:=Ġ (show 5<=2^3 by decide) (Ġ hW hD);rw[<- ī,<- ī]at this;exact Č this (ħ (by decide) (by lia))
noncomputable def RwsV (H0 H:Hp)(pr:Addr)(rows:List (Key×V))(ad:Str->Addr)(ps:List Plc)(ss:List Stp)(C:List Str):Prop:=H pr=some (.dK rows) /\ TabAt H0 H pr rows C (resC C (back ss)) ad /\ nms rows=C /\ C.Nodup /\ C.length<=5 /\ ∀z,z∈C↔z∈ckN ps
theorem RwsV.same {H0 H H':Hp}{pr:Addr}{rows:List (Key×V)}{ad:Str->Addr}{ps:List Plc}{ss:List Stp}{C:List Str}(h:RwsV H0 H pr rows ad ps ss C)(s:Same H H'):RwsV H0 H' pr rows ad ps ss C:=⟨s _ _ h.1,h.2.1.same s,h.2.2⟩
theorem RwsV.of {H0 H:Hp}{pr:Addr}{rows:List (Key×V)}{ad:Str->Addr}{ps:List Plc}{ss:List Stp}(ok:HouseOk ps)(c5:(ckN ps).length<=5)(h1:H pr=some (.dK rows))(TB0:TabAt H0 H pr rows (ckN ps) (resC (ckN ps) (back ss)) ad):RwsV H0 H pr rows ad ps ss (nms rows):=by
 have CR:∀z,z∈nms rows↔z∈ckN ps:=fun z=>by
  constructor
  ·intro h;obtain⟨kv,h1,h2⟩:=Ė.mp h;obtain⟨y,h3,h4⟩:=TB0.keys kv h1;rw[h3]at h2;have h2:y=z:=h2;rw[<- h2];exact h4
  ·intro h;exact zI6 (TB0.row z h).1
 have nC:(nms rows).Nodup:=â TB0.nodup fun kv h=>(let ⟨z,e,_⟩:=TB0.keys kv h;⟨z,e⟩);have lC:(nms rows).length=(ckN ps).length:=by rw[Ò];exact TB0.len ok.ck
 have eR:resC (ckN ps) (back ss)=resC (nms rows) (back ss):=by
  funext n z
  unfold resC
  by_cases h:z∈nms rows
  ·rw[if_pos h,if_pos ((CR z).mp h)]
  ·rw[if_neg h,if_neg fun u=>h ((CR z).mpr u)]
 rw[eR]at TB0;exact⟨h1,TB0.mem CR,rfl,nC,by lia,CR⟩
theorem RwsV.ne {H0 H:Hp}{pr:Addr}{rows:List (Key×V)}{ad:Str->Addr}{ps:List Plc}{ss:List Stp}{C:List Str}(h:RwsV H0 H pr rows ad ps ss C){q:Addr}(hq:H q=none):q≠pr /\ ∀x∈C,ad x≠q:=by
 refine⟨fun e=>?_,fun x hx e=>?_⟩
 ·have:=h.1;rw[<- e,hq]at this;cases this
 ·obtain⟨_,_,kv,c,_⟩:=h.2.1.row x hx;rw[e,hq]at c;cases c
structure MnAt (H:Hp)(kv:List (Key×V))(C:List Str)(X A:Str->Rat):Prop where
 keys:∀k∈kv,∃z,k.1 = .inr z
 names:nms kv=C
 val:∀z∈C,∃w,valV kv (.inr z)=some w /\ ((X z=0 /\ w = .non) \/ (X z≠0 /\ FrV H w (A z / X z)))
noncomputable def xC6 (K:Ă):Sp:=fun vs H Q _=>∃(ah as:Addr) (xs:List V) (ps:List Plc) (ys:List V) (ss:List Stp),vs=[.ref ah,.ref as] /\ HsV K H ah as xs ps ys ss /\
 ((∃x∈ckN ps,¬Leak (ckN ps) (back ss) x)->∀H',Same H H'->Q .non H') /\
 ((∀x∈ckN ps,Leak (ckN ps) (back ss) x)->∀p H' kv C X A,H p=none->Same H H'->H' p=some (.dK kv)->MnAt H' kv C X A->C.Nodup->(∀z,z∈C↔z∈ckN ps)->(∀z∈ckN ps,X z=ldR (ckN ps) (back ss) X z+bT ss z)->(∀z∈ckN ps,A z=ldR (ckN ps) (back ss) A z+ldR (ckN ps) (back ss) X z)->Q (.ref p) H')
theorem zP4 {a b:Rat}(h:b≠0):a / b*b=a:=Rat.div_mul_cancel h
theorem MnAt.put {H:Hp}{km:List (Key×V)}{C:List Str}{X A:Str->Rat}{z:Str}{w:V}(h:MnAt H km C X A)(hz:z∉C)(hw:(X z=0 /\ w = .non) \/ (X z≠0 /\ FrV H w (A z / X z))):MnAt H (putK km (.inr z) w) (C++[z]) X A:=by
 have hk:=zG3 km (.inr z) w;refine⟨fun q hq=>?_,?_,fun y hy=>?_⟩
 ·have:q.1∈(putK km (.inr z) w).map (·.1):=Ė.mpr ⟨q,hq,rfl⟩;rw[hk]at this
  split at this
  ·obtain⟨q2,h2,e2⟩:=Ė.mp this;obtain⟨y,ey⟩:=h.keys q2 h2;exact⟨y,by rw[<- e2];exact ey⟩
  ·rcases ĝ.mp this with this | this
   ·obtain⟨q2,h2,e2⟩:=Ė.mp this;obtain⟨y,ey⟩:=h.keys q2 h2;exact⟨y,by rw[<- e2];exact ey⟩
   ·exact⟨z,ė.mp this⟩
 ·rw[zM9 z w h.keys,h.names,zK3 hz]
 ·rw[zJ9]
  by_cases e:y=z
  ·subst e;exact⟨w,if_pos rfl,hw⟩
  ·rw[if_neg fun u=>e (Sum.inr.inj u)];rcases ĝ.mp hy with hy | hy
   ·exact h.val y hy
   ·exact absurd (ė.mp hy) e
theorem MnAt.mono {H H':Hp}{km:List (Key×V)}{C:List Str}{X A:Str->Rat}(h:MnAt H km C X A)(g:∀v r,FrV H v r->FrV H' v r):MnAt H' km C X A :=
 ⟨h.keys,h.names,fun z hz=>(let ⟨w,e,o⟩:=h.val z hz;⟨w,e,o.imp id fun q=>⟨q.1,g _ _ q.2⟩⟩)⟩
theorem yL6 {W D e n:Nat}(hW:W<=2^e)(hD:D<=2^100)(hn:n<=5):W*(n*D)^n<=2^(e+515):=by
 have h1:n*D<=2^103:=by
  have:=Ġ (show n<=2^3 by lia) hD;rw[<- ī]at this;exact this
 have h2:(n*D)^n<=2^515:=by
  refine Č (Nat.pow_le_pow_left h1 n) ?_;rw[<- Nat.pow_mul];exact ħ (by decide) (by lia)
 rw[ī];exact Ġ hW h2
theorem yH2 {C:List Str}{P:Str->Str->Rat}(S:SubC C P)(hl:∀x∈C,Leak C P x){X Y b:Str->Rat}(hX:∀z∈C,X z=ldR C P X z+b z)(hY:∀z∈C,Y z=ldR C P Y z+b z):∀z∈C,X z=Y z:=fun z hz=>by
 have:=zX8 S (v:=fun y=>X y - Y y) (fun j hj=>by
  have e:(sumL C fun i=>(X i - Y i)*P i j)=sumL C fun i=>X i*P i j - Y i*P i j:=Û fun i _=>by grind
  have a:=hX j hj;have c:=hY j hj;show X j - Y j=_;rw[e,Β];unfold ldR at a c
  grind) (hl z hz)
 have:X z - Y z=0:=this
 grind
theorem xR4 {a b:Rat}{m n:Nat}(ha:Bd m a)(hb:Bd n b)(h:b≠0):Bd (m+n) (a / b):=by
 rw[Rat.div_def];exact ha.mul (hb.inv h)
noncomputable def Szd (i:Nat)(r:Rat):Prop:=IsM (120*60^i) (2^(60+i)) r
theorem szP (i:Nat):0<120*60^i:=Ņ (by decide) (Nat.pow_pos (by decide))
theorem szK {i:Nat}(h:i<=30):2^(60+i)*(120*60^i)<2^400:=by
 have h1:2^(60+i)<=2^90:=þ (by lia);have h2:(60:Nat)^i<=60^30:=ħ (by decide) h;have h3:=Ġ h1 (Nat.mul_le_mul_left 120 h2);exact ď h3 (by decide)
theorem Szd.bd {i:Nat}{r:Rat}(h:Szd i r)(hi:i<=30):Bd 400 r:=_root_.Tc.IsM.bd (szP i) Nat.one_le_two_pow (szK hi) h
theorem Szd.nn {i:Nat}{r:Rat}(h:Szd i r):0<=r:=h.1
theorem Szd.up {i j:Nat}{r:Rat}(h:Szd i r)(hij:i<=j):Szd j r:=by
 have h1:=(IsM.up h (60^(j - i))).mono (j:=2^(60+j)) (þ (by lia));have e:120*60^i*60^(j - i)=120*60^j:=by
  rw[ĵ,<- ī]
  congr 2
  lia
 rw[e]at h1;exact h1
theorem Szd.zero (i:Nat):Szd i 0:=IsM.zero _ _
theorem Szd.add {i:Nat}{r q:Rat}(h:Szd i r)(g:Szd i q):Szd (i+1) (r+q):=by
 have h1:=(IsM.add h g).up 60;have e1:2^(60+i)+2^(60+i)=2^(60+(i+1)):=by
  rw[show 60+(i+1)=(60+i)+1 from rfl,ģ];lia
 have e2:120*60^i*60=120*60^(i+1):=by rw[ĵ,<- ģ]
 rw[e1,e2]at h1;exact h1
theorem xI7 {P k j:Nat}{r q:Rat}(h:IsM P k r)(g:IsM P j q)(hq:q<=r):IsM P k (r - q):=by
 obtain⟨h0,m,hm,e⟩:=h;obtain⟨g0,n,hn,f⟩:=g;have hle:q*(P:Rat)<=r*(P:Rat):=Rat.mul_le_mul_of_nonneg_right hq Rat.natCast_nonneg;rw[e,f]at hle;have hnm:n<=m:=Rat.natCast_le_natCast.mp hle;obtain⟨d,rfl⟩:=Nat.exists_eq_add_of_le hnm;refine⟨by grind,d,by lia,?_⟩;rw[Rat.natCast_add]at e
 grind
theorem Szd.sub {i:Nat}{r q:Rat}(h:Szd i r)(g:Szd i q)(hq:q<=r):Szd i (r - q):=xI7 h g hq
theorem Szd.part {i:Nat}{r q:Rat}(h:Szd i r)(h0:0<=q)(h1:q<=1)(hd:q.den∣60):Szd (i+1) (r*q):=by
 obtain⟨c,hc⟩:=hd;have g:=((IsM.mulL h h0 h1).up c).mono (j:=2^(60+(i+1))) (þ (by lia));have e2:120*60^i*q.den*c=120*60^(i+1):=by
  rw[ĵ,<- hc,ĵ,<- ģ]
 rw[e2]at g;exact g
theorem Szd.over {i:Nat}{r q:Rat}(h:Szd i r)(g:Szd i q)(hq:q≠0)(hi:i<=30):Bd 400 (r / q):=by
 obtain⟨m,hm,e⟩:=IsM.eq (szP i) h;obtain⟨n,hn,f⟩:=IsM.eq (szP i) g;have hK:=szK hi;have hn0:n≠0:=by
  rintro rfl;apply hq;rw[f,Į];have:(((0:Nat):Int):Rat)=0:=rfl;rw[this]
  grind
 have e2:r / q=Ě m n:=by
  rw[e,f,Į,Į,Į,Ĵ,Ĵ,Ĵ];have:=ς (szP i);have:=ς (show 0<n by lia)
  grind
 rw[e2];exact Bd.divInt (by lia) (show m<2^400 by lia) (show n<2^400 by lia)
noncomputable def rmF:List Plc->Str->Option Rat
 | [],_=>none
 | .ck z r::ps,y=>if y=z then some r else rmF ps y
 | .sk _::ps,y=>rmF ps y
theorem yP0 {z:Str}{r:Rat}:∀{ps:List Plc},z∉allN ps->rmF (ps++[.ck z r])=fun y=>if y=z then some r else rmF ps y
 | [],_=>by funext y;rfl
 | .ck z' r'::ps,h=>by
  have h1:z≠z':=by rintro rfl;exact h Ć
  have ih:=yP0 (z:=z) (r:=r) (ps:=ps) fun q=>h (ă _ q)
  funext y
  show (if y=z' then some r' else rmF (ps++[.ck z r]) y)=if y=z then some r else if y=z' then some r' else rmF ps y;rw[ih]
  by_cases e1:y=z'
  ·by_cases e2:y=z
   ·exact absurd (e2.symm.trans e1) h1
   ·rw[if_pos e1,if_neg e2,if_pos e1]
  ·rw[if_neg e1];show (if y=z then some r else rmF ps y)=_;rw[if_neg e1]
 | .sk z'::ps,h=>by
  have ih:=yP0 (z:=z) (r:=r) (ps:=ps) fun q=>h (ă _ q)
  funext y
  show rmF (ps++[.ck z r]) y=_;rw[ih];rfl
theorem yO9 {z:Str}:∀{ps:List Plc},rmF (ps++[.sk z])=rmF ps
 | []=>rfl
 | .ck z' r'::ps=>by
  funext y
  show (if y=z' then some r' else rmF (ps++[.sk z]) y)=if y=z' then some r' else rmF ps y;rw[yO9]
 | .sk z'::ps=>yO9 (ps:=ps)
theorem zF7 {ps:List Plc}{z:Str}:z∈ckN ps->∃r,rmF ps z=some r:=by
 induction ps with
 | nil=>intro h;cases h
 | cons p ps ih =>
  intro h;cases p with
  | ck z' r' =>
   by_cases e:z=z'
   ·exact⟨r',if_pos e⟩
   ·have h':z∈ckN ps:=by
     rcases Ē.mp (show z∈z'::ckN ps from h) with q | q
     ·exact absurd q e
     ·exact q
    obtain⟨r,hr⟩:=ih h';exact⟨r,(if_neg e).trans hr⟩
  | sk z'=>exact ih h
theorem Ŷ {ps:List Plc}{z:Str}{r:Rat}:rmF ps z=some r->z∈ckN ps /\ Plc.ck z r∈ps:=by
 induction ps with
 | nil=>intro h;cases h
 | cons p ps ih =>
  intro h;cases p with
  | ck z' r' =>
   by_cases e:z=z'
   ·subst e;have h:some r'=some r:=(if_pos rfl).symm.trans h;cases h;exact⟨Ć,Ć⟩
   ·have h:rmF ps z=some r:=(if_neg e).symm.trans h;obtain⟨h1,h2⟩:=ih h;exact⟨ă _ h1,ă _ h2⟩
  | sk z' =>
   obtain⟨h1,h2⟩:=ih h;exact⟨h1,ă _ h2⟩
noncomputable def Υ (ps:List Plc):Prop:=∀z r,Plc.ck z r∈ps->Szd 0 r
noncomputable def yN1 (K:Ă):Sp:=fun vs H Q _=>∃(a:Addr) (xs:List V) (ps:List Plc),vs=[.ref a] /\ SqL K H a xs /\ Paired (PlV H) xs ps /\ HouseOk ps /\ ∀p H' kv,H p=none->Same H H'->H' p=some (.dK kv)->RowAt H' kv (rmF ps)->Q (.ref p) H'
inductive Dd where
 | br (z x:Str) (r:Rat)
 | pt (x y:Str) (q:Rat)
 | al (x y:Str)
 | fl (x y:Str)
 | mv (x y:Str) (r:Rat)
 | yr
noncomputable def DdV (H:Hp)(v:V):Dd->Prop
 | .br z x r=>∃a f,v = .ref a /\ H a=some (.tup [.str "bring",.str z,.str x,f]) /\ FrV H f r
 | .pt x y r=>∃a f,v = .ref a /\ H a=some (.tup [.str "part",.str x,.str y,f]) /\ FrV H f r
 | .al x y=>∃a,v = .ref a /\ H a=some (.tup [.str "all",.str x,.str y])
 | .fl x y=>∃a,v = .ref a /\ H a=some (.tup [.str "fill",.str x,.str y])
 | .mv x y r=>∃a f,v = .ref a /\ H a=some (.tup [.str "move",.str x,.str y,f]) /\ FrV H f r
 | .yr=>∃a,v = .ref a /\ H a=some (.tup [.str "year"])
theorem DdV.tup {H H':Hp}(s:∀a xs,H a=some (.tup xs)->H' a=some (.tup xs)):∀{v:V} {d:Dd},DdV H v d->DdV H' v d
 | _,.br _ _ _,⟨a,f,e,h1,h3⟩=>⟨a,f,e,s _ _ h1,h3.tup s⟩
 | _,.pt _ _ _,⟨a,f,e,h1,h3⟩=>⟨a,f,e,s _ _ h1,h3.tup s⟩
 | _,.al _ _,⟨a,e,h1⟩=>⟨a,e,s _ _ h1⟩
 | _,.fl _ _,⟨a,e,h1⟩=>⟨a,e,s _ _ h1⟩
 | _,.mv _ _ _,⟨a,f,e,h1,h3⟩=>⟨a,f,e,s _ _ h1,h3.tup s⟩
 | _,.yr,⟨a,e,h1⟩=>⟨a,e,s _ _ h1⟩
theorem DdV.same {H H':Hp}{v:V}{d:Dd}(h:DdV H v d)(s:Same H H'):DdV H' v d:=h.tup fun _ _ e=>s _ _ e
noncomputable def OkD (ps:List Plc):Dd->Prop
 | .br z x r=>x∈ckN ps /\ Lay z /\ Szd 0 r
 | .pt x y q=>x∈ckN ps /\ y∈allN ps /\ x≠y /\ 0<=q /\ q<=1 /\ q.den∣60
 | .al x y=>x∈ckN ps /\ y∈allN ps /\ x≠y
 | .fl x y=>x∈ckN ps /\ y∈ckN ps /\ x≠y
 | .mv x y r=>x∈ckN ps /\ y∈allN ps /\ x≠y /\ Szd 0 r
 | .yr=>True
noncomputable def gsD (ps:List Plc)(t:Str->Rat):Dd->Rat
 | .br _ _ r=>r
 | .pt x _ q=>t x*q
 | .al x _=>t x
 | .fl _ y=>(rmF ps y).getD 0 - t y
 | .mv _ _ r=>r
 | .yr=>0
noncomputable def GoD (ps:List Plc)(t:Str->Rat):Dd->Prop
 | .br _ x r=>∀m,rmF ps x=some m->t x+r<=m
 | .pt x y q=>t x*q<=t x /\ ∀m,rmF ps y=some m->t y+t x*q<=m
 | .al x y=>∀m,rmF ps y=some m->t y+t x<=m
 | .fl x y=>(rmF ps y).getD 0 - t y<=t x
 | .mv x y r=>r<=t x /\ ∀m,rmF ps y=some m->t y+r<=m
 | .yr=>True
noncomputable def mvT (x y:Str)(g:Rat)(t:Str->Rat):Str->Rat:=fun z=>if z=x then t x - g else if z=y then t y+g else t z
noncomputable def adT (x:Str)(g:Rat)(t:Str->Rat):Str->Rat:=fun z=>if z=x then t x+g else t z
noncomputable def ptT (ps:List Plc)(t:Str->Rat):Dd->(Str->Rat)
 | .br _ x r=>adT x r t
 | .pt x y q=>mvT x y (t x*q) t
 | .al x y=>mvT x y (t x) t
 | .fl x y=>mvT x y ((rmF ps y).getD 0 - t y) t
 | .mv x y r=>mvT x y r t
 | .yr=>t
noncomputable def stD (ps:List Plc)(t:Str->Rat)(n:Int):Dd->List Stp
 | .br z x r=>[.br z n x r]
 | .pt x y q=>[.ps x y q]
 | .al x y=>[.ps x y 1]
 | .fl x y=>[.ps x y (((rmF ps y).getD 0 - t y) / t x)]
 | .mv x y r=>[.ps x y (r / t x)]
 | .yr=>[]
noncomputable def yrD:Dd->Int
 | .yr=>1
 | _=>0
set_option genInjectivity false in
structure Run where
 t:Str->Rat
 n:Int
 ss:List Stp
noncomputable def advD (ps:List Plc)(s:Run)(d:Dd):Run:=⟨ptT ps s.t d,s.n+yrD d,s.ss++stD ps s.t s.n d⟩
noncomputable def run (ps:List Plc)(t0:Str->Rat)(n:Int)(ds:List Dd):Run:=ds.foldl (advD ps) ⟨t0,n,[]⟩
theorem yF8 (ps:List Plc)(t0:Str->Rat)(n:Int)(ds:List Dd)(d:Dd):run ps t0 n (ds++[d])=advD ps (run ps t0 n ds) d:=by
 unfold run;rw[Ţ];rfl
structure InT (ps:List Plc)(t:Str->Rat)(i:Nat):Prop where
 sz:∀z∈allN ps,Szd i (t z)
 rm:∀z m,rmF ps z=some m->t z<=m
theorem InT.rmS {ps:List Plc}{t:Str->Rat}{i:Nat}(h:InT ps t i)(hr:Υ ps){y:Str}(hy:y∈ckN ps):Szd i ((rmF ps y).getD 0 - t y) /\ ∃m,rmF ps y=some m /\ Szd 0 m /\ t y<=m:=by
 obtain⟨m,hm⟩:=zF7 hy;have hs:=hr y m (Ŷ hm).2;rw[hm];exact⟨(hs.up (Ħ _)).sub (h.sz y (Ó hy)) (h.rm y m hm),m,rfl,hs,h.rm y m hm⟩
theorem InT.mv {ps:List Plc}{t:Str->Rat}{i:Nat}(h:InT ps t i){x y:Str}{g:Rat}(hx:x∈allN ps)(hy:y∈allN ps)(hg:Szd (i+1) g)(hle:g<=t x)(hroom:∀m,rmF ps y=some m->t y+g<=m):InT ps (mvT x y g t) (i+2):=by
 refine⟨fun z hz=>?_,fun z m e=>?_⟩
 ·unfold mvT
  split
  ·exact(((h.sz x hx).up (by lia)).sub hg hle).up (by lia)
  ·split
   ·exact((h.sz y hy).up (by lia)).add hg
   ·exact(h.sz z hz).up (by lia)
 ·unfold mvT
  split
  ·rename_i e1;have:=h.rm x m (e1▸e);have:=hg.nn
   grind
  ·split
   ·rename_i e2;exact hroom m (e2▸e)
   ·exact h.rm z m e
theorem InT.put {ps:List Plc}{t:Str->Rat}{i:Nat}(h:InT ps t i)(hr:Υ ps):∀{d:Dd},OkD ps d->GoD ps t d->InT ps (ptT ps t d) (i+2)
 | .br z x r,ok,go=>by
  refine⟨fun y hy=>?_,fun y m e=>?_⟩
  ·show Szd (i+2) (if y=x then t x+r else t y)
   split
   ·exact((h.sz x (Ó ok.1)).add (ok.2.2.up (Ħ _))).up (by lia)
   ·exact(h.sz y hy).up (by lia)
  ·show (if y=x then t x+r else t y)<=m
   split
   ·rename_i e1;exact go m (e1▸e)
   ·exact h.rm y m e
 | .pt x y q,ok,go=>by
  have hg:=(h.sz x (Ó ok.1)).part ok.2.2.2.1 ok.2.2.2.2.1 ok.2.2.2.2.2;exact h.mv (Ó ok.1) ok.2.1 hg go.1 go.2
 | .al x y,ok,go=>by
  have hg:=(h.sz x (Ó ok.1)).up (show i<=i+1 by lia);exact h.mv (Ó ok.1) ok.2.1 hg ŋ go
 | .fl x y,ok,go=>by
  obtain⟨h1,m,hm,hs,hle⟩:=h.rmS hr ok.2.1;refine h.mv (Ó ok.1) (Ó ok.2.1) (h1.up (by lia)) go fun m' e=>?_;rw[hm]at e ⊢;cases e;show t y+(m - t y)<=m
  grind
 | .mv x y r,ok,go=>h.mv (Ó ok.1) ok.2.1 (ok.2.2.2.up (Ħ _)) go.1 go.2
 | .yr,_,_=>⟨fun z hz=>(h.sz z hz).up (by lia),h.rm⟩
noncomputable def Goes (ps:List Plc)(t0:Str->Rat)(n:Int)(ds:List Dd):Prop:=∀i d,ds[i]?=some d->OkD ps d /\ GoD ps (run ps t0 n (ds.take i)).t d
theorem Goes.inT {ps:List Plc}{t0:Str->Rat}{n:Int}{ds:List Dd}(hr:Υ ps)(h0:InT ps t0 0)(h:Goes ps t0 n ds):∀i,i<=ds.length->InT ps (run ps t0 n (ds.take i)).t (2*i)
 | 0,_=>h0
 | i+1,hi=>by
  have ih:=Goes.inT hr h0 h i (by lia);have hd:ds[i]?=some ds[i]:=Ā (by lia);obtain⟨ok,go⟩:=h i _ hd;rw[Ø hd,yF8];exact ih.put hr ok go
theorem zP0 {g u:Rat}(h0:0<=g)(h1:g<=u):u*(g / u)=g:=by
 by_cases e:u=0
 ·subst e;have:g=0:=by grind
  subst this;exact ň _
 ·grind
theorem xR6 {L:List Str}{t:Str->Rat}{x:Str}(hx:x∈L):all L t x=some (t x):=if_pos hx
theorem RowAt.get {H:Hp}{kv:List (Key×V)}{L:List Str}{t:Str->Rat}(h:RowAt H kv (all L t)){x:Str}(hx:x∈L):∃v,valV kv (.inr x)=some v /\ FrV H v (t x):=h.has x (t x) (xR6 hx)
theorem RowAt.lenO {H:Hp}{kvs:List (Key×V)}{f:Str->Option Rat}{L:List Str}(h:RowAt H kvs f)(hf:∀z,(f z).isSome=true->z∈L):kvs.length<=L.length:=by
 rw[<- Ò];exact Ö (â h.nodup h.keys) fun z hz=>hf z ((h.iff z).mp hz)
theorem yE2 {L:List Str}{t:Str->Rat}{z:Str}(h:(all L t z).isSome=true):z∈L:=by
 unfold all at h
 split at h
 ·assumption
 ·cases h
theorem xL8 {ps:List Plc}{z:Str}(h:(rmF ps z).isSome=true):z∈allN ps:=by
 obtain⟨r,hr⟩:=Option.isSome_iff_exists.mp h;exact Ó (Ŷ hr).1
theorem yZ1 {α:Type}{L:List α}(nd:L.Nodup){i:Nat}{n:α}(hi:L[i]?=some n):n∉L.take i:=fun h=>by
 obtain⟨j,hj,ej⟩:=ě h;have hji:j<i:=by rw[ċ]at hj;lia
 have hil:i<L.length:=(Ą.mp hi).1;rw[List.getElem_take]at ej;have ei:=(Ą.mp hi).2;exact Ŧ.mp nd j i (by lia) hil hji (ej.trans ei.symm)
theorem yW2 {ps:List Plc}(h:HouseOk ps){i:Nat}{p:Plc}(hi:ps[i]?=some p):nmP p∉allN (ps.take i):=by
 have e:allN (ps.take i)=(allN ps).take i:=List.map_take ..;rw[e];refine yZ1 h.nd ?_;unfold allN;rw[Ĉ,hi];rfl
noncomputable def isP:Dd->Bool
 | .br _ _ _=>false
 | .yr=>false
 | _=>true
noncomputable def frD:Dd->Str
 | .br _ x _=>x
 | .pt x _ _=>x
 | .al x _=>x
 | .fl x _=>x
 | .mv x _ _=>x
 | .yr=>""
noncomputable def toD:Dd->Str
 | .br _ x _=>x
 | .pt _ y _=>y
 | .al _ y=>y
 | .fl _ y=>y
 | .mv _ y _=>y
 | .yr=>""
noncomputable def shD (ps:List Plc)(t:Str->Rat):Dd->Rat
 | .pt _ _ q=>q
 | .al _ _=>1
 | .fl x y=>((rmF ps y).getD 0 - t y) / t x
 | .mv x _ r=>r / t x
 | _=>0
noncomputable def kdD:Dd->Str
 | .br _ _ _=>"bring"
 | .pt _ _ _=>"part"
 | .al _ _=>"all"
 | .fl _ _=>"fill"
 | .mv _ _ _=>"move"
 | .yr=>"year"
structure PsD (ps:List Plc)(t:Str->Rat)(i:Nat)(d:Dd):Prop where
 x:frD d∈ckN ps
 y:toD d∈allN ps
 ne:frD d≠toD d
 g:Szd (i+1) (gsD ps t d)
 le:gsD ps t d<=t (frD d)
 rm:∀m,rmF ps (toD d)=some m->t (toD d)+gsD ps t d<=m
 sh:t (frD d)*shD ps t d=gsD ps t d
 b:Bd 400 (shD ps t d)
 pt:ptT ps t d=mvT (frD d) (toD d) (gsD ps t d) t
 st:∀n,stD ps t n d=[.ps (frD d) (toD d) (shD ps t d)]
theorem bd01 {q:Rat}(h0:0<=q)(h1:q<=1)(hd:q.den∣60):Bd 400 q:=by
 have hle:=Nat.le_of_dvd (by decide) hd;exact((Bd.share h0 h1 (ď hle (by decide))).1).mono (by decide)
theorem PsD.of {ps:List Plc}{t:Str->Rat}{i:Nat}(h:InT ps t i)(hr:Υ ps)(hi:i<=28):∀{d:Dd},isP d=true->OkD ps d->GoD ps t d->PsD ps t i d
 | .pt x y q,_,ok,go =>
  { x:=ok.1,y:=ok.2.1,ne:=ok.2.2.1,g:=(h.sz x (Ó ok.1)).part ok.2.2.2.1 ok.2.2.2.2.1 ok.2.2.2.2.2,le:=go.1,rm:=go.2,sh:=rfl,b:=bd01 ok.2.2.2.1 ok.2.2.2.2.1 ok.2.2.2.2.2,pt:=rfl,st:=fun _=>rfl }
 | .al x y,_,ok,go =>
  { x:=ok.1,y:=ok.2.1,ne:=ok.2.2,g:=(h.sz x (Ó ok.1)).up (by lia),le:=ŋ,rm:=go,sh:=Rat.mul_one _,b:=(show Bd 400 (1:Rat) from⟨by decide,by decide⟩),pt:=rfl,st:=fun _=>rfl }
 | .fl x y,_,ok,go=>by
  obtain⟨h1,m,hm,hs,hle⟩:=h.rmS hr ok.2.1;have hx:=h.sz x (Ó ok.1);refine { x:=ok.1,y:=Ó ok.2.1,ne:=ok.2.2,g:=h1.up (by lia),le:=go,rm:=fun m' e=>?_,sh:=zP0 h1.nn go,b:=?_,pt:=rfl,st:=fun _=>rfl }
  ·have e:rmF ps y=some m':=e;rw[hm]at e;cases e;show t y+((rmF ps y).getD 0 - t y)<=m;rw[hm];show t y+(m - t y)<=m
   grind
  ·show Bd 400 (((rmF ps y).getD 0 - t y) / t x)
   by_cases e:t x=0
   ·rw[e,Rat.div_def];have:(0:Rat)⁻¹=0:=Rat.inv_zero;rw[this,ś];exact⟨by decide,by decide⟩
   ·exact h1.over hx e (by lia)
 | .mv x y r,_,ok,go=>by
  have hx:=h.sz x (Ó ok.1);have h1:Szd i r:=ok.2.2.2.up (Ħ _);refine { x:=ok.1,y:=ok.2.1,ne:=ok.2.2.1,g:=h1.up (by lia),le:=go.1,rm:=go.2,sh:=zP0 h1.nn go.1,b:=?_,pt:=rfl,st:=fun _=>rfl };show Bd 400 (r / t x)
  by_cases e:t x=0
  ·rw[e,Rat.div_def];have:(0:Rat)⁻¹=0:=Rat.inv_zero;rw[this,ś];exact⟨by decide,by decide⟩
  ·exact h1.over hx e (by lia)
theorem DdV.pass {H:Hp}:∀{v:V} {d:Dd},DdV H v d->d ≠ .yr->∃a ys,v = .ref a /\ H a=some (.tup ys) /\ atI ys 0=some (.str (kdD d)) /\ (isP d=true->atI ys 1=some (.str (frD d))) /\ atI ys 2=some (.str (toD d))
 | _,.br _ _ _,⟨a,f,e,h1,_⟩,_=>⟨a,_,e,h1,rfl,(fun z=>nomatch z),rfl⟩
 | _,.pt _ _ _,⟨a,f,e,h1,_⟩,_=>⟨a,_,e,h1,rfl,fun _=>rfl,rfl⟩
 | _,.al _ _,⟨a,e,h1⟩,_=>⟨a,_,e,h1,rfl,fun _=>rfl,rfl⟩
 | _,.fl _ _,⟨a,e,h1⟩,_=>⟨a,_,e,h1,rfl,fun _=>rfl,rfl⟩
 | _,.mv _ _ _,⟨a,f,e,h1,_⟩,_=>⟨a,_,e,h1,rfl,fun _=>rfl,rfl⟩
 | _,.yr,_,z=>absurd rfl z
theorem DdV.kd {H:Hp}:∀{v:V} {d:Dd},DdV H v d->∃a ys,v = .ref a /\ H a=some (.tup ys) /\ atI ys 0=some (.str (kdD d))
 | _,.br _ _ _,⟨a,f,e,h1,_⟩=>⟨a,_,e,h1,rfl⟩
 | _,.pt _ _ _,⟨a,f,e,h1,_⟩=>⟨a,_,e,h1,rfl⟩
 | _,.al _ _,⟨a,e,h1⟩=>⟨a,_,e,h1,rfl⟩
 | _,.fl _ _,⟨a,e,h1⟩=>⟨a,_,e,h1,rfl⟩
 | _,.mv _ _ _,⟨a,f,e,h1,_⟩=>⟨a,_,e,h1,rfl⟩
 | _,.yr,⟨a,e,h1⟩=>⟨a,_,e,h1,rfl⟩
theorem kd_br {d:Dd}:(V.str (kdD d)=V.str "bring")↔(isP d=false /\ d ≠ .yr):=by
 cases d<;>simp[kdD,isP]<;>decide +kernel
theorem kd_yr {d:Dd}:(V.str (kdD d)=V.str "year")↔d = .yr:=by
 cases d<;>simp[kdD]<;>decide +kernel
structure Hs (H:Hp)(ps:List Plc)(t:Str->Rat)(pt pr:Addr)(kvt kvr:List (Key×V)):Prop where
 dt:H pt=some (.dK kvt)
 rt:RowAt H kvt (all (allN ps) t)
 dr:H pr=some (.dK kvr)
 rr:RowAt H kvr (rmF ps)
theorem Hs.same {H H':Hp}{ps:List Plc}{t:Str->Rat}{pt pr:Addr}{kvt kvr:List (Key×V)}(h:Hs H ps t pt pr kvt kvr)(s:Same H H'):Hs H' ps t pt pr kvt kvr:=⟨s _ _ h.dt,h.rt.same fun _ _ f=>f.same s,s _ _ h.dr,h.rr.same fun _ _ f=>f.same s⟩
theorem Hs.tot {H:Hp}{ps:List Plc}{t:Str->Rat}{pt pr:Addr}{kvt kvr:List (Key×V)}(h:Hs H ps t pt pr kvt kvr){z:Str}(hz:z∈allN ps):∃v,DGet H pt (.str z) (some v) /\ FrV H v (t z):=by
 obtain⟨v,e,f⟩:=h.rt.get hz;refine⟨v,?_,f⟩;have g:=DGet.k (k:=.inr z) h.dt;rw[e]at g;exact g
theorem Hs.room {H:Hp}{ps:List Plc}{t:Str->Rat}{pt pr:Addr}{kvt kvr:List (Key×V)}(h:Hs H ps t pt pr kvt kvr){z:Str}{m:Rat}(hz:rmF ps z=some m):∃v,DGet H pr (.str z) (some v) /\ FrV H v m:=by
 obtain⟨v,e,f⟩:=h.rr.has z m hz;refine⟨v,?_,f⟩;have g:=DGet.k (k:=.inr z) h.dr;rw[e]at g;exact g
noncomputable def yN6:Sp:=fun vs H Q _=>∃(z:Str) (v:V) (n:Int) (ps:List Plc) (t:Str->Rat) (pt pr:Addr) (kvt kvr:List (Key×V)) (g:Rat),vs=[.str z,v,.int n,.ref pt,.ref pr] /\ Hs H ps t pt pr kvt kvr /\ z∈allN ps /\ FrV H v g /\ Bd 2000 g /\ Bd 2000 (t z) /\ (∀m,rmF ps z=some m->Bd 2000 m /\ t z+g<=m) /\ ∀H',Same H H'->Q .non H'
noncomputable def zV1:Sp:=fun vs H Q _=>∃(v:V) (d:Dd) (n:Int) (ps:List Plc) (t:Str->Rat) (pt pr:Addr) (kvt kvr:List (Key×V)) (i:Nat),vs=[v,.int n,.ref pt,.ref pr] /\ Hs H ps t pt pr kvt kvr /\ DdV H v d /\ isP d=true /\ OkD ps d /\ GoD ps t d /\ InT ps t i /\ i<=28 /\ Υ ps /\ ∀w H',Same H H'->FrV H' w (shD ps t d)->Q w H'
noncomputable def yE9:Sp:=fun vs H Q _=>∃(v:V) (d:Dd) (n yr:Int) (ps:List Plc) (t:Str->Rat) (pt pr:Addr) (kvt kvr:List (Key×V)) (i:Nat),vs=[v,.int n,.int yr,.ref pt,.ref pr] /\ Hs H ps t pt pr kvt kvr /\ DdV H v d /\ d ≠ .yr /\ OkD ps d /\ GoD ps t d /\ InT ps t i /\ i<=28 /\ Υ ps /\ ∀w H' s,Same H H'->StV H' w s->stD ps t yr d=[s]->Q w H'
noncomputable def adS (t:Str->Rat):Stp->(Str->Rat)
 | .br _ _ x r=>adT x r t
 | .ps x y q=>mvT x y (t x*q) t
noncomputable def FitS (L:List Str)(t:Str->Rat):Stp->Prop
 | .br _ _ x r=>x∈L /\ Bd 2000 (t x) /\ Bd 2000 r
 | .ps x y q=>x∈L /\ y∈L /\ x≠y /\ Bd 2000 (t x) /\ Bd 2000 (t y) /\ Bd 2000 q /\ Bd 2000 (t x*q)
noncomputable def zV5:Sp:=fun vs H Q _=>∃(pt:Addr) (w:V) (s:Stp) (kv:List (Key×V)) (L:List Str) (t:Str->Rat),vs=[.ref pt,w] /\ H pt=some (.dK kv) /\ RowAt H kv (all L t) /\ L.length<=8 /\ StV H w s /\ FitS L t s /\
 ∀H' kv',(∀c o,H c=some o->c≠pt->H' c=some o)->H' pt=some (.dK kv')->RowAt H' kv' (all L (adS t s))->Q .non H'
noncomputable def zV0 (K:Ă):Sp:=fun vs H Q _=>∃(ah pt:Addr) (n:Int) (ad:Addr) (xs:List V) (ps:List Plc) (kvt:List (Key×V)) (ys:List V) (ds:List Dd) (t0:Str->Rat),vs=[.ref ah,.ref pt,.int n,.ref ad] /\ SqL K H ah xs /\ Paired (PlV H) xs ps /\ HouseOk ps /\ Υ ps /\ H pt=some (.dK kvt) /\ RowAt H kvt (all (allN ps) t0) /\ SqL K H ad ys /\ Paired (DdV H) ys ds /\ Goes ps t0 n ds /\ InT ps t0 0 /\ ds.length<=12 /\
 ∀a p q H' ws kv,Same H H'->H' a=some (.tup [.ref p,.ref q])->H p=none->H q=none->H' p=some (.lst ws)->Paired (StV H') ws (run ps t0 n ds).ss->H' q=some (.dK kv)->RowAt H' kv (all (allN ps) (run ps t0 n ds).t)->Q (.ref a) H'
theorem repL {K:Ă}{H:Hp}{a:Addr}{vs:List V}{xs:List PyData}(h:SqL K H a vs)(r:RepDs K H xs vs):RepD K H (.list xs) (.ref a):=by simp only[RepD];exact⟨a,vs,rfl,h,r⟩
theorem xF9 {K:Ă}{H:Hp}:RepDs K H [] []:=by simp[RepDs]
theorem xT1 {K:Ă}{H:Hp}{d:PyData}{v:V}{ds:List PyData}{vs:List V}(h:RepD K H d v)(r:RepDs K H ds vs):RepDs K H (d::ds) (v::vs):=by simp only[RepDs];exact⟨_,_,rfl,h,r⟩
theorem zY8 {α:Type}{f:α->PyData}{n:Nat}(h:∀a,(f a).depth<=n):∀l:List α,PyData.depthAll (l.map f)<=n
 | []=>by simp[PyData.depthAll]
 | a::l=>by
  rw[ĩ];simp only[PyData.depthAll];have:=h a;have:=zY8 h l;lia
noncomputable def zQ4:Sp:=fun vs H Q _=>∃c j:Int,vs=[.int c,.int j] /\ (0<=j /\ j<4) /\ ∀(m:Int) H',0<=m->m<65551->Same H H'->Q (.int m) H'
noncomputable def zC8:Sp:=fun vs H Q _=>∃t b:Int,vs=[.int t,.int b] /\ 0<b /\ b.natAbs<2^9000 /\ ∀v H',Same H H'->FrV H' v (Ě t b)->Q v H'
noncomputable def RwV (H:Hp)(v:V)(r:Rat):Prop:=∃a t b,v = .ref a /\ H a=some (.tup [.int t,.int b]) /\ 0<b /\ r=Ě t b /\ t.natAbs<2^4000 /\ b.natAbs<2^4000
theorem _root_.Tc.FrV.rw {H:Hp}{v:V}{r:Rat}(h:FrV H v r)(b:Bd 4000 r):RwV H v r:=by
 obtain⟨a,e,h⟩:=h;exact⟨a,r.num,r.den,e,h,Þ r,(ķ r).symm,b.num,b.den⟩
noncomputable def zK0:Sp:=fun vs H Q _=>∃x y r q,vs=[x,y] /\ RwV H x r /\ RwV H y q /\ ∀v H',Same H H'->FrV H' v (r*q)->Q v H'
noncomputable def RmT (ps:List Plc):Prop:=∀z r,Plc.ck z r∈ps->10<=r /\ IsM 2 119 r
theorem RmT.ok {ps:List Plc}(h:RmT ps):Υ ps:=fun z r hz=>((h z r hz).2.up 60).mono (by decide)
noncomputable def full (ps:List Plc):Str->Rat:=fun z=>(rmF ps z).getD 0
theorem Ο {ps:List Plc}{z:Str}{r:Rat}(h:rmF ps z=some r):full ps z=r:=by unfold full;rw[h];rfl
theorem yH8 {ps:List Plc}{z:Str}(h:z∉ckN ps):full ps z=0:=by
 unfold full;cases q:rmF ps z with
 | none=>rfl
 | some r=>exact absurd (Ŷ q).1 h
theorem xJ3 {ps:List Plc}(h:RmT ps):InT ps (full ps) 0:=by
 refine⟨fun z _=>?_,fun z m e=>by rw[Ο e];exact ŋ⟩;unfold full;cases q:rmF ps z with
 | none=>exact Szd.zero 0
 | some r=>exact h.ok z r (Ŷ q).2
noncomputable def wT (ps:List Plc):(Str->Rat)->List Dd->(Str->Rat)
 | t,[]=>t
 | t,d::ds=>wT ps (ptT ps t d) ds
noncomputable def wS (ps:List Plc):(Str->Rat)->List Dd->List Stp
 | _,[]=>[]
 | t,d::ds=>stD ps t 0 d++wS ps (ptT ps t d) ds
noncomputable def wG (ps:List Plc):(Str->Rat)->List Dd->Prop
 | _,[]=>True
 | t,d::ds=>(OkD ps d /\ GoD ps t d) /\ wG ps (ptT ps t d) ds
theorem zU2 (ps:List Plc)(b:List Dd):∀(a:List Dd) (t:Str->Rat),wT ps t (a++b)=wT ps (wT ps t a) b
 | [],_=>rfl
 | d::a,t=>zU2 ps b a (ptT ps t d)
theorem zU3 (ps:List Plc)(b:List Dd):∀(a:List Dd) (t:Str->Rat),wS ps t (a++b)=wS ps t a++wS ps (wT ps t a) b
 | [],_=>rfl
 | d::a,t=>by
  show stD ps t 0 d++wS ps (ptT ps t d) (a++b)=(stD ps t 0 d++wS ps (ptT ps t d) a)++_;rw[zU3 ps b a (ptT ps t d),ţ];rfl
theorem zO8 (ps:List Plc)(b:List Dd):∀(a:List Dd) (t:Str->Rat),wG ps t (a++b)↔wG ps t a /\ wG ps (wT ps t a) b
 | [],_=>⟨fun h=>⟨trivial,h⟩,fun h=>h.2⟩
 | d::a,t=>by
  have ih:=zO8 ps b a (ptT ps t d)
  constructor
  ·intro h;exact⟨⟨h.1,(ih.mp h.2).1⟩,(ih.mp h.2).2⟩
  ·intro h;exact⟨h.1.1,ih.mpr ⟨h.1.2,h.2⟩⟩
noncomputable def nY:Stp->Stp
 | .br z _ x q=>.br z 0 x q
 | .ps x y t=>.ps x y t
theorem xF8 (ps:List Plc):∀(ds:List Dd) (s:Run),(ds.foldl (advD ps) s).t=wT ps s.t ds /\ ((ds.foldl (advD ps) s).ss).map nY=s.ss.map nY++wS ps s.t ds
 | [],s=>⟨rfl,(ļ _).symm⟩
 | d::ds,s=>by
  obtain⟨h1,h2⟩:=xF8 ps ds (advD ps s d);refine⟨h1,?_⟩;show ((ds.foldl (advD ps) (advD ps s d)).ss).map nY=s.ss.map nY++(stD ps s.t 0 d++wS ps (ptT ps s.t d) ds);rw[h2,<- ţ]
  congr 1
  show (s.ss++stD ps s.t s.n d).map nY=_;rw[Đ]
  congr 1
  cases d<;>rfl
theorem xP7 {ps:List Plc}{t0:Str->Rat}{n:Int}{ds:List Dd}(h:wG ps t0 ds):Goes ps t0 n ds:=by
 intro i d hd;have hi:=(Ą.mp hd).1;have e:ds=ds.take i++d::ds.drop (i+1):=by
  have:=Ō i ds;rw[ľ hi,(Ą.mp hd).2]at this;exact this.symm
 rw[e,zO8]at h;have e1:(run ps t0 n (ds.take i)).t=wT ps t0 (ds.take i):=(xF8 ps (ds.take i) ⟨t0,n,[]⟩).1;rw[e1];exact h.2.1
theorem zT5 (R:Str->Str->Rat):∀ss:List Stp,ε R (ss.map nY)=ε R ss
 | []=>rfl
 | .br _ _ _ _::ss=>zT5 R ss
 | .ps x y t::ss=>by
  show bw x y t (ε R (ss.map nY))=bw x y t (ε R ss);rw[zT5 R ss]
theorem xJ9 (ss:List Stp):back (ss.map nY)=back ss:=zT5 dlt ss
theorem xN8 {L:List Str}:∀{s:Stp},OkT L (nY s)->OkT L s
 | .br _ _ _ _,h=>h
 | .ps _ _ _,h=>h
theorem yC6 (b:Bool):∀(ss:List Stp) (f:Str->Rat),ledB b (ss.map nY) f=ledB b ss f
 | [],_=>rfl
 | .br z y x q::ss,f=>yC6 b ss (stB b (.br z y x q) f)
 | .ps x y t::ss,f=>yC6 b ss (stB b (.ps x y t) f)
theorem xT7 {x y:Str}(hxy:x≠y){u g:Rat}{t:Str->Rat}(e:t x*u=g):fw x y u t=mvT x y g t:=by
 funext z
 unfold fw mvT;rw[e]
 by_cases e1:z=y
 ·rw[if_pos e1,if_neg (fun e2=>hxy (e2.symm.trans e1)),if_pos e1]
 ·rw[if_neg e1,if_neg e1]
theorem xC1 {ps:List Plc}(hr:Υ ps):∀(ds:List Dd) (t:Str->Rat) (i:Nat),InT ps t i->wG ps t ds->i+2*ds.length<=28->ledB true (wS ps t ds) t=wT ps t ds
 | [],_,_,_,_,_=>rfl
 | d::ds,t,i,hI,hG,hl=>by
  rw[ğ]at hl;have hI2:=hI.put hr hG.1.1 hG.1.2;have ih:=xC1 hr ds (ptT ps t d) (i+2) hI2 hG.2 (by lia);show ledB true (stD ps t 0 d++wS ps (ptT ps t d) ds) t=wT ps (ptT ps t d) ds;rw[<- ih];cases hp:isP d with
  | true =>
   have P:=PsD.of hI hr (by lia) hp hG.1.1 hG.1.2;rw[P.st 0,P.pt];show ledB true (wS ps _ ds) (fw (frD d) (toD d) (shD ps t d) t)=_;rw[xT7 P.ne P.sh,<- P.pt]
  | false =>
   cases d with
   | br z x r=>rfl
   | yr=>rfl
   | _=>cases hp
noncomputable def Fl (ps:List Plc)(t:Str->Rat):Prop:=∀z∈ckN ps,t z=full ps z
noncomputable def RW (ps:List Plc)(D:List Dd)(S:List Stp):Prop:=∀t,Fl ps t->wG ps t D /\ Fl ps (wT ps t D) /\ wS ps t D=S
theorem RW.app {ps:List Plc}{a b:List Dd}{A B:List Stp}(h:RW ps a A)(g:RW ps b B):RW ps (a++b) (A++B):=fun t ht=>by
 obtain⟨h1,h2,h3⟩:=h t ht;obtain⟨g1,g2,g3⟩:=g _ h2;rw[zO8,zU2,zU3,h3,g3];exact⟨⟨h1,g1⟩,g2,rfl⟩
theorem RW.year {ps:List Plc}{D:List Dd}{S:List Stp}(h:RW ps D S)(a:Nat):RW ps (D.take a ++ .yr::D.drop a) S:=fun t ht=>by
 have h':=h t ht;rw[<- Ō a D]at h';rw[zO8,zU2,zU3]at h' ⊢;exact⟨⟨h'.1.1,⟨trivial,trivial⟩,h'.1.2⟩,h'.2.1,h'.2.2⟩
noncomputable def nmC (C:List Str)(i:Nat):Str:=C.getD i ""
theorem zX3 {C:List Str}{i:Nat}(h:i<C.length):C[i]?=some (nmC C i):=by
 unfold nmC;rw[Ļ,Ā h];rfl
structure Cr (ps:List Plc)(C:List Str)(am:Rat)(s:Str):Prop where
 nd:C.Nodup
 mem:∀z,z∈C↔z∈ckN ps
 s1:s∈allN ps
 s2:s∉ckN ps
 a0:0<am
 le:∀z r,rmF ps z=some r->am<=r
 a8:IsM 8 119 am
theorem Cr.sz {ps:List Plc}{C:List Str}{am:Rat}{s:Str}(h:Cr ps C am s):Szd 0 am:=(h.a8.up 15).mono (by decide)
theorem Cr.at {ps:List Plc}{C:List Str}{am:Rat}{s:Str}(h:Cr ps C am s){i:Nat}(hi:i<C.length):nmC C i∈ckN ps:=(h.mem _).mp (Ċ (zX3 hi))
theorem Cr.ne {ps:List Plc}{C:List Str}{am:Rat}{s:Str}(h:Cr ps C am s){i j:Nat}(hi:i<C.length)(hj:j<C.length)(n:i≠j):nmC C i≠nmC C j:=fun e=>by
 have h1:=zX3 hi;have h2:=zX3 hj;rw[e,<- h2]at h1;exact n (yK8 h.nd hi h1)
noncomputable def cd (C:List Str)(am:Rat)(s:Str)(b:Nat->Bool):Nat->Dd
 | 0=>.mv (nmC C 0) s am
 | i+1=>if b i then .fl (nmC C (i+1)) (nmC C i) else .mv (nmC C (i+1)) (nmC C i) am
noncomputable def cs (ps:List Plc)(C:List Str)(am:Rat)(s:Str):Nat->Stp
 | 0=>.ps (nmC C 0) s (am / full ps (nmC C 0))
 | i+1=>.ps (nmC C (i+1)) (nmC C i) (am / full ps (nmC C (i+1)))
theorem hole {ps:List Plc}{C:List Str}{am:Rat}{s:Str}(h:Cr ps C am s)(b:Nat->Bool){t:Str->Rat}(ht:Fl ps t):∀j,j<=C.length->wG ps t ((ę j).map (cd C am s b)) /\ (∀z∈ckN ps,wT ps t ((ę j).map (cd C am s b)) z=full ps z - (if 0<j /\ z=nmC C (j - 1) then am else 0)) /\ wS ps t ((ę j).map (cd C am s b))=(ę j).map (cs ps C am s)
 | 0,_=>by
  refine⟨trivial,fun z hz=>?_,rfl⟩;rw[if_neg (fun e=>absurd e.1 (by decide))];show t z=_;rw[ht z hz];grind
 | j+1,hj=>by
  obtain⟨h1,h2,h3⟩:=hole h b ht j (by lia);rw[ũ,Đ,Đ,zO8,zU2,zU3,h3];generalize wT ps t ((ę j).map (cd C am s b))=t' at h2;have hx:=h.at (show j<C.length by lia);have hxa:=Ó hx;obtain⟨rx,erx⟩:=zF7 hx;have fx:=Ο erx;cases j with
  | zero =>
   have tx:t' (nmC C 0)=full ps (nmC C 0):=by
    rw[h2 _ hx,if_neg (fun e=>absurd e.1 (by decide))];grind
   have hxs:nmC C 0≠s:=fun e=>h.s2 (e▸hx);refine⟨⟨h1,⟨⟨hx,h.s1,hxs,h.sz⟩,?_,fun m e=>absurd (Ŷ e).1 h.s2⟩,trivial⟩,fun z hz=>?_,?_⟩
   ·show am<=t' (nmC C 0);rw[tx,fx];exact h.le _ _ erx
   ·show mvT (nmC C 0) s am t' z=_;unfold mvT;have hzs:z≠s:=fun e=>h.s2 (e▸hz)
    by_cases e:z=nmC C 0
    ·rw[if_pos e,if_pos ⟨by decide,e⟩,tx,e]
    ·rw[if_neg e,if_neg hzs,h2 z hz,if_neg (fun q=>absurd q.1 (by decide)),if_neg (fun q=>e q.2)]
   ·show []++([Stp.ps (nmC C 0) s (am / t' (nmC C 0))]++[])=_;rw[tx];rfl
  | succ i =>
   have hy:=h.at (show i<C.length by lia);obtain⟨ry,ery⟩:=zF7 hy;have fy:=Ο ery;have hne:=h.ne (show i+1<C.length by lia) (show i<C.length by lia) (by lia);have tx:t' (nmC C (i+1))=full ps (nmC C (i+1)):=by
    rw[h2 _ hx,if_neg (fun e=>hne e.2)];grind
   have ty:t' (nmC C i)=full ps (nmC C i) - am:=by
    rw[h2 _ hy,if_pos ⟨by lia,rfl⟩]
   have hm:am<=t' (nmC C (i+1)):=by rw[tx,fx];exact h.le _ _ erx
   have fin:∀z∈ckN ps,mvT (nmC C (i+1)) (nmC C i) am t' z=full ps z - (if 0<i+1+1 /\ z=nmC C (i+1+1 - 1) then am else 0):=fun z hz=>by
    unfold mvT
    by_cases e:z=nmC C (i+1)
    ·rw[if_pos e,if_pos ⟨by lia,e⟩,tx,e]
    ·have e3:(if 0<i+1+1 /\ z=nmC C (i+1+1 - 1) then am else 0)=0:=if_neg (fun q=>e q.2);rw[e3,if_neg e]
     by_cases e2:z=nmC C i
     ·rw[if_pos e2,ty,e2];grind
     ·rw[if_neg e2,h2 z hz,if_neg (fun q=>e2 q.2)]
   have eg:(rmF ps (nmC C i)).getD 0 - t' (nmC C i)=am:=by
    rw[ty,ery,fy];show ry - (ry - am)=am
    grind
   cases hb:b i with
   | true =>
    have ec:cd C am s b (i+1) = .fl (nmC C (i+1)) (nmC C i):=by show (if b i then _ else _)=_;rw[hb];rfl
    rw[ĩ,List.map_nil,ec];refine⟨⟨h1,⟨⟨hx,hy,hne⟩,?_⟩,trivial⟩,fun z hz=>?_,?_⟩
    ·show (rmF ps (nmC C i)).getD 0 - t' (nmC C i)<=_;rw[eg];exact hm
    ·show mvT (nmC C (i+1)) (nmC C i) ((rmF ps (nmC C i)).getD 0 - t' (nmC C i)) t' z=_;rw[eg];exact fin z hz
    ·show _++([Stp.ps (nmC C (i+1)) (nmC C i) (((rmF ps (nmC C i)).getD 0 - t' (nmC C i)) / t' (nmC C (i+1)))]++[])=_;rw[eg,tx];rfl
   | false =>
    have ec:cd C am s b (i+1) = .mv (nmC C (i+1)) (nmC C i) am:=by show (if b i then _ else _)=_;rw[hb];rfl
    rw[ĩ,List.map_nil,ec];refine⟨⟨h1,⟨⟨hx,Ó hy,hne,h.sz⟩,hm,fun m e=>?_⟩,trivial⟩,fun z hz=>?_,?_⟩
    ·rw[ery]at e;cases e;rw[ty,fy];grind
    ·exact fin z hz
    ·show _++([Stp.ps (nmC C (i+1)) (nmC C i) (am / t' (nmC C (i+1)))]++[])=_;rw[tx];rfl
theorem xJ7 {ps:List Plc}{C:List Str}{am:Rat}{s:Str}(h:Cr ps C am s)(b:Nat->Bool)(c1:1<=C.length){zz:Str}(lz:Lay zz):RW ps ((ę C.length).map (cd C am s b)++[.br zz (nmC C (C.length - 1)) am]) ((ę C.length).map (cs ps C am s)++[.br zz 0 (nmC C (C.length - 1)) am]):=fun t ht=>by
 obtain⟨h1,h2,h3⟩:=hole h b ht C.length (ą _);rw[zO8,zU2,zU3,h3];generalize wT ps t ((ę C.length).map (cd C am s b))=t' at h2;have hx:=h.at (show C.length - 1<C.length by lia);have tx:t' (nmC C (C.length - 1))=full ps (nmC C (C.length - 1)) - am:=by rw[h2 _ hx,if_pos ⟨by lia,rfl⟩]
 refine⟨⟨h1,⟨⟨hx,lz,h.sz⟩,fun m e=>?_⟩,trivial⟩,fun z hz=>?_,rfl⟩
 ·rw[tx,Ο e];grind
 ·show adT (nmC C (C.length - 1)) am t' z=_;unfold adT
  by_cases e:z=nmC C (C.length - 1)
  ·rw[if_pos e,tx,e];grind
  ·rw[if_neg e,h2 z hz,if_neg (fun q=>e q.2)];grind
theorem xH1 {ps:List Plc}(rm:RmT ps){p s z:Str}{r l:Rat}(hp:rmF ps p=some r)(s1:s∈allN ps)(s2:s∉ckN ps)(lz:Lay z)(l0:0<=l)(l1:l<=1)(ld:l.den∣60):RW ps [.pt p s l,.br z p (r*l)] [.ps p s l,.br z 0 p (r*l)]:=fun t ht=>by
 have hpc:=(Ŷ hp).1;have fp:=Ο hp;have tp:=ht p hpc;have hps:p≠s:=fun e=>s2 (e▸hpc);have hR:=rm p r (Ŷ hp).2;have r0:0<=r:=hR.2.1;have hz:Szd 0 (r*l):=by
  obtain⟨c,hc⟩:=ld;have g:=(hR.2.mulL l0 l1).up c;have e2:2*l.den*c=120:=by rw[ĵ,<- hc]
  rw[e2]at g;exact g.mono (by decide)
 have le1:r*l<=r:=by
  have:=Rat.mul_le_mul_of_nonneg_left l1 r0
  rwa [Rat.mul_one]at this
 refine⟨⟨⟨⟨hpc,s1,hps,l0,l1,ld⟩,?_,fun m e=>absurd (Ŷ e).1 s2⟩,⟨⟨hpc,lz,hz⟩,fun m e=>?_⟩,trivial⟩,fun y hy=>?_,rfl⟩
 ·rw[tp,fp];exact le1
 ·rw[hp]at e;cases e;show mvT p s (t p*l) t p+r*l<=r;unfold mvT;rw[if_pos rfl,tp,fp];grind
 ·show adT p (r*l) (mvT p s (t p*l) t) y=full ps y;unfold adT mvT
  by_cases e:y=p
  ·rw[if_pos e,if_pos rfl,tp,fp,e,fp];grind
  ·have hys:y≠s:=fun q=>s2 (q▸hy);rw[if_neg e,if_neg e,if_neg hys];exact ht y hy
noncomputable def NmV (H:Hp)(an:Addr)(L:List Str):Prop:=H an=some (.lst (L.map V.str)) /\ L.length=9 /\ L.Nodup /\ ∀z∈L,Lay z
noncomputable def xL2:Sp:=fun vs H Q _=>∃c:Int,vs=[.int c] /\ ∀a H' (L:List Str),Same H H'->NmV H' a L->Q (.ref a) H'
structure HsC (H:Hp)(ah:Addr)(xs:List V)(ps:List Plc)(L:List Str)(m:Nat):Prop where
 at':H ah=some (.lst xs)
 pl:Paired (PlV H) xs ps
 ok:HouseOk ps
 rm:RmT ps
 ck:ckN ps=L.take m
 m2:2<=m
 m4:m<=4
 sk:∀j z,(j=4 \/ j=5)->L[j]?=some z->z∈allN ps /\ z∉ckN ps
theorem HsC.same {H H':Hp}{ah:Addr}{xs:List V}{ps:List Plc}{L:List Str}{m:Nat}(h:HsC H ah xs ps L m)(s:Same H H'):HsC H' ah xs ps L m:=⟨s _ _ h.at',à h.pl s,h.ok,h.rm,h.ck,h.m2,h.m4,h.sk⟩
noncomputable def zV2:Sp:=fun vs H Q _=>∃(c:Int) (an:Addr) (L:List Str),vs=[.int c,.ref an] /\ NmV H an L /\ ∀p H' xs ps m,Same H H'->HsC H' p xs ps L m->Q (.ref p) H'
noncomputable def SOk (ps:List Plc)(S:List Stp):Prop:=(∀s∈S,OkT (allN ps) s) /\ S.length<=7 /\ ∀x∈ckN ps,Leak (ckN ps) (back S) x
noncomputable def yN0 (K:Ă):Sp:=fun vs H Q _=>∃(ah an ac:Addr) (xs:List V) (ps:List Plc) (L:List Str) (m:Nat) (cl:List Int),vs=[.ref ah,.ref an,.ref ac] /\ HsC H ah xs ps L m /\ NmV H an L /\ H ac=some (.lst (cl.map V.int)) /\ cl.length=5 /\
 ∀r H' pl ys la ds S,Same H H'->H' r=some (.tup [.ref pl,.int la])->H' pl=some (.lst ys)->Paired (DdV H') ys ds->ds.length<=8->RW ps ds S->SOk ps S->Q (.ref r) H'
noncomputable def yF3:Sp:=fun vs H Q _=>∃(pr pt:Addr) (H0:Hp) (rows kt:List (Key×V)) (ad:Str->Addr) (C L:List Str) (R:Str->Str->Rat) (f:Str->Rat) (D E W:Nat),vs=[.ref pr,.ref pt] /\ (∃u,H pr=some u /\ (u = .dK rows \/ ∃o,u = .frz o (.dK rows))) /\ TabAt H0 H pr rows C (resC C R) ad /\ nms rows=C /\ C.Nodup /\ C.length<=5 /\ (∀x∈C,x∈L) /\ Good L D R /\ 0<D /\ D<=2^100 /\
 H pt=some (.dK kt) /\ RowAt H kt (all C f) /\ pt≠pr /\ (∀x∈C,ad x≠pt) /\ 0<E /\ E<=W /\ W<=2^3000 /\ (∀z∈C,Cd E W (f z)) /\
 ∀p H' kv,H p=none->Same H H'->H' p=some (.dK kv)->RowAt H' kv (all C (ldR C R f))->Q (.ref p) H'
noncomputable def yN3:Sp:=fun vs H Q _=>∃(pr:Addr) (H0:Hp) (rows:List (Key×V)) (ad:Str->Addr) (ps:List Plc) (ss:List Stp) (C:List Str) (D k:Nat),vs=[.ref pr,.int (k:Nat)] /\ RwsV H0 H pr rows ad ps ss C /\ (∀x∈C,x∈allN ps) /\ Good (allN ps) D (back ss) /\ 0<D /\ D<=2^100 /\ k<=8 /\
 ∀p H' vs,Same H H'->H' p=some (.lst vs)->Paired (FrV H') vs (C.map (stay C (back ss) k))->Q (.ref p) H'
noncomputable def yF5:Sp:=fun vs H Q _=>∃(pr q:Addr) (H0:Hp) (rows:List (Key×V)) (ad:Str->Addr) (ps:List Plc) (ss:List Stp) (C:List Str) (D k:Nat) (f:V) (r:Rat),vs=[.ref pr,.ref q] /\ RwsV H0 H pr rows ad ps ss C /\ (∀x∈C,x∈allN ps) /\ Good (allN ps) D (back ss) /\ 0<D /\ D<=2^100 /\ H q=some (.tup [.int (k:Nat),f]) /\ FrV H f r /\ 1<=k /\ k<=5 /\ (∀x∈C,stay C (back ss) k x<=r) /\ (∃x∈C,stay C (back ss) k x=r) /\ r<1 /\ (∀j,j<k->∃x∈C,stay C (back ss) j x=1) /\ ∀H',Same H H'->Q (.bl true) H'
noncomputable def yN7 (K:Ă):Sp:=fun vs H Q _=>∃(ah as pr pt:Addr) (xs:List V) (ps:List Plc) (ys:List V) (ss:List Stp) (H0:Hp) (rows kt:List (Key×V)) (ad:Str->Addr) (C:List Str) (X:Str->Rat) (n:Nat),vs=[.ref ah,.ref as,.ref pr,.ref pt,.int (n:Nat)] /\ HsV K H ah as xs ps ys ss /\ RwsV H0 H pr rows ad ps ss C /\ H pt=some (.dK kt) /\ RowAt H kt (all C X) /\ pt≠pr /\ (∀x∈C,ad x≠pt) /\ (∀x∈ckN ps,Leak (ckN ps) (back ss) x) /\ (∀z∈ckN ps,X z=ldR (ckN ps) (back ss) X z+bT ss z) /\ (∀z∈C,Cd 2 (2^10) (X z)) /\ n<=4 /\ ∀H',Same H H'->Q (.bl true) H'
noncomputable def yF2 (K:Ă):Sp:=fun vs H Q _=>∃(ah as pr pt:Addr) (xs:List V) (ps:List Plc) (ys:List V) (ss:List Stp) (H0:Hp) (rows kt:List (Key×V)) (ad:Str->Addr) (C:List Str) (X:Str->Rat),vs=[.ref ah,.ref as,.ref pr,.ref pt] /\ HsV K H ah as xs ps ys ss /\ RwsV H0 H pr rows ad ps ss C /\ H pt=some (.dK kt) /\ RowAt H kt (all C X) /\ pt≠pr /\ (∀x∈C,ad x≠pt) /\ (∀x∈ckN ps,Leak (ckN ps) (back ss) x) /\ (∀z∈ckN ps,X z=ldR (ckN ps) (back ss) X z+bT ss z) /\ (∀z∈C,Cd 2 (2^10) (X z) /\ X z≠0) /\ ∀H',Same H H'->Q (.bl true) H'
theorem yO0 {P k j:Nat}{r q:Rat}(hP:0<P)(h:IsM P k r)(g:IsM P j q)(hq:q≠0):(r / q).den<=j*P:=by
 obtain⟨m,hm,e⟩:=IsM.eq hP h;obtain⟨n,hn,f⟩:=IsM.eq hP g;have hn0:n≠0:=by
  rintro rfl;apply hq;rw[f,Į];have:(((0:Nat):Int):Rat)=0:=rfl;rw[this]
  grind
 have e2:r / q=Ě m n:=by
  rw[e,f,Į,Į,Į,Ĵ,Ĵ,Ĵ];have:=ς hP;have:=ς (show 0<n by lia)
  grind
 rw[e2];have:=zY1 m n (by lia);lia
theorem xQ7 {g u:Rat}(h0:0<g)(h1:g<=u):0<g / u /\ g / u<=1:=by
 have hu:0<u:=by grind
 have e:u≠0:=fun z=>by rw[z]at hu;exact absurd hu (by decide)
 have hi:=Rat.inv_pos.mpr hu;have e1:u*u⁻¹=1:=Rat.mul_inv_cancel _ e;have h2:=Rat.mul_le_mul_of_nonneg_right h1 (ĺ hi);rw[e1]at h2;rw[Rat.div_def];exact⟨Rat.mul_pos h0 hi,h2⟩
theorem Cr.share {ps:List Plc}{C:List Str}{am:Rat}{s:Str}(h:Cr ps C am s)(rm:RmT ps){x y:Str}(hx:x∈ckN ps)(hy:y∈allN ps)(hxy:x≠y):OkT (allN ps) (.ps x y (am / full ps x)) /\ 0<am / full ps x /\ am / full ps x<=1:=by
 obtain⟨r,hr⟩:=zF7 hx;rw[Ο hr];have R:=rm x r (Ŷ hr).2;have d01:=xQ7 h.a0 (h.le x r hr);have rne:r≠0:=fun z=>by
  have:=R.1;rw[z]at this;exact absurd this (by decide)
 have d:=yO0 (P:=8) (by decide) h.a8 (R.2.up 4) rne;exact⟨⟨⟨Ó hx,hy,hxy,ĺ d01.1,d01.2,ď d (by decide)⟩,Č d (by decide)⟩,d01⟩
theorem xU8 {ps:List Plc}{C:List Str}{am:Rat}{s:Str}(h:Cr ps C am s)(rm:RmT ps):∀{i:Nat},i<C.length->OkT (allN ps) (cs ps C am s i)
 | 0,hi=>(h.share rm (h.at hi) h.s1 fun e=>h.s2 (e▸h.at hi)).1
 | i+1,hi=>(h.share rm (h.at hi) (Ó (h.at (show i<C.length by lia))) (h.ne hi (by lia) (by lia))).1
noncomputable def ChP (C:List Str)(ch:List Stp):Prop:=ch.length=C.length /\ ∀(k:Nat) (x:Str),C[k]?=some x->∃y t,ch[k]?=some (.ps x y t) /\ 0<t /\ t<=1 /\ ((k=0 /\ y∉C) \/ ∃k',k=k'+1 /\ C[k']?=some y)
theorem yI2 {ps:List Plc}{C:List Str}{am:Rat}{s:Str}(h:Cr ps C am s)(rm:RmT ps):ChP C ((ę C.length).map (cs ps C am s)):=by
 refine⟨by rw[ā,ŀ],fun k x hx=>?_⟩;have hk:=(Ą.mp hx).1;have ex:x=nmC C k:=by
  have:=zX3 hk;rw[hx]at this;exact Option.some.inj this
 subst ex;have e1:((ę C.length).map (cs ps C am s))[k]?=some (cs ps C am s k):=by rw[Ĉ,List.getElem?_range hk];rfl
 cases k with
 | zero =>
  have d:=h.share rm (h.at hk) h.s1 fun e=>h.s2 (e▸h.at hk);exact⟨s,_,e1,d.2.1,d.2.2,.inl ⟨rfl,fun e=>h.s2 ((h.mem s).mp e)⟩⟩
 | succ k =>
  have d:=h.share rm (h.at hk) (Ó (h.at (show k<C.length by lia))) (h.ne hk (by lia) (by lia));exact⟨nmC C k,_,e1,d.2.1,d.2.2,.inr ⟨k,rfl,zX3 (by lia)⟩⟩
noncomputable def KeyL (C:List Str)(R:Str->Str->Rat):Prop:=∀(k:Nat) (x:Str),C[k]?=some x->∃y,R x y≠0 /\ ((k=0 /\ y∉C) \/ ∃k',k=k'+1 /\ C[k']?=some y)
theorem yV9 {x y n:Str}{t:Rat}{ss:List Stp}(h:n≠x):back (.ps x y t::ss) n=back ss n:=by
 show bw x y t (back ss) n=_;unfold bw;rw[if_neg h]
theorem yW0 (x y:Str)(t:Rat)(ss:List Stp)(z:Str):back (.ps x y t::ss) x z=back ss x z*(1 - t)+back ss y z*t:=by
 show bw x y t (back ss) x z=_;unfold bw;rw[if_pos rfl]
theorem zK8 {n:Str}{bs:List Stp}:∀{as:List Stp},(∀x y t,Stp.ps x y t∈as->x≠n)->back (as++bs) n=back bs n
 | [],_=>rfl
 | .br _ _ _ _::as,h=>zK8 (as:=as) fun x y t hs=>h x y t (ă _ hs)
 | .ps x y t::as,h=>by
  show back (.ps x y t::(as++bs)) n=_;rw[yV9 (h x y t Ć).symm];exact zK8 (as:=as) fun x y t hs=>h x y t (ă _ hs)
theorem zZ9 {n:Str}{as:List Stp}(h:∀x y t,Stp.ps x y t∈as->x≠n):back as n=dlt n:=by
 have:=zK8 (bs:=[]) h;rw[ļ]at this;exact this
theorem xQ4 (n z:Str):0<=dlt n z:=by unfold dlt;split<;>decide
theorem yW1 {C:List Str}(hn:C.Nodup){i j:Nat}{x:Str}(hi:C[i]?=some x)(hj:C[j]?=some x):i=j:=yK8 hn (Ą.mp hi).1 (hi.trans hj.symm)
theorem xE1 {C:List Str}{ch:List Stp}(hC:C.Nodup)(h:ChP C ch):KeyL C (back ch):=by
 have stepat:∀{j:Nat} {x y:Str} {t:Rat},ch[j]?=some (.ps x y t)->C[j]?=some x:=fun {j x y t} e=>by
  have hj:j<C.length:=by rw[<- h.1];exact(Ą.mp e).1
  obtain⟨x',hx'⟩:∃x',C[j]?=some x':=⟨_,Ā hj⟩;obtain⟨y',t',e',_⟩:=h.2 j x' hx';rw[e]at e';cases e';exact hx'
 intro k x hx;obtain⟨y,t,hk,t0,t1,alt⟩:=h.2 k x hx;refine⟨y,?_,alt⟩;have hkl:=(Ą.mp hk).1;have e:ch=ch.take k ++ .ps x y t::ch.drop (k+1):=by
  have:=Ō k ch;rw[ľ hkl,(Ą.mp hk).2]at this;exact this.symm
 have h1:∀x' y' t',Stp.ps x' y' t'∈ch.take k->x'≠x:=fun x' y' t' hs ex=>by
  obtain⟨j,hj,ej⟩:=ě hs;rw[ċ]at hj;rw[List.getElem_take]at ej;have:=stepat (j:=j) (by rw[Ā (by lia),ej]);rw[ex]at this;have:=yW1 hC this hx;lia
 have h2:∀x' y' t',Stp.ps x' y' t'∈ch.drop (k+1)->x'≠y:=fun x' y' t' hs ex=>by
  obtain⟨j,hj,ej⟩:=ě hs;rw[Ĩ]at hj;rw[List.getElem_drop]at ej;have:=stepat (j:=k+1+j) (by rw[Ā (by lia),ej]);rw[ex]at this;rcases alt with⟨_,hy⟩ | ⟨k',ek,hy⟩
  ·exact hy (Ċ this)
  ·have:=yW1 hC this hy;lia
 have h3:∀x' y' t',Stp.ps x' y' t'∈ch.drop (k+1)->x'≠x:=fun x' y' t' hs ex=>by
  obtain⟨j,hj,ej⟩:=ě hs;rw[Ĩ]at hj;rw[List.getElem_drop]at ej;have:=stepat (j:=k+1+j) (by rw[Ā (by lia),ej]);rw[ex]at this;have:=yW1 hC this hx;lia
 rw[e,zK8 h1,yW0,zZ9 h3,zZ9 h2];have e1:dlt y y=(1:Rat):=by unfold dlt;rw[if_pos rfl]
 rw[e1];have:=ġ (xQ4 x y) (show 0<=1 - t by grind)
 grind
theorem xA0 {C L:List Str}{R:Str->Str->Rat}{D:Nat}(hC:C.Nodup)(hL:L.Nodup)(hCL:∀x∈C,x∈L)(G:Good L D R)(key:KeyL C R):∀(k:Nat) (x:Str),C[k]?=some x->Leak C R x:=by
 intro k
 induction k with
 | zero =>
  intro x hx;have hxC:=Ċ hx;obtain⟨y,h1,alt⟩:=key 0 x hx;rcases alt with⟨_,hy⟩ | ⟨k',ek,_⟩
  ·exact .now hxC ((yQ9 hC hL hCL (fun z=>(G.part x (hCL x hxC) z).1) (G.all x (hCL x hxC))).mpr ⟨y,G.sup x (hCL x hxC) y h1,hy,h1⟩)
  ·lia
 | succ k ih =>
  intro x hx;have hxC:=Ċ hx;obtain⟨y,h1,alt⟩:=key (k+1) x hx;rcases alt with⟨e,_⟩ | ⟨k',ek,hy⟩
  ·lia
  ·have:k'=k:=by lia
   rw[this]at hy;exact .via hxC (Ċ hy) h1 (ih y hy)
theorem zJ3 (z:Str)(n:Int)(x:Str)(q:Rat)(b:List Stp):∀a:List Stp,back (a ++ .br z n x q::b)=back (a++b)
 | []=>rfl
 | .br _ _ _ _::a=>zJ3 z n x q b a
 | .ps x' y' t'::a=>by
  show bw x' y' t' (back (a ++ .br z n x q::b))=bw x' y' t' (back (a++b));rw[zJ3 z n x q b a]
theorem yN9 {ps:List Plc}{C:List Str}{am:Rat}{s:Str}(ok:HouseOk ps)(h:Cr ps C am s){S:List Stp}(h1:∀s∈S,OkT (allN ps) s)(h2:S.length<=7)(key:KeyL C (back S)):SOk ps S:=by
 refine⟨h1,h2,fun x hx=>?_⟩;have hCL:∀x∈C,x∈allN ps:=fun x hx=>Ó ((h.mem x).mp hx);have hxC:=(h.mem x).mpr hx;obtain⟨k,hk,e⟩:=ě hxC;have:=xA0 h.nd ok.nd hCL (ø ok.nd fun s hs=>(h1 s hs).1) key k x (by rw[Ā hk,e]);exact this.same h.nd ok.ck h.mem
theorem yF6 {ps:List Plc}{C:List Str}{am:Rat}{s:Str}(ok:HouseOk ps)(rm:RmT ps)(h:Cr ps C am s)(c4:C.length<=4)(c1:1<=C.length){zz:Str}(lz:Lay zz):SOk ps ((ę C.length).map (cs ps C am s)++[.br zz 0 (nmC C (C.length - 1)) am]):=by
 have hO:∀s'∈(ę C.length).map (cs ps C am s),OkT (allN ps) s':=fun s' hs=>by
  obtain⟨i,hi,rfl⟩:=Ė.mp hs;exact xU8 h rm (ŏ.mp hi)
 refine yN9 ok h (fun s' hs=>?_) ?_ ?_
 ·rcases ĝ.mp hs with e | e
  ·exact hO s' e
  ·rw[ė.mp e];exact⟨⟨Ó (h.at (show C.length - 1<C.length by lia)),lz⟩,(h.a8.up 15).mono (by decide)⟩
 ·rw[Ď,ā,ŀ];show C.length+1<=7;lia
 ·have e:=zJ3 zz 0 (nmC C (C.length - 1)) am [] ((ę C.length).map (cs ps C am s));rw[ļ]at e;rw[e];exact xE1 h.nd (yI2 h rm)
theorem yX5 {ps:List Plc}{C:List Str}{am:Rat}{s:Str}(ok:HouseOk ps)(rm:RmT ps)(h:Cr ps C am s)(c4:C.length<=4)(c1:1<=C.length){zz:Str}(lz:Lay zz){p s4 z7:Str}{r l:Rat}(hp:rmF ps p=some r)(s1:s4∈allN ps)(s2:s4∉ckN ps)(l7:Lay z7)(l0:0<l)(l1:l<1)(ld:l.den∣60) :
  SOk ps ([.ps p s4 l,.br z7 0 p (r*l)]++((ę C.length).map (cs ps C am s)++[.br zz 0 (nmC C (C.length - 1)) am])) /\ SOk ps (((ę C.length).map (cs ps C am s)++[.br zz 0 (nmC C (C.length - 1)) am])++[.ps p s4 l,.br z7 0 p (r*l)]):=by
 have hpc:=(Ŷ hp).1;have hps:p≠s4:=fun e=>s2 (e▸hpc);have hR:=rm p r (Ŷ hp).2;have ld60:=Nat.le_of_dvd (by decide) ld;have o1:OkT (allN ps) (.ps p s4 l):=⟨⟨Ó hpc,s1,hps,ĺ l0,ĺ l1,ď ld60 (by decide)⟩,Č ld60 (by decide)⟩;have o2:OkT (allN ps) (.br z7 0 p (r*l)):=by
  refine⟨⟨Ó hpc,l7⟩,?_⟩;obtain⟨c,hc⟩:=ld;have g:=(hR.2.mulL (ĺ l0) (ĺ l1)).up c;have e2:2*l.den*c=120:=by rw[ĵ,<- hc]
  rw[e2]at g;exact g.mono (by decide)
 obtain⟨k1,k2,_⟩:=yF6 ok rm h c4 c1 lz;have hO:∀s'∈(ę C.length).map (cs ps C am s),OkT (allN ps) s':=fun s' hs=>k1 s' (ĝ.mpr (.inl hs));have hOs:∀s'∈(ę C.length).map (cs ps C am s),OkS (allN ps) s':=fun s' hs=>(hO s' hs).1;have key:=xE1 h.nd (yI2 h rm);have G:=ø ok.nd hOs;have hCL:∀x∈C,x∈allN ps:=fun x hx=>Ó ((h.mem x).mp hx);have ll:(ę C.length).length=C.length:=ŀ
 constructor
 ·refine yN9 ok h (fun s' hs=>?_) ?_ ?_
  ·rcases ĝ.mp hs with e | e
   ·rcases Ē.mp e with e | e
    ·rw[e];exact o1
    ·rw[ė.mp e];exact o2
   ·exact k1 s' e
  ·rw[Ď,Ď,ā,ll];show 2+(C.length+1)<=7;lia
  ·have e:back ([.ps p s4 l,.br z7 0 p (r*l)]++((ę C.length).map (cs ps C am s)++[.br zz 0 (nmC C (C.length - 1)) am]))=back (.ps p s4 l::(ę C.length).map (cs ps C am s)):=by
    have e1:=zJ3 zz 0 (nmC C (C.length - 1)) am [] (.ps p s4 l::(ę C.length).map (cs ps C am s));rw[ļ]at e1;exact e1
   rw[e];intro k x hx;obtain⟨y,hy,alt⟩:=key k x hx;refine⟨y,?_,alt⟩
   by_cases ex:x=p
   ·rw[ex,yW0];rw[ex]at hy;have hpL:=Ó hpc;have n1:=zP1 (G.part p hpL y).1 hy;have n2:=Rat.mul_pos n1 (show 0<1 - l by grind);have n3:=ġ (G.part s4 s1 y).1 (ĺ l0)
    grind
   ·rw[yV9 ex];exact hy
 ·refine yN9 ok h (fun s' hs=>?_) ?_ ?_
  ·rcases ĝ.mp hs with e | e
   ·exact k1 s' e
   ·rcases Ē.mp e with e | e
    ·rw[e];exact o1
    ·rw[ė.mp e];exact o2
  ·rw[Ď,Ď,ā,ll];show C.length+1+2<=7;lia
  ·have e:back (((ę C.length).map (cs ps C am s)++[.br zz 0 (nmC C (C.length - 1)) am])++[.ps p s4 l,.br z7 0 p (r*l)])=back ((ę C.length).map (cs ps C am s)++[.ps p s4 l]):=by
    rw[ţ];have e1:=zJ3 zz 0 (nmC C (C.length - 1)) am [.ps p s4 l,.br z7 0 p (r*l)] ((ę C.length).map (cs ps C am s));have e2:=zJ3 z7 0 p (r*l) [] ((ę C.length).map (cs ps C am s)++[.ps p s4 l]);rw[ļ,ţ]at e2;exact e1.trans e2
   rw[e,zO1 _ o1.1];intro k x hx;obtain⟨y,hy,alt⟩:=key k x hx;refine⟨y,?_,alt⟩;have hxL:=hCL x (Ċ hx);show fw p s4 l (back ((ę C.length).map (cs ps C am s)) x) y≠0;have n1:=zP1 (G.part x hxL y).1 hy;have n0:=(G.part x hxL p).1;unfold fw
   by_cases e1:y=s4
   ·rw[if_pos e1,<- e1];have:=ġ n0 (ĺ l0)
    grind
   ·rw[if_neg e1]
    by_cases e2:y=p
    ·rw[if_pos e2,<- e2];have:=Rat.mul_pos n1 (show 0<1 - l by grind)
     grind
    ·rw[if_neg e2];exact hy
theorem xL7 {a b:Int}(h0:20<=a)(h1:a<=119)(hb:b=1 \/ b=2):10<=Ě a b /\ IsM 2 119 (Ě a b):=by
 obtain⟨n,rfl⟩:=Ğ (show 0<=a by lia);have e2:((2:Nat):Rat)=2:=rfl;have en:(((n:Nat):Int):Rat)=(n:Rat):=rfl;have h20:(20:Rat)<=(n:Rat):=by
  have:((20:Nat):Rat)<=(n:Rat):=Rat.natCast_le_natCast.mpr (by lia);exact this
 rcases hb with rfl | rfl
 ·have e:Ě (n:Nat) 1=(n:Rat):=by
   rw[Į,en];have:((1:Int):Rat)=1:=rfl;rw[this];grind
  rw[e];refine⟨by grind,Rat.natCast_nonneg,n*2,by lia,?_⟩;rw[Ģ]
 ·have e:Ě (n:Nat) 2=(n:Rat) / 2:=by
   rw[Į,en];rfl
  rw[e];refine⟨by grind,by grind,n,by lia,?_⟩;rw[e2];grind
theorem xJ0 {L:List Str}(L9:L.length=9)(nd:L.Nodup)(lay:∀z∈L,Lay z){cs:List Plc}{m:Nat}(m2:2<=m)(m4:m<=4)(ec:allN cs=L.take m)(ic:∀p∈cs,isC p=true)(ro:RmT cs)(j:Nat){z4 z5:Str}(h4:L[4]?=some z4)(h5:L[5]?=some z5) :
  HouseOk ((cs.take j++Plc.sk z4::cs.drop j)++[Plc.sk z5]) /\ RmT ((cs.take j++Plc.sk z4::cs.drop j)++[Plc.sk z5]) /\ ckN ((cs.take j++Plc.sk z4::cs.drop j)++[Plc.sk z5])=L.take m /\ ∀j' z,(j'=4 \/ j'=5)->L[j']?=some z->z∈allN ((cs.take j++Plc.sk z4::cs.drop j)++[Plc.sk z5]) /\ z∉ckN ((cs.take j++Plc.sk z4::cs.drop j)++[Plc.sk z5]):=by
 have lc:cs.length=m:=by
  have:=congrArg List.length ec;unfold allN at this;rw[ā,ċ]at this;lia
 have pm:((cs.take j++Plc.sk z4::cs.drop j)++[Plc.sk z5]).Perm (cs++[Plc.sk z4,Plc.sk z5]):=by
  have h1:(cs.take j++Plc.sk z4::cs.drop j).Perm (Plc.sk z4::cs):=by
   have:=List.perm_middle (a:=Plc.sk z4) (l₁:=cs.take j) (l₂:=cs.drop j)
   rwa [Ō]at this
  have h2:(Plc.sk z4::cs).Perm (cs++[Plc.sk z4]):=List.perm_append_comm (l₁:=[Plc.sk z4]);have h3:=(h1.trans h2).append_right [Plc.sk z5];have e:cs++[Plc.sk z4]++[Plc.sk z5]=cs++[Plc.sk z4,Plc.sk z5]:=by rw[ţ];rfl
  rw[e]at h3;exact h3
 have ed:(L.drop 4).take 2=[z4,z5]:=by
  have l4:4<L.length:=by lia
  have l5:5<L.length:=by lia
  rw[ľ l4,ľ l5,(Ą.mp h4).2,(Ą.mp h5).2];rfl
 have ea:allN (cs++[Plc.sk z4,Plc.sk z5])=L.take m++(L.drop 4).take 2:=by
  rw[ed,<- ec];unfold allN;rw[Đ];rfl
 have sub:(L.take m++(L.drop 4).take 2).Sublist L:=by
  have h1:(L.take m).Sublist (L.take 4):=by
   have:L.take m=(L.take 4).take m:=by rw[List.take_take,Nat.min_eq_left m4]
   rw[this];exact List.take_sublist _ _
  have:=h1.append (List.take_sublist 2 (L.drop 4))
  rwa [Ō]at this
 have n1:(allN (cs++[Plc.sk z4,Plc.sk z5])).Nodup:=by rw[ea];exact nd.sublist sub
 have pa:(allN ((cs.take j++Plc.sk z4::cs.drop j)++[Plc.sk z5])).Perm (allN (cs++[Plc.sk z4,Plc.sk z5])):=pm.map nmP;have fcs:cs.filter isC=cs:=List.filter_eq_self.mpr ic;have eck:ckN ((cs.take j++Plc.sk z4::cs.drop j)++[Plc.sk z5])=L.take m:=by
  have e1:((cs.take j++Plc.sk z4::cs.drop j)++[Plc.sk z5]).filter isC=cs:=by
   rw[Ķ,Ķ];have e2:(Plc.sk z4::cs.drop j).filter isC=(cs.drop j).filter isC:=rfl;have e3:[Plc.sk z5].filter isC=[]:=rfl;rw[e2,e3,ļ,<- Ķ,Ō,fcs]
  unfold ckN;rw[e1];exact ec
 refine⟨⟨pa.nodup_iff.mpr n1,fun z hz=>?_,?_⟩,fun z r h=>?_,eck,fun j' z hj e=>?_⟩
 ·have:=pa.mem_iff.mp hz;rw[ea]at this;exact lay z (sub.subset this)
 ·rw[pm.length_eq,Ď,lc];show m+2<=8;lia
 ·have:=pm.mem_iff.mp h;rcases ĝ.mp this with e | e
  ·exact ro z r e
  ·rcases Ē.mp e with e | e
   ·cases e
   ·have:=ė.mp e;cases this
 ·have hz:z∈[z4,z5]:=by
   rcases hj with rfl | rfl
   ·rw[h4]at e;cases e;simp
   ·rw[h5]at e;cases e;simp
  constructor
  ·rw[pa.mem_iff,ea,ed];exact ĝ.mpr (.inr hz)
  ·rw[eck];intro hc;rw[ea,ed]at n1;exact(œ.mp n1).2.2 _ hc z hz rfl
noncomputable def lt (i:Int):Nat:=LT.cps.toList.getD i.toNat 0
theorem xT8 {i:Int}(h0:0<=i)(h1:i<26):atI LT.cps.toList i=some (lt i):=by
 obtain⟨j,rfl⟩:=Ğ h0;have hj:j<LT.cps.toList.length:=by rw[xO2];lia
 refine(ò (Ā hj)).trans ?_;unfold lt;rw[Ő,Ļ,Ā hj];rfl
theorem lt_ok:∀j∈ę 26,lt (j:Nat)<1114112 /\ ∀k∈ę 26,lt (j:Nat)=lt (k:Nat)->j=k:=by decide +kernel
theorem xO4 {i j:Int}(h0:0<=i)(h1:i<26)(g0:0<=j)(g1:j<26)(e:lt i=lt j):i=j:=by
 obtain⟨a,rfl⟩:=Ğ h0;obtain⟨b,rfl⟩:=Ğ g0;rw[(lt_ok a (ŏ.mpr (by lia))).2 b (ŏ.mpr (by lia)) e]
theorem xO3 {i:Int}(h0:0<=i)(h1:i<26):lt i<1114112:=by
 obtain⟨a,rfl⟩:=Ğ h0;exact(lt_ok a (ŏ.mpr (by lia))).1
noncomputable def sg (ds:List Int)(at':Int)(j k:Nat):Int:=(ds.getD k 0+(0+(j:Int))*(if decide (V.int (0+(k:Int))=V.int at')=true then 1 else 0)).fmod 26
noncomputable def cj (ds:List Int)(at':Int)(j:Nat):List Nat:=(ę ds.length).map fun k=>lt (sg ds at' j k)
noncomputable def nmJ (ds:List Int)(at':Int)(j:Nat):Str:=Txt.join "" ((cj ds at' j).map one1)
theorem sg_b (ds:List Int)(at':Int)(j k:Nat):0<=sg ds at' j k /\ sg ds at' j k<26:=ù (by decide)
theorem xI0 {ds:List Int}{a:Nat}{i j:Nat}(ha:a<ds.length)(hi:i<9)(hj:j<9)(e:nmJ ds (a:Nat) i=nmJ ds (a:Nat) j):i=j:=by
 unfold nmJ at e;rw[yD0,yD0]at e;have e:(cj ds (a:Nat) i).toArray=(cj ds (a:Nat) j).toArray:=congrArg Str.cps e;have e:cj ds (a:Nat) i=cj ds (a:Nat) j:=by
  have:=congrArg Array.toList e;simpa using this
 have e1:(cj ds (a:Nat) i)[a]?=(cj ds (a:Nat) j)[a]?:=by rw[e]
 unfold cj at e1;rw[Ĉ,Ĉ,List.getElem?_range ha]at e1;have e1:=Option.some.inj e1;have b1:=sg_b ds (a:Nat) i a;have b2:=sg_b ds (a:Nat) j a;have e2:=xO4 b1.1 b1.2 b2.1 b2.2 e1;unfold sg at e2;have ed:decide (V.int (0+(a:Int))=V.int (a:Int))=true:=decide_eq_true (by rw[ŧ]);rw[ed,if_pos rfl,Int.mul_one,Int.mul_one,Int.fmod_eq_emod_of_nonneg _ (by decide),Int.fmod_eq_emod_of_nonneg _ (by decide)]at e2;lia
theorem xH9 (ds:List Int)(at':Int)(j:Nat):Lay (nmJ ds at' j):=by
 unfold Lay nmJ;rw[yD0];show PyData.strOk ⟨(cj ds at' j).toArray⟩=true;unfold PyData.strOk;rw[List.all_toArray,List.all_eq_true];intro c hc;obtain⟨k,_,rfl⟩:=Ė.mp hc;have b:=sg_b ds at' j k;exact decide_eq_true (xO3 b.1 b.2)
theorem yF9 {z:Str}{r:Rat}:∀{ps:List Plc},(allN ps).Nodup->Plc.ck z r∈ps->rmF ps z=some r
 | .ck z' r'::ps,nd,h=>by
  have nd:(z'::allN ps).Nodup:=nd;rw[Ĝ]at nd;rcases Ē.mp h with e | e
  ·cases e;exact if_pos rfl
  ·have ne:z≠z':=fun q=>nd.1 (by rw[<- q];exact Ė.mpr ⟨_,e,rfl⟩);exact(if_neg ne).trans (yF9 nd.2 e)
 | .sk z'::ps,nd,h=>by
  have nd:(z'::allN ps).Nodup:=nd;rw[Ĝ]at nd;rcases Ē.mp h with e | e
  ·cases e
  ·exact yF9 (ps:=ps) nd.2 e
noncomputable def CkV (H:Hp)(ps:List Plc)(us:List V):Prop:=Paired (PlV H) us (ps.filter isC)
theorem CkV.same {H H':Hp}{ps:List Plc}{us:List V}(h:CkV H ps us)(s:Same H H'):CkV H' ps us:=à h s
theorem CkV.len {H:Hp}{ps:List Plc}{us:List V}(h:CkV H ps us):us.length=(ckN ps).length:=by
 unfold ckN;rw[ā];exact Paired.length h
theorem CkV.get {H:Hp}{ps:List Plc}{us:List V}(h:CkV H ps us)(nd:(allN ps).Nodup){i:Nat}(hi:i<us.length):∃b f z r,us[i]?=some (.ref b) /\ H b=some (.tup [.str "cask",.str z,f]) /\ FrV H f r /\ rmF ps z=some r /\ (ckN ps)[i]?=some z:=by
 obtain⟨p,hp,pv⟩:=Ü h (Ā hi);have hm:=ĸ.mp (Ċ hp);cases p with
 | sk z=>cases hm.2
 | ck z r =>
  obtain⟨b,f,e,hb,hf⟩:=pv;refine⟨b,f,z,r,by rw[Ā hi,e],hb,hf,yF9 nd hm.1,?_⟩;unfold ckN;rw[Ĉ,hp];rfl
theorem xR5 {us:List V}{m:Nat}(h:us.length=m+1){v:V}(e:us[m]?=some v):atI us (-1)=some v:=by
 obtain⟨us',x,rfl⟩:∃us' x,us=us'++[x]:=⟨us.dropLast,us.getLast (by intro e;rw[e]at h;cases h),(List.dropLast_concat_getLast _).symm⟩;rw[Ď]at h;have h:us'.length+1=m+1:=h;have hm:m=us'.length:=by lia
 subst hm;rw[Œ (ą _),Nat.sub_self]at e;have e:x=v:=Option.some.inj e;rw[<- e];exact xB7 _ _
theorem xM1 {n:Int}(h0:1<=n)(h1:n<=4):0<Ě n 4 /\ Ě n 4<=1 /\ (Ě n 4).den∣4:=by
 have:n=1 \/ n=2 \/ n=3 \/ n=4:=by lia
 rcases this with rfl | rfl | rfl | rfl<;>decide +kernel
theorem xI4 {n d:Int}(h0:1<=n)(h1:n<=3)(d0:4<=d)(d1:d<=6):0<Ě n d /\ Ě n d<1 /\ (Ě n d).den∣60:=by
 have hn:n=1 \/ n=2 \/ n=3:=by lia
 have hd:d=4 \/ d=5 \/ d=6:=by lia
 rcases hn with rfl | rfl | rfl<;>rcases hd with rfl | rfl | rfl<;>decide +kernel
theorem xE2 (C:List Str)(am:Rat)(s:Str)(b:Nat->Bool)(v:Bool)(j:Nat):∃b':Nat->Bool,(ę (j+1+1)).map (cd C am s b')=(ę (j+1)).map (cd C am s b)++[if v then .fl (nmC C (j+1)) (nmC C j) else .mv (nmC C (j+1)) (nmC C j) am]:=by
 refine⟨fun i=>if i=j then v else b i,?_⟩;rw[ũ (n:=j+1),Đ]
 congr 1
 ·refine Ũ fun i hi=>?_;have hi:=ŏ.mp hi;cases i with
  | zero=>rfl
  | succ i =>
   show (if (if i=j then v else b i) then _ else _)=if b i then _ else _;rw[if_neg (show ¬i=j by lia)]
 ·show [if (if j=j then v else b j) then _ else _]=_;rw[if_pos rfl]
theorem zG4 (xs:List V){k:Nat}(h:k<=xs.length):cutV xs none (some (k:Int))=xs.take k:=by
 have e1:HT.sIx xs.length xs.length (some (k:Int))=min k xs.length:=HT.sIx_nat _ _ k;have e2:HT.sIx xs.length 0 none=0:=rfl;unfold cutV;rw[e1,e2,Nat.min_eq_left h,List.drop_zero,Nat.sub_zero]
theorem zN5 (xs:List V){k:Nat}(h:k<=xs.length):cutV xs (some (k:Int)) none=xs.drop k:=by
 have e1:HT.sIx xs.length 0 (some (k:Int))=min k xs.length:=HT.sIx_nat _ _ k;have e2:HT.sIx xs.length xs.length none=xs.length:=rfl;unfold cutV;rw[e1,e2,Nat.min_eq_left h];exact List.take_of_length_le (by rw[Ĩ];exact ą _)
theorem yG0 {C:List Str}{m i:Nat}(h:C.length=m)(hi:i<m):nmC C.reverse i=nmC C (m - 1 - i):=by
 unfold nmC;rw[Ļ,Ļ,List.getElem?_reverse (by lia),h]
theorem zA8 {H H':Hp}{xs:List V}{ds:List Dd}(h:Paired (DdV H) xs ds)(s:Same H H'):Paired (DdV H') xs ds:=Paired.mapP h fun _ _ f=>f.same s
theorem zS5 {C L:List Str}{R:Str->Str->Rat}{D:Nat}(G:Good L D R)(hCL:∀x∈C,x∈L)(c5:C.length<=5)(D0:0<D)(D100:D<=2^100){f:Str->Rat}{E W e:Nat}(E0:0<E)(EW:E<=W)(We:W<=2^e)(hf:∀z∈C,Cd E W (f z)):∀j,∃E' W',0<E' /\ E'<=W' /\ W'<=2^(e+103*j) /\ ∀z∈C,Cd E' W' (mass C R f j z)
 | 0=>⟨E,W,E0,EW,We,hf⟩
 | j+1=>by
  obtain⟨E',W',h0,h1,h2,h3⟩:=zS5 G hCL c5 D0 D100 E0 EW We hf j;refine⟨E'*D,5*(W'*D),Ņ h0 D0,?_,?_,fun z hz=>zX9 G hCL c5 h3 z⟩
  ·have:=Ĕ D h1;lia
  ·have:=zU1 h2 D100;have e:e+103*(j+1)=e+103*j+103:=by lia
   rw[e];exact this
theorem yS4 {C L:List Str}{R:Str->Str->Rat}{D:Nat}(G:Good L D R)(hCL:∀x∈C,x∈L)(c5:C.length<=5)(D0:0<D)(D100:D<=2^100){f:Str->Rat}{E W e:Nat}(E0:0<E)(EW:E<=W)(We:W<=2^e)(hf:∀z∈C,Cd E W (f z))(j:Nat):∀z∈C,Bd (e+103*j+1) (mass C R f j z):=fun z hz=>by
 obtain⟨E',W',h0,h1,h2,h3⟩:=zS5 G hCL c5 D0 D100 E0 EW We hf j;exact(h3 z hz).bd h0 h1 h2
theorem xQ5 (n z:Str):Cd 1 1 (dlt n z):=by
 unfold dlt
 split
 ·exact Cd.of (IsM.one 1)
 ·exact Cd.zero _ _
theorem yM9 {C L:List Str}{R:Str->Str->Rat}{D:Nat}(G:Good L D R)(nC:C.Nodup)(hCL:∀x∈C,x∈L)(c5:C.length<=5)(D0:0<D)(D100:D<=2^100){k:Nat}(k8:k<=8){x:Str}(hx:x∈C):Bd 3900 (stay C R k x):=by
 rw[<- yG9 R nC hx k];obtain⟨E',W',h0,h1,h2,h3⟩:=zS5 G hCL c5 D0 D100 (f:=dlt x) (E:=1) (W:=1) (e:=1) (by decide) (by decide) (by decide) (fun z _=>xQ5 x z) k;have h:=(zJ1 (l:=C) h3).mono (Ĕ W' c5);refine(h.bd (s:=900) h0 (by lia) ?_).mono (by decide);have e:(2:Nat)^900=8*2^897:=by rw[show 900=3+897 from rfl,ī]
 have:=Č h2 (þ (show 1+103*k<=897 by lia));rw[e];lia
theorem zX6 {C:List Str}{R:Str->Str->Rat}{X b:Str->Rat}(h:∀z∈C,X z=ldR C R X z+b z):∀n,∀z∈C,mass C R X n z=mass C R X (n+1) z+mass C R b n z
 | 0,z,hz=>h z hz
 | n+1,z,hz=>by
  have ih:=zX6 h n;show (sumL C fun y=>mass C R X n y*R y z)=(sumL C fun y=>mass C R X (n+1) y*R y z)+sumL C fun y=>mass C R b n y*R y z;have e:(sumL C fun y=>mass C R X n y*R y z)=sumL C fun y=>(mass C R X (n+1) y*R y z)*(1 - 0)+(mass C R b n y*R y z)*1:=Û fun y hy=>by rw[ih y hy];grind
  have e2:(sumL C fun y=>(mass C R X (n+1) y*R y z)*(1 - 0)+(mass C R b n y*R y z)*1)=sumL C fun y=>mass C R X (n+1) y*R y z+mass C R b n y*R y z:=Û fun y _=>by grind
  rw[e,e2];have e3:∀l:List Str,(sumL l fun y=>mass C R X (n+1) y*R y z+mass C R b n y*R y z)=(sumL l fun y=>mass C R X (n+1) y*R y z)+sumL l fun y=>mass C R b n y*R y z:=fun l=>by
   induction l with
   | nil=>show (0:Rat)=0+0;rw[Ŋ]
   | cons a l ih'=>rw[Ê,Ê,Ê,ih'];grind
  exact e3 C
noncomputable def SA (C:List Str)(R:Str->Str->Rat)(X b:Str->Rat)(n:Nat):Nat->Str->Rat
 | 0,z=>mass C R X n z
 | a+1,z=>SA C R X b n a z+mass C R b a z
theorem xR8 {C:List Str}{R:Str->Str->Rat}{X b:Str->Rat}(h:∀z∈C,X z=ldR C R X z+b z)(n:Nat):∀a,∀z∈C,SA C R X b (n+1) a z=SA C R X b n a z - mass C R b n z
 | 0,z,hz=>by
  have:=zX6 h n z hz;show mass C R X (n+1) z=mass C R X n z - mass C R b n z
  grind
 | a+1,z,hz=>by
  have:=xR8 h n a z hz;show SA C R X b (n+1) a z+mass C R b a z=SA C R X b n a z+mass C R b a z - mass C R b n z
  grind
theorem xE6 {C:List Str}{R:Str->Str->Rat}{X b:Str->Rat}(h:∀z∈C,X z=ldR C R X z+b z):∀n,∀z∈C,SA C R X b n n z=X z
 | 0,_,_=>rfl
 | n+1,z,hz=>by
  have h1:=xR8 h n n z hz;have h2:=xE6 h n z hz;show SA C R X b (n+1) n z+mass C R b n z=X z
  grind
theorem zX5 {C C':List Str}(nC:C.Nodup)(nC':C'.Nodup)(h:∀z,z∈C↔z∈C')(R:Str->Str->Rat)(f:Str->Rat):∀j,mass C R f j=mass C' R f j
 | 0=>rfl
 | j+1=>by
  funext z
  show (sumL C fun y=>mass C R f j y*R y z)=sumL C' fun y=>mass C' R f j y*R y z;rw[zX5 nC nC' h R f j];exact zB0 nC nC' h _
theorem xA2 {K:Ă}{H:Hp}{a b:Addr}{ka kb:List (Key×V)}{f:Str->Option Rat}(ha:H a=some (.dK ka))(hb:H b=some (.dK kb))(ra:RowAt H ka f)(rb:RowAt H kb f):Hits K H (.ref a) (.ref b):=by
 refine⟨a,b,ka,kb,rfl,rfl,ha,hb,ra.len_eq rb,fun kv hkv=>?_⟩;obtain⟨j,hj,ej⟩:=ě hkv;obtain⟨z,r,hz,hgz,fr,_,_⟩:=ra.at (i:=j) (p:=kv) (by rw[Ā hj,ej]);obtain⟨w,hw,fw'⟩:=rb.has z r hgz;exact⟨w,pq r.num r.den,by rw[hz];exact hw,fr.rep,fw'.rep,by simp[pq,PyData.depth,PyData.depthAll]⟩
theorem yW3 {K:Ă}{H:Hp}{x y:V}{d:PyData}(h1:RepD K H d x)(h2:RepD K H d y)(hd:d.depth<=40):∀n:Nat,AlN K H n x y
 | 0=>Or.inr ⟨d,h1,h2,hd⟩
 | _+1=>Or.inl (Or.inr ⟨d,h1,h2,hd⟩)
theorem xR7 {K:Ă}{H:Hp}{a b:Addr}{ka kb:List (Key×V)}{f:Str->Option Rat}(ha:H a=some (.dK ka))(hb:H b=some (.dK kb))(ra:RowAt H ka f)(rb:RowAt H kb f)(n:Nat):AlN K H (n+1) (.ref a) (.ref b):=by
 refine Or.inr ⟨a,b,ka,kb,rfl,rfl,ha,hb,ra.len_eq rb,fun kv hkv=>?_⟩;obtain⟨j,hj,ej⟩:=ě hkv;obtain⟨z,r,hz,hgz,fr,_,_⟩:=ra.at (i:=j) (p:=kv) (by rw[Ā hj,ej]);obtain⟨w,hw,fw'⟩:=rb.has z r hgz;exact⟨w,by rw[hz];exact hw,yW3 fr.rep fw'.rep (by simp[pq,PyData.depth,PyData.depthAll]) n⟩
theorem repS {K:Ă}{H:Hp}{z:Str}(h:Lay z):RepD K H (.str z) (.str z):=by rw[RepD];exact⟨rfl,h⟩
theorem zW0 {K:Ă}{H:Hp}:∀{L:List Str},(∀z∈L,Lay z)->RepDs K H (L.map PyData.str) (L.map V.str)
 | [],_=>xF9
 | _::_,h=>xT1 (repS (h _ Ć)) (zW0 fun z hz=>h z (ă _ hz))
theorem yJ5 (zs:List Str):(PyData.list (zs.map PyData.str)).depth<=64:=by
 have h1:=zY8 (f:=PyData.str) (n:=10) (fun a=>by simp[PyData.depth]) zs;simp only[PyData.depth];lia
theorem yG1 {K:Ă}{H:Hp}{a:Addr}{zs:List Str}(h:H a=some (.lst (zs.map V.str)))(l:∀z∈zs,Lay z):RepD K H (.list (zs.map PyData.str)) (.ref a):=repL (SqL.of h) (zW0 l)
end T64
namespace T64
open PySem L2 Tc
section
variable {P:Program}{w:World}{K:Ă}{mg:Str->Option Value}{base:Heap}
noncomputable abbrev zA6:Stmt:=top 6
theorem sc_common_divisor:Ë ["top","bottom","rest"] ["top","bottom"] (Ç zA6):=scF
theorem zI4 {ca:Ca}(D:DefAt K mg "common_divisor" zA6)(T:Txt K mg ca):FnAt P w K mg base CX0 1 "common_divisor" ["top","bottom"] (spCd):=by
 refine D.ok sc_common_divisor (fun vs H Q E h=>?_) (fun _ _ _ _ _ _ us hl=>match us,hl with | [_,_],_=>rfl) (fun f cdv A outer s H vs Q E hr h=>?_)
 all_goals obtain⟨t,b,rfl,hb,k⟩:=h
 ·rfl
 ·have nd:=sc_common_divisor.nd;refine⟨_,(Â (zK4 PassesOwn.never (Ô yY6 (pv 1) Ã (Ý _)) (Â (É (i:=2) nd rfl (Or.inl rfl) (Í æ (pv 0) (pv 1)))
   (Â (É (i:=0) nd rfl (Or.inl rfl) (pv 1))
   (Å (É (i:=1) nd rfl (Or.inl rfl) (pv 2))))))
   (Å (Î (pv 0)))),?_⟩
  refine zJ8 (fun σ H1=>∃(x y:Int) (v:Option V),σ=[some (.int x),some (.int y),v] /\ H1=H /\ Dv t b x y)
   (fun σ _=>match σ with | [_,some (.int y),_]=>y.natAbs | _=>0) ⟨t,b,none,rfl,rfl,Dv.start hb⟩ ?_ ?_
  ·rintro σ H1 ⟨x,y,v,rfl,rfl,d⟩;refine⟨_,rfl,rfl,_,rfl,?_⟩;refine ite2 (fun h1=>?_) (fun h1=>?_)
   ·have hy:y≠0:=by
     intro e;subst e;simp at h1
    refine⟨_,rfl,_,rfl,_,_,rfl,rfl,hy,?_⟩;refine⟨_,rfl,_,rfl,?_⟩;exact⟨⟨_,_,_,rfl,rfl,d.turn hy⟩,Dv.less hy⟩
   ·have hy:y=0:=by
     by_cases e:y=0
     ·exact e
     ·exact absurd (by simp[e]) h1
    refine⟨_,rfl,?_⟩;rw[d.done hy hb];exact k
  ·intro σ H1 Q1 Q2 hq h1;obtain⟨v,e,h2,c,e2,h3⟩:=h1;exact⟨v,e,h2,c,e2,hq _ _ h3⟩
noncomputable abbrev yO2:Stmt:=top 7
theorem sc_plus:Ë ["one","other","shared","rest","top","divisor"] ["one","other"] (Ç yO2):=scF
theorem xH5 {ca:Ca}(D:DefAt K mg "plus" yO2)(T:Txt K mg ca)(G_common_divisor:FnAt P w K mg base CX0 1 "common_divisor" ["top","bottom"] (spCd)):FnAt P w K mg base CX0 2 "plus" ["one","other"] (π):=by
 refine D.ok sc_plus (fun vs H Q E h=>?_) (fun _ _ _ _ _ _ us hl=>match us,hl with | [_,_],_=>rfl) (fun f cdv A outer s H vs Q E hr h=>?_)
 all_goals obtain⟨_,_,r,q,rfl,⟨a,rfl,ha⟩,⟨b,rfl,hb⟩,br,bq,k⟩:=h
 ·rfl
 ·have nd:=sc_plus.nd;refine⟨_,(Â (É (i:=2) nd rfl (Or.inl rfl) (pfn G_common_divisor hr (À (pixT (pv 0) Ã) (À (pixT (pv 1) Ã) Ä))))
   (Â (É (i:=3) nd rfl (Or.inl rfl) (Í ä (pixT (pv 0) Ã) (pv 2)))
   (Â (É (i:=4) nd rfl (Or.inl rfl) (Í ŷ (Í û (pixT (pv 0) Ã) (Í ä (pixT (pv 1) Ã) (pv 2))) (Í û (pixT (pv 1) Ã) (pv 3))))
   (Â (É (i:=5) nd rfl (Or.inl rfl) (pfn G_common_divisor hr (À (pv 4) (À (pv 2) Ä))))
   (Å (Î (Ñ (À (Í ä (pv 4) (pv 5)) (À (Í û (pv 3) (Í ä (pixT (pv 1) Ã) (pv 5))) Ä))))))))),?_⟩
  have d1:=Þ r;have d2:=Þ q;have i0:∀(i:Nat),i<=8000->(2:Nat)^i<=2^9000:=fun i hi=>þ (by lia);refine⟨_,rfl,a,_,_,_,rfl,rfl,SqT.of ha,rfl,_,rfl,b,_,_,_,rfl,rfl,SqT.of hb,rfl,_,_,rfl,(by lia),?_⟩;have s0:dv r.den q.den≠0:=χ (by lia);have sle:(dv (r.den:Int) q.den).natAbs<=((q.den:Int)).natAbs:=yU6 (by lia);have sdiv:∀i,υ i (dv (r.den:Int) q.den):=fun i=>bq.divR (by decide) s0 sle;generalize hs:dv (r.den:Int) q.den=s1 at *;refine⟨_,rfl,a,_,_,_,rfl,rfl,SqT.of ha,rfl,_,rfl,_,_,rfl,rfl,sdiv _,?_⟩;have le1:∀{x:Int} {m:Nat},x.natAbs<2^m->(x.fdiv s1).natAbs<2^(m+1):=fun {x m} hx=>by
   have:=natAbs_fdiv_le x s1;rw[ģ];lia
  have hrest:((r.den:Int).fdiv s1).natAbs<2^8001:=le1 br.den;have hq1:((q.den:Int).fdiv s1).natAbs<2^8001:=le1 bq.den;refine⟨_,rfl,a,_,_,_,rfl,rfl,SqT.of ha,rfl,_,rfl,b,_,_,_,rfl,rfl,SqT.of hb,rfl,_,rfl,_,_,rfl,rfl,sdiv _,_,_,rfl,rfl,ì 8001 (č br.num (þ (by decide))) hq1 (by decide),_,rfl,b,_,_,_,rfl,rfl,SqT.of hb,rfl,_,rfl,_,_,rfl,rfl,ì 8001 (č bq.num (þ (by decide))) hrest (by decide),_,_,rfl,rfl,?_⟩;refine⟨_,rfl,_,rfl,_,_,rfl,s0,?_⟩;have d0:dv (r.num*(q.den:Int).fdiv s1+q.num*(r.den:Int).fdiv s1) s1≠0:=χ s0;have dle:(dv (r.num*(q.den:Int).fdiv s1+q.num*(r.den:Int).fdiv s1) s1).natAbs<=((q.den:Int)).natAbs:=Č (yU6 s0) sle;have ddiv:∀i,υ i (dv (r.num*(q.den:Int).fdiv s1+q.num*(r.den:Int).fdiv s1) s1):=fun i=>bq.divR (by decide) d0 dle;obtain⟨e1,e2⟩:=xG5 r q hs.symm rfl rfl rfl;have hq2:((q.den:Int).fdiv (dv (r.num*(q.den:Int).fdiv s1+q.num*(r.den:Int).fdiv s1) s1)).natAbs<2^8001:=by
   have:=natAbs_fdiv_le (q.den:Int) (dv (r.num*(q.den:Int).fdiv s1+q.num*(r.den:Int).fdiv s1) s1);have z:((q.den:Int)).natAbs<2^8000:=bq.den;rw[ģ];lia
  refine⟨_,rfl,_,rfl,_,_,rfl,rfl,ddiv _,_,rfl,_,rfl,b,_,_,_,rfl,rfl,SqT.of hb,rfl,_,rfl,_,_,rfl,rfl,ddiv _,_,_,rfl,rfl,ì 8001 hrest hq2 (by decide),sz (by simp),fun p hp=>?_⟩;exact k _ _ (Same.upd hp) (FrV.newOf e1 e2)
noncomputable abbrev yA9:Stmt:=top 8
theorem sc_minus:Ë ["one","other"] ["one","other"] (Ç yA9):=scF
theorem yZ0 {ca:Ca}(D:DefAt K mg "minus" yA9)(T:Txt K mg ca)(G_plus:FnAt P w K mg base CX0 2 "plus" ["one","other"] (π)):FnAt P w K mg base CX0 3 "minus" ["one","other"] (zH1):=by
 refine D.ok sc_minus (fun vs H Q E h=>?_) (fun _ _ _ _ _ _ us hl=>match us,hl with | [_,_],_=>rfl) (fun f cdv A outer s H vs Q E hr h=>?_)
 all_goals obtain⟨_,_,r,q,rfl,hx,⟨b,rfl,hb⟩,br,bq,k⟩:=h
 ·rfl
 ·have nd:=sc_minus.nd;refine⟨_,(Å (Î (pfn G_plus hr (À (pv 0) (À (Ñ (À (Í zP2 Ã (pixT (pv 1) Ã)) (À (pixT (pv 1) Ã) Ä))) Ä))))),?_⟩;refine⟨_,rfl,_,rfl,b,_,_,_,rfl,rfl,SqT.of hb,rfl,_,_,rfl,rfl,_,rfl,b,_,_,_,rfl,rfl,SqT.of hb,rfl,sz (by simp),fun p hp=>?_⟩;refine⟨_,_,r,-q,rfl,hx.upd hp,FrV.newOf (xD3 q).1 (xD3 q).2,br,bq.neg,fun v H' s' h=>?_⟩;have h:FrV H' v (r + -q):=h;rw[xK8]at h;exact k v H' ((Same.upd hp).trans s') h
noncomputable abbrev yA7:Stmt:=top 9
theorem sc_times:Ë ["one","other","left","right"] ["one","other"] (Ç yA7):=scF
theorem yY8 {ca:Ca}(D:DefAt K mg "times" yA7)(T:Txt K mg ca)(G_common_divisor:FnAt P w K mg base CX0 1 "common_divisor" ["top","bottom"] (spCd)):FnAt P w K mg base CX0 2 "times" ["one","other"] (spTimes):=by
 refine D.ok sc_times (fun vs H Q E h=>?_) (fun _ _ _ _ _ _ us hl=>match us,hl with | [_,_],_=>rfl) (fun f cdv A outer s H vs Q E hr h=>?_)
 all_goals obtain⟨_,_,a,b,t1,b1,t2,b2,rfl,rfl,ha,rfl,hb,p1,n2,c1,c2,⟨z1,z2,z3,z4⟩,k⟩:=h
 ·rfl
 ·have nd:=sc_times.nd;refine⟨_,(Â (É (i:=2) nd rfl (Or.inl rfl) (pfn G_common_divisor hr (À (pixT (pv 0) Ã) (À (pixT (pv 1) Ã) Ä))))
   (Â (É (i:=3) nd rfl (Or.inl rfl) (pfn G_common_divisor hr (À (pixT (pv 1) Ã) (À (pixT (pv 0) Ã) Ä))))
   (Å (Î (Ñ (À (Í û (Í ä (pixT (pv 0) Ã) (pv 2)) (Í ä (pixT (pv 1) Ã) (pv 3))) (À (Í û (Í ä (pixT (pv 0) Ã) (pv 3)) (Í ä (pixT (pv 1) Ã) (pv 2))) Ä))))))),?_⟩
  refine⟨_,rfl,a,_,_,_,rfl,rfl,SqT.of ha,rfl,_,rfl,b,_,_,_,rfl,rfl,SqT.of hb,rfl,_,_,rfl,n2,?_⟩;have l0:dv t1 b2≠0:=χ n2;have lle:(dv t1 b2).natAbs<=b2.natAbs:=yU6 n2;have r0:dv t2 b1≠0:=χ (by lia);have rle:(dv t2 b1).natAbs<=b1.natAbs:=yU6 (by lia);have ldiv:∀i,υ i (dv t1 b2):=fun i=>zI8 l0 (ď lle (č z4 (þ (by decide))));have rdiv:∀i,υ i (dv t2 b1):=fun i=>zI8 r0 (ď rle (č z2 (þ (by decide))));refine⟨_,rfl,b,_,_,_,rfl,rfl,SqT.of hb,rfl,_,rfl,a,_,_,_,rfl,rfl,SqT.of ha,rfl,_,_,rfl,(by lia),?_⟩;generalize hl:dv t1 b2=l at *;generalize hr:dv t2 b1=r at *;obtain⟨e1,e2⟩:=yW8 p1 n2 c1 c2 hl.symm hr.symm;have le1:∀{x d:Int},x.natAbs<2^8000->(x.fdiv d).natAbs<2^8001:=fun {x d} hx=>by
   have:=natAbs_fdiv_le x d;rw[ģ];lia
  refine⟨_,rfl,a,_,_,_,rfl,rfl,SqT.of ha,rfl,_,rfl,_,_,rfl,rfl,ldiv _,_,rfl,b,_,_,_,rfl,rfl,SqT.of hb,rfl,_,rfl,_,_,rfl,rfl,rdiv _,_,_,rfl,rfl,ì 8001 (le1 z1) (le1 z3) (by decide),_,rfl,a,_,_,_,rfl,rfl,SqT.of ha,rfl,_,rfl,_,_,rfl,rfl,rdiv _,_,rfl,b,_,_,_,rfl,rfl,SqT.of hb,rfl,_,rfl,_,_,rfl,rfl,ldiv _,_,_,rfl,rfl,ì 8001 (le1 z2) (le1 z4) (by decide),sz (by simp),fun p hp=>?_⟩;exact k _ _ (Same.upd hp) (FrV.newOf e1 e2)
noncomputable abbrev yO3:Stmt:=top 10
theorem sc_over:Ë ["one","other"] ["one","other"] (Ç yO3):=scF
theorem xH6 {ca:Ca}(D:DefAt K mg "over" yO3)(T:Txt K mg ca)(G_times:FnAt P w K mg base CX0 2 "times" ["one","other"] (spTimes)):FnAt P w K mg base (CXE P w) 3 "over" ["one","other"] (yF1 ca.NoNumber):=by
 refine D.okE sc_over (fun vs H Q E h=>?_) (fun _ _ _ _ _ _ us hl=>match us,hl with | [_,_],_=>rfl) (fun f cdv A outer s H vs Q E hr h=>?_)
 all_goals obtain⟨_,_,r,q,rfl,⟨a,rfl,ha⟩,⟨b,rfl,hb⟩,br,bq,k,kE⟩:=h
 ·rfl
 ·have nd:=sc_over.nd;refine⟨_,(Â (Ű (Ô Ν (pixT (pv 1) Ã) Ã (Ý _)) (Å (yY1 yP3 rfl (by rfl) T.c_NoNumber T.e_NoNumber PySem.F.excBase_ValueError (À í Ä))) á)
   (Å (Î (pfn G_times hr (À (pv 0) (À (Ñ (À (pixT (pv 1) Ã) (À (pixT (pv 1) Ã) Ä))) Ä)))))),?_⟩
  refine⟨_,rfl,b,_,_,_,rfl,rfl,SqT.of hb,rfl,rfl,_,rfl,?_⟩;refine ite2 (fun h1=>?_) (fun h1=>?_)
  ·have e:V.int q.num = .int 0:=of_decide_eq_true h1;have e:q=0:=Rat.num_eq_zero.mp (V.int.inj e);exact⟨sz (by simp),kE e⟩
  have hn:q.num≠0:=fun z=>h1 (decide_eq_true (by rw[z]));have hq:q≠0:=fun z=>hn (Rat.num_eq_zero.mpr z);refine⟨_,rfl,_,rfl,b,_,_,_,rfl,rfl,SqT.of hb,rfl,_,rfl,b,_,_,_,rfl,rfl,SqT.of hb,rfl,sz (by simp),fun p hp=>?_⟩;have ne:a≠p:=Æ ha hp;refine⟨_,_,a,p,r.num,r.den,q.den,q.num,rfl,rfl,(by rw[upd_ne ne];exact ha),rfl,Á,Þ r,hn,zR0 r,yH6 q,⟨br.num,br.den,bq.den,bq.num⟩,fun v H' s' h=>?_⟩;rw[xQ6 r q hn]at h;exact k hq v H' ((Same.upd hp).trans s') h
noncomputable abbrev yA6:Stmt:=top 11
theorem sc_under:Ë ["one","other"] ["one","other"] (Ç yA6):=scF
theorem yY7 {ca:Ca}(D:DefAt K mg "under" yA6)(T:Txt K mg ca):FnAt P w K mg base CX0 1 "under" ["one","other"] (zE4):=by
 refine D.ok sc_under (fun vs H Q E h=>?_) (fun _ _ _ _ _ _ us hl=>match us,hl with | [_,_],_=>rfl) (fun f cdv A outer s H vs Q E hr h=>?_)
 all_goals obtain⟨_,_,r,q,rfl,⟨a,rfl,ha⟩,⟨b,rfl,hb⟩,br,bq,k⟩:=h
 ·rfl
 ·have nd:=sc_under.nd;refine⟨_,(Å (Î (Ω xH3 (Í û (pixT (pv 0) Ã) (pixT (pv 1) Ã)) (Í û (pixT (pv 1) Ã) (pixT (pv 0) Ã)) (Ý _)))),?_⟩;refine⟨_,rfl,a,_,_,_,rfl,rfl,SqT.of ha,rfl,_,rfl,b,_,_,_,rfl,rfl,SqT.of hb,rfl,_,_,rfl,rfl,ì 8000 br.num bq.den (by decide),_,rfl,b,_,_,_,rfl,rfl,SqT.of hb,rfl,_,rfl,a,_,_,_,rfl,rfl,SqT.of ha,rfl,_,_,rfl,rfl,ì 8000 bq.num br.den (by decide),_,_,rfl,rfl,?_⟩;rw[<- _root_.Tc.lt_ok]at k;exact k
noncomputable abbrev zQ6:Stmt:=top 12
theorem sc_sum_of:Ë ["some","whole","share"] ["some"] (Ç zQ6):=scF
theorem yR2 {ca:Ca}(D:DefAt K mg "sum_of" zQ6)(T:Txt K mg ca)(G_plus:FnAt P w K mg base CX0 2 "plus" ["one","other"] (π)):FnAt P w K mg base CX0 3 "sum_of" ["some"] (yA4 K):=by
 refine D.ok sc_sum_of (fun vs H Q E h=>?_) (fun _ _ _ _ _ _ us hl=>match us,hl with | [_],_=>rfl) (fun f cdv A outer s H vs Q E hr h=>?_)
 all_goals obtain⟨a,xs,rs,rfl,hS,hP,hB,hT,k⟩:=h
 ·rfl
 ·have nd:=sc_sum_of.nd;refine⟨_,(Â (É (i:=1) nd rfl (Or.inl rfl) (Ñ (À Ã (À Ã Ä))))
   (Â (Ú PassesOwn.never rfl (ï (K:=K) rfl (pv 0)) (È (i:=2) nd rfl (Or.inl rfl)) (Å (É (i:=1) nd rfl (Or.inl rfl) (pfn G_plus hr (À (pv 1) (À (pv 2) Ä))))))
   (Å (Î (pv 1))))),?_⟩
  refine⟨sz (by simp),fun p0 hp0=>?_⟩;have hl:xs.length=rs.length:=hP.length;refine⟨_,rfl,a,rfl,⟨_,(Same.upd hp0).seq hS⟩,?_⟩;refine Ÿ (xs:=xs) (fun i σ H1=>∃v2:Option V,∃w1:V,σ=[some (.ref a),some w1,v2] /\ Same H H1 /\ FrV H1 w1 (sumQ (rs.take i))) ⟨none,.ref p0,rfl,Same.upd hp0,FrV.newOf rfl rfl⟩ ?_ ?_ ?_
  ·rintro i σ H1 hi ⟨v2,w1,rfl,s1,h1⟩;exact s1.seq hS
  ·rintro i x σ H1 hx ⟨v2,w1,rfl,s1,h1⟩;obtain⟨r,hr,fr⟩:=Ü hP hx;have hi:i<rs.length:=(Ą.mp hr).1;refine⟨_,rfl,_,rfl,_,_,_,_,rfl,h1,fr.same s1,hT i (by lia),hB r (Ċ hr),fun v H2 s2 h2=>?_⟩;refine⟨_,_,rfl,s1.trans s2,?_⟩;rw[yM6 hr];exact h2
  ·rintro σ H1 ⟨v2,w1,rfl,s1,h1⟩;rw[hl,đ]at h1;exact⟨_,rfl,k _ _ s1 h1⟩
noncomputable abbrev zC9:Stmt:=top 14
theorem sc_less_times:Ë ["row","other","factor"] ["row","other","factor"] (Ç zC9):=scF
theorem zR3 {ca:Ca}(D:DefAt K mg "less_times" zC9)(T:Txt K mg ca)(G_minus:FnAt P w K mg base CX0 3 "minus" ["one","other"] (zH1))(G_times:FnAt P w K mg base CX0 2 "times" ["one","other"] (spTimes)):FnAt P w K mg base CX0 4 "less_times" ["row","other","factor"] (xC8):=by
 refine D.ok sc_less_times (fun vs H Q E h=>?_) (fun _ _ _ _ _ _ us hl=>match us,hl with | [_,_,_],_=>rfl) (fun f cdv A outer s H vs Q E hr h=>?_)
 all_goals obtain⟨a,b,fv,m,f,g,t,rfl,hA,hB,hx,h30,bt,hbd,k⟩:=h
 ·rfl
 ·have nd:=sc_less_times.nd;refine⟨_,(Â (Ű (Ô (zM5 (K:=K) rfl hr) (pv 2) (Ñ (À Ã (À Ã Ä))) (Ý _)) (Å (Î (ö (zC5 (K:=K) rfl) (by rfl) T.z_list zJ2 (À (pv 0) Ä)))) á)
   (Å (Î (Λ ["one","two"] ["factor"] [2] rfl (by rfl) (xM4 (K:=K) rfl (by rfl) T.z_zip (À (pv 0) (À (pv 1) Ä))) (fun _ _ _ _=>(yQ3 (K:=K) (n:=2) (by rfl) (by rfl) (Ï (È (i:=0) (show List.Nodup (["one","two","factor"]:List Str) from by decide) rfl (Or.inl rfl) (hf:=Or.inr (by rfl))) (Ï (È (i:=1) (show List.Nodup (["one","two","factor"]:List Str) from by decide) rfl (Or.inl rfl) (hf:=Or.inr (by rfl))) ŭ)))) (fun _ _ _ _=>Θ) (fun _ _ _ _=>(pfn G_minus hr (À (pv 0) (À (pfn G_times hr (À (pv 1) (À (pv 2) Ä))) Ä)))))))),?_⟩
  obtain⟨us,ha,hA⟩:=hA;obtain⟨ws,hb,hB⟩:=hB;have lA:us.length=m:=hA.length.trans (γ m f);have lB:ws.length=m:=hB.length.trans (γ m g);refine⟨_,rfl,sz (by simp),fun p0 hp0=>?_⟩;have t0:=Same.upd (o:=.tup [.int 0,.int 1]) hp0;refine⟨_,_,(hx.same t0).rep,ν (SqT.of Á),Ż _ _,_,rfl,?_⟩;rw[eq01];refine ite2 (fun h=>?_) (fun h=>?_)
  ·have ht:t=0:=of_decide_eq_true h;refine⟨_,rfl,a,us,rfl,.inl (SqL.of (t0 _ _ ha)),fun p hp=>?_⟩;refine k p _ (t0.free hp) (t0.trans (Same.upd hp)) ⟨us,Á,?_⟩;have e:nR m (fun j=>f j - g j*t)=nR m f:=zS4 fun j _=>by rw[ht,ś];grind
   rw[e];exact Paired.mapP hA fun _ _ q=>(q.same t0).upd hp
  ·refine⟨_,rfl,_,rfl,a,b,us,ws,rfl,SqL.of (t0 _ _ ha),SqL.of (t0 _ _ hb),fun Dd hD=>?_⟩;have hD0:=t0.free hD;refine yV8 (xs:=us) (ys:=ws) (fun j σ' H'=>∃(v0 v1:Option V) (qs:List V),σ'=[v0,v1,some fv] /\ Same H H' /\ H' Dd=some (.lst qs) /\ Paired (FrV H') qs (nR j fun j=>f j - g j*t)) (by lia) ⟨none,none,[],rfl,t0.trans (Same.upd hD),Á,.nil⟩ ?_ ?_ ?_
   ·rintro j σ' H' hj ⟨v0,v1,qs,rfl,s1,hd,hF⟩;exact⟨SqL.of (s1 _ _ ha),SqL.of (s1 _ _ hb)⟩
   ·rintro j x y T' σ' H' hx1 hy1 ⟨v0,v1,qs,rfl,s1,hd,hF⟩ hT;obtain⟨r1,hr1,fx⟩:=Ü hA hx1;obtain⟨r2,hr2,fy⟩:=Ü hB hy1;obtain⟨hj,rfl⟩:=yS0 hr1;obtain⟨_,rfl⟩:=yS0 hr2;obtain⟨bf,bg,bgt⟩:=hbd j hj;have tT:=Same.upd (o:=.tup [x,y]) hT;have lW:qs.length=j:=hF.length.trans (γ j _);have s2:=s1.trans tT;refine⟨T',_,rfl,SqT.of Á,rfl,_,_,rfl,_,_,rfl,rfl,?_⟩;refine⟨_,rfl,_,rfl,_,rfl,spTimes.of (E:=E0) rfl (fy.same s2) (hx.same s2) bg bt fun u3 H3 s3 f3=>?_⟩;refine⟨_,_,f j,g j*t,rfl,(fx.same s2).same s3,f3,bf,bgt,fun u4 H4 s4 f4=>?_⟩;have s24:=tT.trans (s3.trans s4);have hd4:=s24 _ _ hd;refine⟨_,hd4,sz (by lia),_,_,qs++[u4],rfl,(s1.trans s24).updD hD0,Á,?_⟩;rw[zN1];have tu:=Ì (o:=.lst (qs++[u4])) hd4 (fun _ z=>nomatch z);exact Paired.snoc (Paired.mapP hF fun _ _ f=>(f.same s24).tup tu) (f4.tup tu)
   ·rintro σ' H1 ⟨v0,v1,qs,rfl,s1,hd,hF⟩;rw[lA]at hF;exact k Dd H1 hD0 s1 ⟨qs,hd,hF⟩
noncomputable abbrev zL8:Stmt:=top 15
theorem sc_pivoted:Ë ["rows","at","column","lead","cleared","number","row"] ["rows","at","column"] (Ç zL8):=scF
theorem yK6 {ca:Ca}(D:DefAt K mg "pivoted" zL8)(T:Txt K mg ca)(G_over:FnAt P w K mg base (CXE P w) 3 "over" ["one","other"] (yF1 ca.NoNumber))(G_less_times:FnAt P w K mg base CX0 4 "less_times" ["row","other","factor"] (xC8)):FnAt P w K mg base CX0 5 "pivoted" ["rows","at","column"] (xL1):=by
 refine D.ok sc_pivoted (fun vs H Q E h=>?_) (fun _ _ _ _ _ _ us hl=>match us,hl with | [_,_,_],_=>rfl) (fun f cdv A outer s H vs Q E hr h=>?_)
 all_goals obtain⟨a,r,m,c,k,M,rfl,hM,hc,hk,hr30,hm,hp,hbd,fin⟩:=h
 ·rfl
 ·have nd:=sc_pivoted.nd;refine⟨_,(Â (zI2 ["number"] ["column","rows","at"] [2,0,1] (i:=3) nd rfl rfl rfl (by rfl) (ï (K:=K) rfl (pixL (pv 0) (pv 1))) (fun _ _ _ _=>(È (i:=0) (show List.Nodup (["number","column","rows","at"]:List Str) from by decide) rfl (Or.inl rfl))) (fun _ _ _ _=>Θ) (fun _ _ _ _=>(yY5 G_over hr (by rfl) yQ8 (À (pv 0) (À (pixL (pixL (pv 2) (pv 3)) (pv 1)) Ä)))))
   (Â (É (i:=4) nd rfl (Or.inl rfl) (Γ Ä))
   (Â (Ú PassesOwn.never rfl (yQ2 (K:=K) rfl (by rfl) T.z_enumerate (À (pv 0) Ä)) (Η rfl (Ï (È (i:=5) nd rfl (Or.inl rfl)) (Ï (È (i:=6) nd rfl (Or.inl rfl)) ŭ))) (Å (Ű (Ô Ν (pv 5) (pv 1) (Ý _)) (Å (ð (θ PySem.F.plainAttrs_list PySem.F.slot_list_append PySem.F.type_list_append è (pv 4) (À (pv 3) Ä)))) (Å (ð (θ PySem.F.plainAttrs_list PySem.F.slot_list_append PySem.F.type_list_append è (pv 4) (À (pfn G_less_times hr (À (pv 6) (À (pv 3) (À (pixL (pv 6) (pv 2)) Ä)))) Ä)))))))
   (Å (Î (pv 4)))))),?_⟩
  obtain⟨bs,ha,lb,hB⟩:=hM;obtain⟨bc,hbc⟩:∃b,bs[c]?=some b:=⟨_,Ā (by lia)⟩;have hLc:=hB c bc hbc;obtain⟨vs,hvs,hV⟩:=id hLc;have lV:vs.length=m:=hV.length.trans (γ m _);obtain⟨vs',vk,hvs',_,hak,fk⟩:=hLc.at hk;rw[hvs]at hvs';cases hvs';refine⟨_,rfl,_,rfl,a,_,_,_,rfl,rfl,SqL.of ha,zM0 hbc,bc,rfl,⟨_,SqL.of hvs⟩,fun Dd hD=>?_⟩;refine zA9 (xs:=vs) (fun j σ' H'=>∃(v:Option V) (qs:List V),σ'=[v,some (.int (k:Nat)),some (.ref a),some (.int (c:Nat))] /\ Same H H' /\ H' Dd=some (.lst qs) /\ Paired (FrV H') qs (nR j fun j=>M c j / M c k)) ⟨none,[],rfl,Same.upd hD,Á,.nil⟩ ?_ ?_ ?_
  ·rintro j σ' H' hj ⟨v,qs,rfl,s1,hd,hF⟩;exact SqL.of (s1 _ _ hvs)
  ·rintro j x σ' H' hx1 ⟨v,qs,rfl,s1,hd,hF⟩;obtain⟨r1,hr1,fx⟩:=Ü hV hx1;obtain⟨hj,rfl⟩:=yS0 hr1;have lW:qs.length=j:=hF.length.trans (γ j _);refine⟨_,rfl,_,rfl,_,rfl,a,_,_,_,rfl,rfl,SqL.of (s1 _ _ ha),zM0 hbc,_,rfl,bc,_,_,_,rfl,rfl,SqL.of (s1 _ _ hvs),hak,?_⟩;refine⟨_,_,M c j,M c k,rfl,fx.same s1,fk.same s1,(hbd c hc j hj).1,(hbd c hc k hk).1,(fun _ u2 H2 s2 f2=>?_),fun z=>absurd z hp⟩;have hd2:=s2 _ _ hd;refine⟨_,hd2,sz (by lia),_,qs++[u2],rfl,(s1.trans s2).updD hD,Á,?_⟩;rw[zN1];have tu:=Ì (o:=.lst (qs++[u2])) hd2 (fun _ z=>nomatch z);exact Paired.snoc (Paired.mapP hF fun _ _ f=>(f.same s2).tup tu) (f2.tup tu)
  rintro σ' H1 ⟨v,qs,rfl,s1,hd,hF⟩;rw[lV]at hF;have hld:LsF H1 Dd (nR m fun j=>M c j / M c k):=⟨qs,hd,hF⟩;refine⟨sz (by simp),fun p hp'=>?_⟩;have tp:=Same.upd (o:=.lst []) hp';have hp0:=s1.free hp';have s1p:=s1.trans tp;refine⟨_,rfl,a,_,rfl,SqL.of (s1p _ _ ha),?_⟩;refine yH9 (xs:=bs.map V.ref) (fun i σ H2=>∃(v5 v6:Option V) (cs:List Addr),σ=[some (.ref a),some (.int (c:Nat)),some (.int (k:Nat)),some (.ref Dd),some (.ref p),v5,v6] /\ Same H1 H2 /\ H2 p=some (.lst (cs.map V.ref)) /\ cs.length=i /\ ∀j q,cs[j]?=some q->q≠p /\ LsF H2 q (nR m (pivM M c k j))) ⟨none,none,[],rfl,tp,Á,rfl,fun j q e=>by simp at e⟩ ?_ ?_ ?_
  ·rintro i σ H2 hi ⟨v5,v6,cs,rfl,s2,h2,lc,hC⟩;exact SqL.of ((s1.trans s2) _ _ ha)
  ·rintro i x T' σ H2 hx1 ⟨v5,v6,cs,rfl,s2,h2,lc,hC⟩ hT;obtain⟨bi,rfl,hbi⟩:=yP1 hx1;have hil:i<r:=by have:=(Ą.mp hbi).1;lia
   have tT:=Same.upd (o:=.tup [.int (i:Nat),.ref bi]) hT;refine⟨T',_,rfl,SqT.of Á,rfl,_,_,rfl,_,_,rfl,rfl,?_⟩;have s2T:=s2.trans tT;have h2T:=tT _ _ h2;have hC3:∀j q,cs[j]?=some q->q≠p /\ LsF (upd H2 T' (.tup [.int (i:Nat),.ref bi])) q (nR m (pivM M c k j)):=fun j q e=>⟨(hC j q e).1,(hC j q e).2.same tT⟩;generalize upd H2 T' (.tup [.int (i:Nat),.ref bi])=H3 at *;have fin2:∀H4 q,Same H3 H4->q≠p->LsF H4 q (nR m (pivM M c k i))->∃(v5 v6:Option V) (ds:List Addr),[some (V.ref a),some (.int (c:Nat)),some (.int (k:Nat)),some (.ref Dd),some (.ref p),some (.int (i:Nat)),some (.ref bi)]=[some (V.ref a),some (.int (c:Nat)),some (.int (k:Nat)),some (.ref Dd),some (.ref p),v5,v6] /\ Same H1 (upd H4 p (.lst (cs.map V.ref++[.ref q]))) /\ upd H4 p (.lst (cs.map V.ref++[.ref q])) p=some (.lst (ds.map V.ref)) /\ ds.length=i+1 /\ ∀j q',ds[j]?=some q'->q'≠p /\ LsF (upd H4 p (.lst (cs.map V.ref++[.ref q]))) q' (nR m (pivM M c k j)):=by
    intro H4 q s4 nq hq;have h4:=s4 _ _ h2T;have tu:=Ì (o:=.lst (cs.map V.ref++[.ref q])) h4 (fun _ z=>nomatch z);refine⟨_,_,cs++[q],rfl,(s2T.trans s4).updD hp',by rw[Á,Đ];rfl,by rw[Ď,lc];rfl,fun j q' e=>?_⟩;rcases zS9 e with e | ⟨e1,rfl⟩
    ·obtain⟨n1,l1⟩:=hC3 j q' e;exact⟨n1,(l1.same s4).keep tu fun vs h=>by rw[upd_ne n1];exact h⟩
    ·rw[e1,lc];exact⟨nq,hq.keep tu fun vs h=>by rw[upd_ne nq];exact h⟩
   have npD:Dd≠p:=fun e=>by rw[<- e,hd]at hp';cases hp'
   show tIfS _ _ _ _ _ _;refine⟨_,rfl,_,rfl,rfl,_,rfl,?_⟩;refine ite2 (fun h=>?_) (fun h=>?_)
   ·have h:i=c:=by have:=of_decide_eq_true h;have:=V.int.inj this;lia
    subst h;refine⟨_,rfl,.inl ⟨rfl,_,SqL.of h2T⟩,_,rfl,p,_,_,rfl,rfl,h2T,sz (by rw[ā];lia),?_⟩;refine fin2 H3 Dd (Same.refl _) npD ?_;have e:nR m (pivM M i k i)=nR m (fun j=>M i j / M i k):=zS4 fun j _=>by unfold pivM;rw[if_pos rfl]
    rw[e];exact hld.same s2T
   ·have h:i≠c:=fun e=>h (decide_eq_true (by rw[e]));obtain⟨us,u,hus,_,hau,fu⟩:=((hB i bi hbi).same (s1.trans s2T)).at hk;refine⟨_,rfl,.inl ⟨rfl,_,SqL.of h2T⟩,_,rfl,_,rfl,_,rfl,_,rfl,bi,_,_,_,rfl,rfl,SqL.of hus,hau,?_⟩;refine⟨bi,Dd,u,m,M i,(fun j=>M c j / M c k),M i k,rfl,(hB i bi hbi).same (s1.trans s2T),hld.same s2T,fu,hm,(hbd i hil k hk).1,fun j hj=>⟨(hbd i hil j hj).1,(hbd i hil j hj).2⟩,fun pn H4 hpn s4 h4=>?_⟩;refine⟨p,_,_,rfl,rfl,s4 _ _ h2T,sz (by rw[ā];lia),?_⟩;refine fin2 H4 pn s4 (fun e=>by rw[e,h2T]at hpn;cases hpn) ?_;have e:nR m (pivM M c k i)=nR m (fun j=>M i j - M c j / M c k*M i k):=zS4 fun j _=>by unfold pivM;rw[if_neg h]
    rw[e];exact h4
  ·rintro σ H2 ⟨v5,v6,cs,rfl,s2,h2,lc,hC⟩;rw[ā,lb]at lc;exact⟨_,rfl,fin p H2 hp0 (s1.trans s2) ⟨cs,h2,lc,fun j q e=>(hC j q e).2⟩⟩
noncomputable abbrev zQ7:Stmt:=top 16
theorem sc_solved:Ë ["rows","many","column","at","ordered"] ["rows"] (Ç zQ7):=scF
theorem yR3 {ca:Ca}(D:DefAt K mg "solved" zQ7)(T:Txt K mg ca)(G_pivoted:FnAt P w K mg base CX0 5 "pivoted" ["rows","at","column"] (xL1)):FnAt P w K mg base CX0 6 "solved" ["rows"] (yF0):=by
 refine D.ok sc_solved (fun vs H Q E h=>?_) (fun _ _ _ _ _ _ us hl=>match us,hl with | [_],_=>rfl) (fun f cdv A outer s H vs Q E hr h=>?_)
 all_goals obtain⟨a,n,d,e,A,rfl,hM,hn,hbd,hd1,he1,hA,k⟩:=h
 ·rfl
 ·have nd:=sc_solved.nd;refine⟨_,(Â (É (i:=1) nd rfl (Or.inr rfl) (ß (ê (K:=K) rfl) (by rfl) T.z_len PySem.boot_len (À (pv 0) Ä)))
   (Â (Ú PassesOwn.never rfl (ÿ (by rfl) T.z_range (À (pv 1) Ä)) (È (i:=2) nd rfl (Or.inl rfl)) (Â (É (i:=3) nd rfl (Or.inl rfl) (pv 2))
   (Â (zK4 PassesOwn.never (Ô (zM5 (K:=K) rfl hr) (pixL (pixL (pv 0) (pv 3)) (pv 2)) (Ñ (À Ã (À Ã Ä))) (Ý _)) (Å (yP7 (i:=3) nd rfl (Or.inl rfl) Ã yT7)))
   (Â (É (i:=4) nd rfl (Or.inl rfl) (ö (zC5 (K:=K) rfl) (by rfl) T.z_list zJ2 (À (pv 0) Ä)))
   (Â (zW5 (pixL (pv 0) (pv 2)) (xD1 (pv 4) (pv 3) yF7))
   (Â (zW5 (pixL (pv 0) (pv 3)) (xD1 (pv 4) (pv 2) yF7))
   (Å (É (i:=0) nd rfl (Or.inl rfl) (pfn G_pivoted hr (À (pv 4) (À (pv 2) (À (pv 2) Ä))))))))))))
   (Å (Î (Λ ["row"] ["many"] [1] rfl (by rfl) (ï (K:=K) rfl (pv 0)) (fun _ _ _ _=>(È (i:=0) (show List.Nodup (["row","many"]:List Str) from by decide) rfl (Or.inl rfl))) (fun _ _ _ _=>Θ) (fun _ _ _ _=>(pixL (pv 0) (pv 1)))))))),?_⟩
  obtain⟨bs0,ha0,lb0,hB0⟩:=id hM;have l0:(bs0.map V.ref).length=n:=by rw[ā];exact lb0
  refine⟨_,rfl,_,_,rfl,.inl ⟨_,SqL.of ha0,rfl⟩,?_⟩;rw[l0];refine⟨_,rfl,_,rfl,by lia,by lia,?_⟩;refine Δ (fun c σ H1=>∃(v2 v3 v4:Option V) (pc:Addr) (M:Nat->Nat->Rat) (x y:Nat),σ=[some (.ref pc),some (.int (n:Nat)),v2,v3,v4] /\ Same H H1 /\ MatAt H1 pc n (n+1) M /\ ClrM n M c /\ (∀y,KerM n M y->KerM n A y) /\ BdB n M x y /\ x+1=2^c*(d+1) /\ y+(d+1)=e+2^c*(d+1)) ⟨none,none,none,a,A,d,e,rfl,Same.refl H,hM,(fun i _ j hj=>absurd hj (Nat.not_lt_zero _)),fun _ h=>h,hbd,by lia,by lia⟩ ?_ ?_
  ·rintro c σ H1 hc ⟨v2,v3,v4,pc,M,x,y,rfl,s1,hM1,cl,kr,bd,hx,hy⟩;have hc:c<n:=by simpa using hc
   have p5:2^(c+1)<=2^5:=ħ (by decide) (by lia);have p5':2*(2^c*(d+1))<=32*(d+1):=by
    rw[<- ĵ,Ŏ 2,<- ģ];exact Ĕ _ p5
   obtain⟨a0,h1,h2,h3⟩:=yQ0 hc cl kr hA;obtain⟨bs,ha,lb,hB⟩:=id hM1;refine⟨_,rfl,?_⟩;refine zJ8 (fun σ H2=>∃q:Nat,σ=[some (.ref pc),some (.int (n:Nat)),some (.int (0+(c:Int))),some (.int (q:Nat)),v4] /\ Same H1 H2 /\ c<=q /\ q<=a0) (fun σ _=>match σ with | [_,_,_,some (.int q),_]=>n - q.toNat | _=>0) ⟨c,by simp,Same.refl _,ą _,h1⟩ ?_ ?_
   ·rintro σ H2 ⟨q,rfl,s2,hcq,hqa⟩;obtain⟨bq,hbq⟩:∃b,bs[q]?=some b:=⟨_,Ā (by lia)⟩;obtain⟨vs,v,hvs,_,hat,fv⟩:=(hB q bq hbq).at (j:=c) (by lia);have hat':atI vs (0+(c:Int))=some v:=by rw[ŧ];exact hat
    refine⟨_,rfl,_,rfl,pc,_,_,_,rfl,rfl,SqL.of (s2 _ _ ha),zM0 hbq,_,rfl,bq,_,_,_,rfl,rfl,SqL.of (s2 _ _ hvs),hat',?_⟩;refine⟨sz (by simp),fun p0 hp0=>?_⟩;have t0:=Same.upd (o:=.tup [.int 0,.int 1]) hp0;refine⟨_,_,(fv.same (s2.trans t0)).rep,ν (SqT.of Á),Ż _ _,_,rfl,?_⟩;rw[eq01];refine ite2 (fun h=>?_) (fun h=>?_)
    ·have h:M q c=0:=of_decide_eq_true h;have hne:q≠a0:=fun e=>h3 (by rw[<- e];exact h);refine⟨_,rfl,_,_,rfl,rfl,?_⟩;refine⟨⟨q+1,rfl,s2.trans t0,by lia,by lia⟩,?_⟩;show n - (((q:Nat):Int)+1).toNat<n - ((q:Nat):Int).toNat;lia
    ·have h:M q c≠0:=fun e=>h (decide_eq_true e);have hqn:q<n:=by lia
     have s2t:=s2.trans t0;obtain⟨bc,hbc⟩:∃b,bs[c]?=some b:=⟨_,Ā (by lia)⟩;have hac:atI (bs.map V.ref) (0+(c:Int))=some (.ref bc):=by rw[ŧ];exact zM0 hbc
     have ha2:=s2t _ _ ha;refine⟨_,rfl,pc,_,rfl,.inl (SqL.of ha2),fun po hpo=>?_⟩;have t1:=Same.upd (o:=.lst (bs.map V.ref)) hpo;refine⟨_,rfl,_,rfl,pc,_,_,_,rfl,rfl,SqL.of (t1 _ _ ha2),hac,_,rfl,_,rfl,?_⟩;have hpo1:=Á (H:=upd H2 p0 (.tup [.int 0,.int 1])) (a:=po) (o:=.lst (bs.map V.ref));have hB2:∀i b,bs[i]?=some b->LsF (upd (upd H2 p0 (.tup [.int 0,.int 1])) po (.lst (bs.map V.ref))) b (nR (n+1) (M i)):=fun i b e=>(hB i b e).same (s2t.trans t1);have s2o:=s2t.trans t1;have hbo:∀i b,bs[i]?=some b->b≠po:=fun i b e z=>by
      obtain⟨vs,h1,_⟩:=hB i b e;rw[z]at h1;have:=s2t _ _ h1;rw[hpo]at this;cases this
     have hpc:pc≠po:=fun z=>by rw[z,hpo]at ha2;cases ha2
     have hpo0:H1 po=none:=s2t.free hpo;generalize upd (upd H2 p0 (.tup [.int 0,.int 1])) po (.lst (bs.map V.ref))=H3 at *;have ll:(bs.map V.ref).length=n:=by rw[ā];exact lb
     refine⟨po,_,_,q,rfl,rfl,hpo1,by rw[ll];exact yT5 hqn,?_⟩;rw[yH0];have u4:=Ì (o:=.lst ((bs.set q bc).map V.ref)) hpo1 (fun _ z=>nomatch z);have ha4:upd H3 po (.lst ((bs.set q bc).map V.ref)) pc=some (.lst (bs.map V.ref)):=by rw[upd_ne hpc];exact s2o _ _ ha
     have s4:=s2o.updD (o:=.lst ((bs.set q bc).map V.ref)) hpo0;have hpo4:=Á (H:=H3) (a:=po) (o:=.lst ((bs.set q bc).map V.ref));have hB4:∀i b,bs[i]?=some b->LsF (upd H3 po (.lst ((bs.set q bc).map V.ref))) b (nR (n+1) (M i)):=fun i b e=>(hB2 i b e).keep u4 fun vs h=>by rw[upd_ne (hbo i b e)];exact h
     generalize upd H3 po (.lst ((bs.set q bc).map V.ref))=H4 at *;refine⟨_,rfl,_,rfl,pc,_,_,_,rfl,rfl,SqL.of ha4,zM0 hbq,_,rfl,_,rfl,?_⟩;have l4:((bs.set q bc).map V.ref).length=n:=by rw[ā,List.length_set];exact lb
     refine⟨po,_,_,c,rfl,rfl,hpo4,by rw[l4,ŧ];exact yT5 hc,?_⟩;rw[yH0];have u5:=Ì (o:=.lst (((bs.set q bc).set c bq).map V.ref)) hpo4 (fun _ z=>nomatch z);have s5:=s4.updD (o:=.lst (((bs.set q bc).set c bq).map V.ref)) hpo0;have hpo5:=Á (H:=H4) (a:=po) (o:=.lst (((bs.set q bc).set c bq).map V.ref));have hB5:∀i b,bs[i]?=some b->LsF (upd H4 po (.lst (((bs.set q bc).set c bq).map V.ref))) b (nR (n+1) (M i)):=fun i b e=>(hB4 i b e).keep u5 fun vs h=>by rw[upd_ne (hbo i b e)];exact h
     generalize upd H4 po (.lst (((bs.set q bc).set c bq).map V.ref))=H5 at *;have hM5:MatAt H5 po n (n+1) (δ M q c):=MatAt.swap hpo5 lb hB5 hbq hbc;have hp5:δ M q c c c≠0:=by unfold δ;rw[if_pos rfl];exact h
     have bd5:=bd.swap hqn hc;refine⟨_,rfl,_,rfl,_,rfl,po,n,n+1,c,c,δ M q c,?_,hM5,hc,by lia,by lia,by lia,hp5,bd5.all hc hc hp5 (by lia) (by lia),fun pn H6 hpn s6 hM6=>?_⟩
     ·show [V.ref po,.int (0+(c:Int)),.int (0+(c:Int))]=_;rw[ŧ]
     refine⟨_,_,_,pn,_,2*x+1,x+y+1,rfl,s1.trans (s5.trans s6),hM6,(cl.swap hc hcq hqn).piv hc hp5,fun y hy=>kr y ((hy.unpiv hc hp5).unswap hqn hc),bd5.piv hc hc hp5,?_,?_⟩
     ·rw[ģ,Ŏ _ 2,ĵ];lia
     ·rw[ģ,Ŏ _ 2,ĵ];lia
   ·intro σ H2 Q1 Q2 hq hh;obtain⟨v1,e1,v2,e2,a1,a2,a3,a4,e3,e4,q1,q2,v5,e5,b1,b2,b3,b4,e6,e7,q3,q4,z1,g⟩:=hh;exact⟨v1,e1,v2,e2,a1,a2,a3,a4,e3,e4,q1,q2,v5,e5,b1,b2,b3,b4,e6,e7,q3,q4,z1,fun p hp=>let ⟨d1,d2,r1,r2,dp,kk,ek,hQ⟩:=g p hp;⟨d1,d2,r1,r2,dp,kk,ek,hq _ _ hQ⟩⟩
  ·rintro σ H1 ⟨v2,v3,v4,pc,M,x,y,rfl,s1,hM1,cl,kr,bd,hx,hy⟩;have en:((n:Int)).toNat=n:=by simp
   rw[en]at cl hx hy;obtain⟨bs,ha,lb,hB⟩:=id hM1;refine⟨_,rfl,pc,rfl,⟨_,SqL.of ha⟩,fun Dd hD=>?_⟩;have hD0:=s1.free hD;refine zA9 (xs:=bs.map V.ref) (fun i σ' H'=>∃(v:Option V) (ws:List V),σ'=[v,some (.int (n:Nat))] /\ Same H1 H' /\ H' Dd=some (.lst ws) /\ Paired (FrV H') ws (nR i fun i=>M i n)) ⟨none,[],rfl,Same.upd hD,Á,.nil⟩ ?_ ?_ ?_
   ·rintro i σ' H' hi ⟨v,ws,rfl,s2,hd,hW⟩;exact SqL.of (s2 _ _ ha)
   ·rintro i z σ' H' hz ⟨v,ws,rfl,s2,hd,hW⟩;obtain⟨bi,rfl,hbi⟩:=yP1 hz;have hil:i<n:=by have:=(Ą.mp hbi).1;lia
    obtain⟨us,u,hus,_,hau,fu⟩:=((hB i bi hbi).same s2).at (j:=n) (by lia);have lW:ws.length=i:=hW.length.trans (γ i _);refine⟨_,rfl,_,rfl,bi,_,_,_,rfl,rfl,SqL.of hus,hau,_,hd,sz (by lia),_,ws++[u],rfl,s2.updD hD,Á,?_⟩;rw[zN1];have tu:=Ì (o:=.lst (ws++[u])) hd (fun _ z=>nomatch z);exact Paired.snoc (Paired.mapP hW fun _ _ f=>f.tup tu) (fu.tup tu)
   ·rintro σ' H2 ⟨v,ws,rfl,s2,hd,hW⟩;rw[ā,lb]at hW;have p5:2^n<=2^5:=ħ (by decide) hn;have p6:2^n*(d+1)<=32*(d+1):=Ĕ _ p5;obtain⟨D1,E1,g⟩:=bd;refine k Dd H2 (fun i=>M i n) hD0 (s1.trans s2) ⟨ws,hd,hW⟩ (yN8 cl kr) ⟨E1,2^y,g.e0,g.ew,ħ (by decide) (by lia),g.la⟩
noncomputable abbrev zL6:Stmt:=top 18
theorem sc_unmoved:Ë ["names","rows","name"] ["names"] (Ç zL6):=scF
theorem yK4 {ca:Ca}(D:DefAt K mg "unmoved" zL6)(T:Txt K mg ca):FnAt P w K mg base CX0 1 "unmoved" ["names"] (zL2 K):=by
 refine D.ok sc_unmoved (fun vs H Q E h=>?_) (fun _ _ _ _ _ _ us hl=>match us,hl with | [_],_=>rfl) (fun f cdv A outer s H vs Q E hr h=>?_)
 all_goals obtain⟨an,L,rfl,hS,hn,h8,k⟩:=h
 ·rfl
 ·have nd:=sc_unmoved.nd;refine⟨_,(Â (É (i:=1) nd rfl (Or.inl rfl) ó)
   (Â (Ú PassesOwn.never rfl (ï (K:=K) rfl (pv 0)) (È (i:=2) nd rfl (Or.inl rfl)) (Å (ã (Ù hr) (pv 1) (pv 2) (xG9 (yY2 (pv 2) (Ñ (À Ã (À Ã Ä))) xG4) rfl rfl (List.cons_ne_nil _ _) (Nat.le_of_ble_eq_true rfl)) rfl)))
   (Å (Î (pv 1))))),?_⟩
  intro p hp;have tp:=Same.upd (o:=.dK []) hp;refine⟨_,rfl,an,rfl,⟨_,tp.seq hS⟩,?_⟩;refine Ÿ (xs:=L.map V.str) (fun i σ H1=>∃(v2:Option V) (rows:List (Key×V)) (ad:Str->Addr),σ=[some (.ref an),some (.ref p),v2] /\ Same H H1 /\ H1 p=some (.dK rows) /\ TabAt H H1 p rows (L.take i) dlt ad) ⟨none,[],fun _=>0,rfl,tp,Á,TabAt.nil _ _ _ _ _⟩ ?_ ?_ ?_
  ·rintro i σ H1 hi ⟨v2,rows,ad,rfl,s1,h1,T⟩;exact s1.seq hS
  ·rintro i x σ H1 hx ⟨v2,rows,ad,rfl,s1,h1,T⟩;obtain⟨n,rfl,hi⟩:=zH0 hx;intro q hq;refine⟨_,rfl,sz (by simp),fun f hf=>?_⟩;have nqf:q≠f:=fun e=>by rw[<- e,Á]at hf;cases hf
   refine⟨by rw[upd_ne nqf,Á],[(.inr n,.ref f)],rfl,by simp,?_⟩;have t3:=((Same.upd (o:=.dK []) hq).trans (Same.upd (o:=.tup [.int 1,.int 1]) hf)).updD (o:=.dK (ζ [] [(.inr n,.ref f)])) hq;have npq:p≠q:=Æ h1 hq;have len:rows.length<=8:=by
    rw[T.len (hn.sublist (List.take_sublist _ _)),ċ];lia
   refine⟨_,rfl,_,rfl,p,upd (upd (upd (upd H1 q (.dK [])) f (.tup [.int 1,.int 1])) q (.dK (ζ [] [(.inr n,.ref f)]))) p (.dK (putK rows (.inr n) (.ref q))),rfl,?_,?_⟩
   ·exact DPut.k (k:=.inr n) (t3 _ _ h1) (sz (by lia))
   have hq0:H q=none:=s1.free hq;have ff:FrV (upd (upd (upd (upd H1 q (.dK [])) f (.tup [.int 1,.int 1])) q (.dK (ζ [] [(.inr n,.ref f)]))) p (.dK (putK rows (.inr n) (.ref q)))) (.ref f) 1:=by
    refine⟨f,rfl,?_⟩;have npf:f≠p:=fun e=>by rw[e,upd_ne npq,h1]at hf;cases hf
    rw[upd_ne npf,upd_ne nqf.symm,Á];rfl
   have tt:∀v r,FrV H1 v r->FrV (upd (upd (upd (upd H1 q (.dK [])) f (.tup [.int 1,.int 1])) q (.dK (ζ [] [(.inr n,.ref f)]))) p (.dK (putK rows (.inr n) (.ref q)))) v r:=fun v r g=>(g.same t3).tup (Ì (t3 _ _ h1) (fun _ z=>nomatch z));refine⟨_,putK rows (.inr n) (.ref q),fun z=>if z=n then q else ad z,rfl,(s1.trans t3).updD hp,Á,?_⟩;exact T.put hq0 hq npq.symm (fun c o e n=>by rw[upd_ne n];exact t3 _ _ e) tt (by rw[upd_ne npq.symm,Á]) (RowAt.unit n ff) (fun _ _ _=>rfl) (zG1 hi)
  ·rintro σ H1 ⟨v2,rows,ad,rfl,s1,h1,T⟩;rw[ā,đ]at T;exact⟨_,rfl,k p H1 rows ad hp s1 h1 T⟩
noncomputable abbrev zD2:Stmt:=top 19
theorem sc_add_shares:Ë ["ends","shares","factor","place","share"] ["ends","shares","factor"] (Ç zD2):=scF
theorem zR6 {ca:Ca}(D:DefAt K mg "add_shares" zD2)(T:Txt K mg ca)(G_plus:FnAt P w K mg base CX0 2 "plus" ["one","other"] (π))(G_times:FnAt P w K mg base CX0 2 "times" ["one","other"] (spTimes)):FnAt P w K mg base CX0 3 "add_shares" ["ends","shares","factor"] (zL5):=by
 refine D.ok sc_add_shares (fun vs H Q E h=>?_) (fun _ _ _ _ _ _ us hl=>match us,hl with | [_,_,_],_=>rfl) (fun f cdv A outer s H vs Q E hr h=>?_)
 all_goals obtain⟨a,b,x,t,kv,ks,e,s,rfl,hab,ha,hb,he,hs,hx,bt,hB,hn,k⟩:=h
 ·rfl
 ·have nd:=sc_add_shares.nd;refine⟨_,(Å (Ű (Ô (zM4 (K:=K) rfl hr) (pv 2) (Ñ (À Ã (À Ã Ä))) (Ý _)) (Å (ú (Ú PassesOwn.never rfl (ż (ź (K:=K) rfl PySem.F.plainAttrs_dict PySem.F.slot_dict_items PySem.F.type_dict_items Ž (pv 1))) (Η rfl (Ï (È (i:=3) nd rfl (Or.inl rfl)) (Ï (È (i:=4) nd rfl (Or.inl rfl)) ŭ))) (Å (ã (Ù hr) (pv 0) (pv 3) (pfn G_plus hr (À (yG7 (Ù hr) (pv 0) (pv 3) (Ñ (À Ã (À Ã Ä))) ⟨by rfl,by rfl,by rfl,by rfl⟩) (À (pfn G_times hr (À (pv 4) (À (pv 2) Ä))) Ä))) rfl))))) á)),?_⟩;refine⟨_,rfl,sz (by simp),fun p0 hp0=>?_⟩;have t0:=Same.upd (o:=.tup [.int 0,.int 1]) hp0;refine⟨_,_,(hx.same t0).rep,ν (SqT.of Á),Ż _ _,_,rfl,?_⟩;have e0:PyData.eqv (pq t.num t.den) (pq 0 1)=decide (t=0):=by
   rw[zN4];exact ο t 0
  refine ite2 (fun h=>?_) (fun h=>?_)
  ·have h:(!PyData.eqv (pq t.num t.den) (pq 0 1))=true:=h;have ht:t≠0:=by
    rw[e0]at h;intro z;rw[decide_eq_true z]at h;cases h
   rw[if_neg ht]at k;have hb1:=t0 _ _ hb;refine⟨b,_,hb1,rfl,?_⟩;refine⟨_,rfl,.inr (.inr (.inl ⟨rfl,.inl ⟨_,hb1⟩⟩)),b,_,rfl,rfl,hb1,rfl,fun pv hpv=>?_⟩;have t1:=t0.trans (Same.upd (o:=Μ pv b) hpv);refine⟨pv,b,_,rfl,Á,t1 _ _ hb,rfl,fun o ps hps=>?_⟩;have hps:ps=ks.map fun kv=>(kV kv.1,kv.2):=hps;subst hps;have keepF:∀{H2:Hp} {v:V} {r:Rat},(∀c ob,H c=some ob->c≠a->c≠b->H2 c=some ob)->FrV H v r->FrV H2 v r:=by
    rintro H2 v r hk ⟨c,rfl,hc⟩;exact⟨c,rfl,hk c _ hc (å hc ha (by intro z;cases z)) (å hc hb (by intro z;cases z))⟩
   refine Ź (fun i σ H2=>∃(v3 v4:Option V) (kv':List (Key×V)),σ=[some (.ref a),some (.ref b),some x,v3,v4] /\ H2 b=some (.frz o (.dK ks)) /\ (∀c ob,H c=some ob->c≠a->c≠b->H2 c=some ob) /\ H2 a=some (.dK kv') /\ kv'.length<=kv.length+i /\ RowAt H2 kv' (addF e s t (nms (ks.take i)))) ?_ ?_ ?_ ?_
   ·have h2:∀c ob,H c=some ob->c≠a->c≠b->upd (upd (upd H p0 (.tup [.int 0,.int 1])) pv (Μ pv b)) b (.frz o (.dK ks)) c=some ob:=fun c ob q _ n=>by rw[upd_ne n];exact t1 _ _ q
    refine⟨none,none,kv,rfl,Á,h2,by rw[upd_ne hab];exact t1 _ _ ha,ą _,?_⟩;have ef:addF e s t (nms (ks.take 0))=e:=by funext z;simp[addF,nms]
    rw[ef];exact he.same fun v r f=>keepF h2 f
   ·rintro i σ H2 ⟨_,_,_,_,h,_⟩;exact h
   ·rintro i k' v T σ H2 hk ⟨v3,v4,kv',rfl,hfb,hkeep,ha2,hl2,hrow⟩ hT;obtain⟨kvi,hki,ek⟩:=Κ hk;have hi:i<ks.length:=(Ą.mp hki).1;obtain⟨z,hz⟩:=hs.keys kvi (Ċ hki);obtain⟨rfl,rfl⟩:=Prod.mk.inj ek;have hval:=ů hs.nodup hki;rw[hz]at hval;obtain⟨r,hr,fr⟩:∃r,s z=some r /\ FrV H kvi.2 r:=by
     cases q:s z with
     | none=>rw[hs.not z q]at hval;cases hval
     | some r =>
      obtain⟨v',h1,h2⟩:=hs.has z r q;rw[hval]at h1;cases h1;exact⟨r,rfl,h2⟩
    have hzn:z∉nms (ks.take i):=yR8 hs.nodup hki hz hs.keys;have t3:=Same.upd (o:=.tup [kV kvi.1,kvi.2]) hT;refine⟨T,_,rfl,SqT.of Á,rfl,_,_,rfl,_,_,rfl,rfl,?_⟩;have ekv:kV kvi.1 = .str z:=by rw[hz];rfl
    refine⟨_,rfl,a,rfl,.inl ⟨kv',.inl (t3 _ _ ha2)⟩,_,rfl,sz (by simp),fun q0 hq0=>?_⟩;have t4:=t3.trans (Same.upd (o:=.tup [.int 0,.int 1]) hq0);refine⟨valV kv' (.inr z),?_,?_⟩
    ·have g:=DGet.k (k:=kvi.1) (t4 _ _ ha2);have e9:valV kv' kvi.1=valV kv' (.inr z):=by rw[hz]
     rw[e9]at g;exact g
    have fg:∀{H5:Hp},Same (upd (upd H2 T (.tup [kV kvi.1,kvi.2])) q0 (.tup [.int 0,.int 1])) H5->FrV H5 ((valV kv' (.inr z)).getD (.ref q0)) ((e z).getD 0):=by
     intro H5 s5;have ez:addF e s t (nms (ks.take i)) z=e z:=by unfold addF;rw[if_neg hzn]
     cases q:e z with
     | none =>
      rw[hrow.not z (ez.trans q)];exact(FrV.newOf (r:=0) rfl rfl).same s5
     | some r' =>
      obtain⟨v',h1,h2⟩:=hrow.has z r' (ez.trans q);rw[h1];exact(h2.same t4).same s5
    obtain⟨b1,b2⟩:=hB z;have er:(s z).getD 0=r:=by rw[hr];rfl
    rw[er]at b2;refine⟨_,rfl,_,rfl,spTimes.of (E:=E0) rfl ((keepF hkeep fr).same t4) ((keepF hkeep hx).same t4) (b2.mono (by decide)) (bt.mono (by decide)) fun v5 H5 s5 f5=>?_⟩;refine⟨_,_,(e z).getD 0,r*t,rfl,fg s5,f5,b1.mono (by decide),(b2.mul bt).mono (by decide),fun v6 H6 s6 f6=>?_⟩;have t6:=t4.trans (s5.trans s6);refine⟨_,rfl,_,rfl,a,upd H6 a (.dK (putK kv' (.inr z) v6)),rfl,?_,?_⟩
    ·have g:=DPut.k (k:=kvi.1) (v:=v6) (t6 _ _ ha2) (sz (by lia));have e9:putK kv' kvi.1 v6=putK kv' (.inr z) v6:=by rw[hz]
     rw[e9]at g;exact g
    refine⟨_,_,putK kv' (.inr z) v6,rfl,by rw[upd_ne hab.symm];exact t6 _ _ hfb,fun c ob q n1 n2=>by rw[upd_ne n1];exact t6 _ _ (hkeep c ob q n1 n2),Á,?_,?_⟩
    ·have:=zA1 kv' (.inr z) v6;lia
    ·have row:=((hrow.same fun v r f=>f.same t6).put (z:=z) f6).same (H':=upd H6 a (.dK (putK kv' (.inr z) v6))) fun v r f=>by
      obtain⟨c,rfl,hc⟩:=f;exact⟨c,rfl,by rw[upd_ne (å hc (t6 _ _ ha2) (by intro z;cases z))];exact hc⟩
     have ef:addF e s t (nms (ks.take (i+1)))=fun y=>if y=z then some ((e z).getD 0+r*t) else addF e s t (nms (ks.take i)) y:=by
      funext y
      have en:nms (ks.take (i+1))=nms (ks.take i)++[z]:=by
       unfold nms;rw[Ŀ,hki,Đ];show _++[nmz kvi.1]=_;rw[hz];rfl
      unfold addF;rw[en]
      by_cases ey:y=z
      ·subst ey;simp[er]
      ·simp[ey]
     rw[ef];exact row
   ·rintro σ H2 ⟨v3,v4,kv',rfl,hfb,hkeep,ha2,hl2,hrow⟩;rw[ā]at hl2 hrow;rw[đ]at hrow;have hk2:∀c ob,H c=some ob->c≠a->upd H2 b (.dK ks) c=some ob:=fun c ob q n=>by
     by_cases z:c=b
     ·subst z;rw[Á];rw[hb]at q;exact q
     ·rw[upd_ne z];exact hkeep c ob q n z
    refine⟨o,_,hfb,k _ kv' hk2 (by rw[upd_ne hab];exact ha2) hl2 ?_⟩;have ef:addF e s t (nms ks)=fun z=>if (s z).isSome=true then some ((e z).getD 0+(s z).getD 0*t) else e z:=by
     funext z
     unfold addF
     by_cases q:z∈nms ks
     ·obtain⟨kvi,hm,ez⟩:=Ė.mp q;obtain⟨y,hy⟩:=hs.keys kvi hm;obtain⟨j,hj,ej⟩:=ě hm;have hval:=ů hs.nodup (i:=j) (p:=kvi) (by rw[Ā hj,ej]);have eyz:y=z:=by rw[hy]at ez;exact ez
      rw[hy,eyz]at hval;cases q2:s z with
      | none=>rw[hs.not z q2]at hval;cases hval
      | some r=>simp[q]
     ·cases q2:s z with
      | none=>simp[q]
      | some r =>
       obtain⟨v',h1,_⟩:=hs.has z r q2;exact absurd (zI6 h1) q
    rw[<- ef];refine hrow.same fun v r f=>?_;obtain⟨c,rfl,hc⟩:=f;exact⟨c,rfl,by rw[upd_ne (å hc hfb (by intro z;cases z))];exact hc⟩
  ·have h:¬(!PyData.eqv (pq t.num t.den) (pq 0 1))=true:=h;have ht:t=0:=by
    rw[e0]at h
    by_cases z:t=0
    ·exact z
    ·rw[decide_eq_false z]at h;exact absurd rfl h
   rw[if_pos ht]at k;exact k _ kv (fun c ob q _=>t0 _ _ q) (t0 _ _ ha) (by lia) (he.same fun v r f=>f.same t0)
noncomputable abbrev zQ8:Stmt:=top 20
theorem sc_passed:Ë ["rows","step","ends"] ["rows","step"] (Ç zQ8):=scF
theorem yR4 {ca:Ca}(D:DefAt K mg "passed" zQ8)(T:Txt K mg ca)(G_add_shares:FnAt P w K mg base CX0 3 "add_shares" ["ends","shares","factor"] (zL5))(G_minus:FnAt P w K mg base CX0 3 "minus" ["one","other"] (zH1)):FnAt P w K mg base CX0 4 "passed" ["rows","step"] (zQ3):=by
 refine D.ok sc_passed (fun vs H Q E h=>?_) (fun _ _ _ _ _ _ us hl=>match us,hl with | [_,_],_=>rfl) (fun f cdv A outer s H vs Q E hr h=>?_)
 all_goals obtain⟨rw0,st,ax,ay,x,y,fr,t,rows,kx,ky,fx,fy,rfl,hrw,hst,hfr,vx,hax,rx,vy,hay,ry,bt,bt1,hB,hn,k⟩:=h
 ·rfl
 ·have nd:=sc_passed.nd;refine⟨_,(Â (É (i:=2) nd rfl (Or.inl rfl) ó)
   (Â (ð (pfn G_add_shares hr (À (pv 2) (À (Õ (Ù hr) (pv 0) (pixT (pv 1) Ã) (fun _ _=>rfl)) (À (pfn G_minus hr (À (Ñ (À Ã (À Ã Ä))) (À (pixT (pv 1) Ã) Ä))) Ä)))))
   (Â (ð (pfn G_add_shares hr (À (pv 2) (À (Õ (Ù hr) (pv 0) (pixT (pv 1) Ã) (fun _ _=>rfl)) (À (pixT (pv 1) Ã) Ä)))))
   (Å (Î (pv 2)))))),?_⟩
  intro p hp;have tp:=Same.upd (o:=.dK []) hp;have npx:p≠ax:=(Æ hax hp).symm;have npy:p≠ay:=(Æ hay hp).symm;refine⟨_,rfl,_,rfl,_,rfl,st,_,_,_,rfl,rfl,SqT.of (tp _ _ hst),rfl,rw0,.ref ax,rfl,?_,?_⟩
  ·have g:=DGet.k (k:=.inr x) (tp _ _ hrw);rw[vx]at g;exact g
  refine⟨sz (by simp),fun q hq=>?_⟩;have t1:=tp.trans (Same.upd (o:=.tup [.int 1,.int 1]) hq);refine⟨_,rfl,st,_,_,_,rfl,rfl,SqT.of (t1 _ _ hst),rfl,?_⟩;refine⟨_,_,1,t,rfl,FrV.newOf rfl rfl,hfr.same t1,⟨by decide,by decide⟩,bt.mono (by decide),fun v1 H1 s1 f1=>?_⟩;have u1:=t1.trans s1;have hp1:H1 p=some (.dK []):=s1 _ _ ((Same.upd (o:=.tup [.int 1,.int 1]) hq) _ _ Á);refine⟨p,ax,v1,1 - t,[],kx,fun _=>none,fx,rfl,npx,hp1,u1 _ _ hax,RowAt.nil _,rx.same fun v r f=>f.same u1,f1,bt1,fun z=>⟨(show Bd 3500 (0:Rat) from⟨by decide,by decide⟩),(hB z).1⟩,by simp only[List.length_nil];lia,fun H2 kv2 k2 hp2 l2 r2=>?_⟩;have u2:Same H H2:=fun c ob e=>k2 c ob (u1 c ob e) (Æ e hp);refine⟨_,rfl,_,rfl,_,rfl,st,_,_,_,rfl,rfl,SqT.of (u2 _ _ hst),rfl,rw0,.ref ay,rfl,?_,?_⟩
  ·have g:=DGet.k (k:=.inr y) (u2 _ _ hrw);rw[vy]at g;exact g
  refine⟨_,rfl,st,_,_,_,rfl,rfl,SqT.of (u2 _ _ hst),rfl,?_⟩;have l2:kv2.length<=kx.length:=by simpa using l2
  refine⟨p,ay,fr,t,kv2,ky,_,fy,rfl,npy,hp2,u2 _ _ hay,r2,ry.same fun v r f=>f.same u2,hfr.same u2,bt,fun z=>⟨(hB z).2.2,(hB z).2.1⟩,by lia,fun H3 kv3 k3 hp3 l3 r3=>?_⟩;have u3:Same H H3:=fun c ob e=>k3 c ob (u2 c ob e) (Æ e hp);exact⟨_,rfl,k p H3 kv3 hp u3 hp3 (by lia) r3⟩
noncomputable abbrev yA8:Stmt:=top 21
theorem sc_table:Ë ["names","steps","rows","step"] ["names","steps"] (Ç yA8):=scF
theorem yY9 {ca:Ca}(D:DefAt K mg "table" yA8)(T:Txt K mg ca)(G_unmoved:FnAt P w K mg base CX0 1 "unmoved" ["names"] (zL2 K))(G_passed:FnAt P w K mg base CX0 4 "passed" ["rows","step"] (zQ3)):FnAt P w K mg base CX0 5 "table" ["names","steps"] (xL0 K):=by
 refine D.ok sc_table (fun vs H Q E h=>?_) (fun _ _ _ _ _ _ us hl=>match us,hl with | [_,_],_=>rfl) (fun f cdv A outer s H vs Q E hr h=>?_)
 all_goals obtain⟨an,as,L,xs,ss,rfl,hS,hn,h8,hX,hP,hO,h40,k⟩:=h
 ·rfl
 ·have nd:=sc_table.nd;refine⟨_,(Â (É (i:=2) nd rfl (Or.inl rfl) (pfn G_unmoved hr (À (pv 0) Ä)))
   (Â (Ú PassesOwn.never rfl (xD0 (K:=K) rfl (by rfl) T.z_reversed (À (pv 1) Ä)) (È (i:=3) nd rfl (Or.inl rfl)) (Å (Ű (Ô Ν (pixT (pv 3) Ã) í (Ý _)) (Å (ã (Ù hr) (pv 2) (pixT (pv 3) Ã) (pfn G_passed hr (À (pv 2) (À (pv 3) Ä))) rfl)) á)))
   (Å (Î (pv 2))))),?_⟩
  have hlen:xs.length=ss.length:=hP.length;refine⟨_,rfl,an,L,rfl,hS,hn,h8,fun p H1 rows0 ad0 hp s1 h1 T1=>?_⟩;refine⟨_,rfl,as,xs,rfl,s1.seq hX,?_⟩;refine yU3 (xs:=xs) (fun j σ H2=>∃(v3:Option V) (rows:List (Key×V)) (ad:Str->Addr),σ=[some (.ref an),some (.ref as),some (.ref p),v3] /\ Same H H2 /\ H2 p=some (.dK rows) /\ TabAt H H2 p rows L (back (ss.drop j)) ad) ⟨none,rows0,ad0,rfl,s1,h1,by rw[hlen,List.drop_length];exact T1⟩ ?_ ?_ ?_
  ·rintro j σ H2 hj ⟨v3,rows,ad,rfl,s2,h2,T⟩;exact s2.seq hX
  ·rintro j x σ H2 hx ⟨v3,rows,ad,rfl,s2,h2,T⟩;obtain⟨st,hst,sv⟩:=Ü hP hx;have hj:j<ss.length:=(Ą.mp hst).1;have ed:ss.drop j=st::ss.drop (j+1):=by
    rw[ľ hj,(Ą.mp hst).2]
   have hOd:∀s∈ss.drop j,OkS L s:=fun s hs=>hO s (Ť hs);have hOd1:∀s∈ss.drop (j+1),OkS L s:=fun s hs=>hO s (Ť hs);cases st with
   | br z yr x0 q0 =>
    obtain⟨a,l,f,rfl,ha,hl,hf⟩:=sv;refine⟨_,rfl,a,_,_,_,rfl,rfl,SqT.of (s2 _ _ ha),rfl,rfl,_,rfl,?_⟩;refine é (by decide +kernel) ?_;refine⟨_,rows,ad,rfl,s2,h2,?_⟩;rw[ed];exact T
   | ps x0 y0 t =>
    obtain⟨a,f,rfl,ha,hf⟩:=sv;obtain⟨hx0,hy0,hxy,t0,t1,td⟩:=hO _ (Ċ hst);refine⟨_,rfl,a,_,_,_,rfl,rfl,SqT.of (s2 _ _ ha),rfl,rfl,_,rfl,?_⟩;refine ŵ rfl ?_;have G:=ø hn hOd1;have B:=zR1 hOd (by rw[Ĩ];lia) (k:=1) (by decide);rw[ed]at B;have B:1*(Ð (ss.drop (j+1))*t.den)<2^2600:=B;have B0:=zR1 hOd1 (by rw[Ĩ];lia) (k:=1) (by decide);have P0:=Ų (ss.drop (j+1));have Pd:0<Ð (ss.drop (j+1))*t.den:=Ņ P0 t.den_pos;obtain⟨vx,_,kx,hax,rx⟩:=T.row x0 hx0;obtain⟨vy,_,ky,hay,ry⟩:=T.row y0 hy0;have lx:=rx.len (G.sup x0 hx0);have ly:=ry.len (G.sup y0 hy0);have bs:=Bd.share t0 t1 td;let R:=back (ss.drop (j+1));have ea:addR (fun _=>none) (op (R x0)) (1 - t)=op fun z=>0+R x0 z*(1 - t):=by
     rw[<- yR0];exact zT8 (fun _=>ŋ) (fun z=>(G.part x0 hx0 z).1) (zB8 t1)
    have eb:addR (addR (fun _=>none) (op (R x0)) (1 - t)) (op (R y0)) t=op (bw x0 y0 t R x0):=by
     rw[ea,zT8 (fun z=>by rw[Ŋ];exact ġ (G.part x0 hx0 z).1 (zB8 t1)) (fun z=>(G.part y0 hy0 z).1) t0];unfold bw;rw[if_pos rfl]
     congr 1
     funext z
     rw[Ŋ]
    refine⟨_,rfl,_,rfl,p,a,ad x0,ad y0,x0,y0,f,t,rows,kx,ky,op (R x0),op (R y0),rfl,h2,s2 _ _ ha,hf.same s2,vx,hax,rx,vy,hay,ry,bs.1.mono (by decide),bs.2.mono (by decide),fun z=>⟨?_,?_,?_⟩,by lia,fun q H3 kv3 hq s3 h3 l3 r3=>?_⟩
    ·rw[ξ];exact((G.part x0 hx0 z).bd P0 (ą _) B0).mono (by decide)
    ·rw[ξ];exact((G.part y0 hy0 z).bd P0 (ą _) B0).mono (by decide)
    ·rw[ea,ξ,Ŋ];exact(((G.part x0 hx0 z).mulR t0 t1).bd Pd (ą _) B).mono (by decide)
    rw[eb]at r3;have len:=T.len hn;have npq:p≠q:=Æ h2 hq;refine⟨_,rfl,_,rfl,a,_,_,_,rfl,rfl,SqT.of (s3 _ _ (s2 _ _ ha)),rfl,p,upd H3 p (.dK (putK rows (.inr x0) (.ref q))),rfl,?_,?_⟩
    ·exact DPut.k (k:=.inr x0) (s3 _ _ h2) (sz (by lia))
    have tt:∀v r,FrV H3 v r->FrV (upd H3 p (.dK (putK rows (.inr x0) (.ref q)))) v r:=fun v r g=>g.tup (Ì (s3 _ _ h2) (fun _ z=>nomatch z));refine⟨_,putK rows (.inr x0) (.ref q),fun z=>if z=x0 then q else ad z,rfl,(s2.trans s3).updD hp,Á,?_⟩;rw[ed];refine T.put (R':=bw x0 y0 t R) (s2.free hq) hq npq.symm (fun c o e n=>by rw[upd_ne n];exact s3 _ _ e) (fun v r g=>tt v r (g.same s3)) (by rw[upd_ne npq.symm];exact h3) (r3.same tt) (fun m _ e=>?_) (fun z=>⟨.inl,fun e=>?_⟩)
    ·unfold bw;rw[if_neg e]
    ·rcases e with e | e
     ·exact e
     ·rw[e];exact hx0
  ·rintro σ H2 ⟨v3,rows,ad,rfl,s2,h2,T⟩;rw[List.drop_zero]at T;exact⟨_,rfl,k p H2 rows ad hp s2 h2 T⟩
noncomputable abbrev zL9:Stmt:=top 22
theorem sc_brought:Ë ["names","steps","rows","told","step"] ["names","steps"] (Ç zL9):=scF
theorem yK7 {ca:Ca}(D:DefAt K mg "brought" zL9)(T:Txt K mg ca)(G_unmoved:FnAt P w K mg base CX0 1 "unmoved" ["names"] (zL2 K))(G_passed:FnAt P w K mg base CX0 4 "passed" ["rows","step"] (zQ3)):FnAt P w K mg base CX0 5 "brought" ["names","steps"] (zV4 K):=by
 refine D.ok sc_brought (fun vs H Q E h=>?_) (fun _ _ _ _ _ _ us hl=>match us,hl with | [_,_],_=>rfl) (fun f cdv A outer s H vs Q E hr h=>?_)
 all_goals obtain⟨an,as,L,xs,ss,rfl,hS,hn,h8,hX,hP,hO,h64,k⟩:=h
 ·rfl
 ·have nd:=sc_brought.nd;refine⟨_,(Â (É (i:=2) nd rfl (Or.inl rfl) (pfn G_unmoved hr (À (pv 0) Ä)))
   (Â (É (i:=3) nd rfl (Or.inl rfl) (Γ Ä))
   (Â (Ú PassesOwn.never rfl (xD0 (K:=K) rfl (by rfl) T.z_reversed (À (pv 1) Ä)) (È (i:=4) nd rfl (Or.inl rfl)) (Å (Ű (Ô Ν (pixT (pv 4) Ã) í (Ý _)) (Å (ã (Ù hr) (pv 2) (pixT (pv 4) Ã) (pfn G_passed hr (À (pv 2) (À (pv 4) Ä))) rfl)) (Å (ð (θ PySem.F.plainAttrs_list PySem.F.slot_list_append PySem.F.type_list_append è (pv 3) (À (Ñ (À (pixT (pv 4) Ã) (À (pixT (pv 4) Ã) (À (ö zE1 (by rfl) T.z_dict zN9 (À (Õ (Ù hr) (pv 2) (pixT (pv 4) Ã) (fun _ _=>rfl)) Ä)) Ä)))) Ä)))))))
   (Â (ð (ź (K:=K) rfl PySem.F.plainAttrs_list PySem.F.slot_list_reverse PySem.F.type_list_reverse yK9 (pv 3)))
   (Å (Î (pv 3))))))),?_⟩
  have hlen:xs.length=ss.length:=hP.length;refine⟨_,rfl,an,L,rfl,hS,hn,h8,fun p H1 rows0 ad0 hp s1 h1 T1=>?_⟩;refine⟨sz (by simp),fun pt hpt=>?_⟩;have tt0:=Same.upd (o:=.lst []) hpt;have hpt0:H pt=none:=s1.free hpt;have s1t:=s1.trans tt0;refine⟨_,rfl,as,xs,rfl,s1t.seq hX,?_⟩;refine yU3 (xs:=xs) (fun j σ H2=>∃(v4:Option V) (rows:List (Key×V)) (ad:Str->Addr) (ys:List V) (tds:List (Br×Addr)),σ=[some (.ref an),some (.ref as),some (.ref p),some (.ref pt),v4] /\ Same H H2 /\ H2 p=some (.dK rows) /\ TabAt H H2 p rows L (back (ss.drop j)) ad /\ H2 pt=some (.lst ys) /\ Paired (BrV H2) ys tds /\ tds.map (·.1)=(brL (ss.drop j)).reverse /\ (tds.map (·.2)).Nodup /\ (∀d∈tds.map (·.2),H d=none /\ d≠p)) ⟨none,rows0,ad0,[],[],rfl,s1t,tt0 _ _ h1,by rw[hlen,List.drop_length];exact T1.same tt0,Á,.nil,by rw[hlen,List.drop_length];rfl,List.nodup_nil,(fun _ z=>nomatch z)⟩ ?_ ?_ ?_
  ·rintro j σ H2 hj ⟨v4,rows,ad,ys,tds,rfl,s2,h2,T,ht,hB,hm,hnd,hfr⟩;exact s2.seq hX
  ·rintro j x σ H2 hx ⟨v4,rows,ad,ys,tds,rfl,s2,h2,T,ht,hB,hm,hnd,hfr⟩;obtain⟨st,hst,sv⟩:=Ü hP hx;have hj:j<ss.length:=(Ą.mp hst).1;have ed:ss.drop j=st::ss.drop (j+1):=by
    rw[ľ hj,(Ą.mp hst).2]
   have hOd:∀s∈ss.drop j,OkS L s:=fun s hs=>hO s (Ť hs);have hOd1:∀s∈ss.drop (j+1),OkS L s:=fun s hs=>hO s (Ť hs);have hyl:ys.length<=64:=by
    have e1:=hB.length;have e2:=congrArg List.length hm;rw[ā,List.length_reverse]at e2;have e3:=zO0 (ss.drop (j+1));rw[Ĩ]at e3;lia
   cases st with
   | br z yr x0 q0 =>
    obtain⟨a,l,f,rfl,ha,hl,hf⟩:=sv;have hx0:x0∈L:=(hO _ (Ċ hst)).1;have ha2:=s2 _ _ ha;obtain⟨vx,fx0,kx,hax,rx⟩:=T.row x0 hx0;refine⟨_,rfl,a,_,_,_,rfl,rfl,SqT.of ha2,rfl,rfl,_,rfl,?_⟩;refine é (by decide +kernel) ?_;refine⟨_,rfl,.inl ⟨rfl,_,SqL.of ht⟩,_,rfl,a,_,_,_,rfl,rfl,SqT.of ha2,rfl,_,rfl,a,_,_,_,rfl,rfl,SqT.of ha2,rfl,_,rfl,_,rfl,a,_,_,_,rfl,rfl,SqT.of ha2,rfl,p,.ref (ad x0),rfl,?_,ad x0,kx,rfl,hax,fun d hd=>⟨sz (by simp),fun t ht'=>?_⟩⟩
    ·have g:=DGet.k (k:=.inr x0) h2;rw[vx]at g;exact g
    have u1:=Same.upd (o:=.dK kx) hd;have u2:=Same.upd (o:=.tup [.ref l,f,.ref d]) ht';have u12:=u1.trans u2;have ht3:=u12 _ _ ht;refine⟨pt,_,_,rfl,rfl,ht3,sz (by lia),?_⟩;have tu:=Ì (o:=.lst (ys++[.ref t])) ht3 (fun _ z=>nomatch z);have npt:p≠pt:=å h2 ht (by intro z;cases z);have dk:∀c kvs,H2 c=some (.dK kvs)->upd (upd (upd H2 d (.dK kx)) t (.tup [.ref l,f,.ref d])) pt (.lst (ys++[.ref t])) c=some (.dK kvs):=fun c kvs e=>by
     rw[upd_ne (å (u12 _ _ e) ht3 (by intro z;cases z))];exact u12 _ _ e
    have tk:∀c m,H2 c=some (.tup m)->upd (upd (upd H2 d (.dK kx)) t (.tup [.ref l,f,.ref d])) pt (.lst (ys++[.ref t])) c=some (.tup m):=fun c m e=>tu _ _ (u12 _ _ e);have ndp:d≠pt:=fun e=>by rw[e,ht]at hd;cases hd
    refine⟨_,rows,ad,ys++[.ref t],tds++[(⟨z,yr,q0,back (ss.drop (j+1)) x0⟩,d)],rfl,(s2.trans u12).updD hpt0,dk _ _ h2,?_,Á,?_,?_,?_,?_⟩
    ·rw[ed];refine⟨T.nodup,T.keys,fun n hn=>?_,T.inj,T.apart⟩;obtain⟨a1,a2,kv,a3,a4⟩:=T.row n hn;exact⟨a1,a2,kv,dk _ _ a3,a4.same fun v r g=>g.tup tk⟩
    ·refine Paired.snoc (Paired.mapP hB fun _ bd b=>b.keep tk (dk bd.2)) ?_;exact⟨t,l,f,kx,rfl,tu _ _ Á,tk _ _ (s2 _ _ hl),(hf.same s2).tup tk,by rw[upd_ne ndp];exact u2 _ _ Á,rx.same fun v r g=>g.tup tk⟩
    ·rw[Đ,hm,ed];show _=((⟨z,yr,q0,back (ss.drop (j+1)) x0⟩:Br)::brL (ss.drop (j+1))).reverse;rw[List.reverse_cons];rfl
    ·rw[Đ];refine œ.mpr ⟨hnd,by simp,fun d1 h1 d2 h2' e=>?_⟩;have h2':d2=d:=ė.mp h2';obtain⟨bd,hbd,e1⟩:=Ė.mp h1;obtain⟨x',_,a',l',f',kvs',_,_,_,_,e4,_⟩:=yB2 hB hbd;rw[e1,e,h2',hd]at e4;cases e4
    ·intro d1 h1;rw[Đ]at h1;rcases ĝ.mp h1 with e | e
     ·exact hfr d1 e
     ·have e:d1=d:=ė.mp e;rw[e];exact⟨s2.free hd,(Æ h2 hd).symm⟩
   | ps x0 y0 t =>
    obtain⟨a,f,rfl,ha,hf⟩:=sv;obtain⟨hx0,hy0,hxy,t0,t1,td⟩:=hO _ (Ċ hst);refine⟨_,rfl,a,_,_,_,rfl,rfl,SqT.of (s2 _ _ ha),rfl,rfl,_,rfl,?_⟩;refine ŵ rfl ?_;have G:=ø hn hOd1;have B:=zR1 hOd (by rw[Ĩ];lia) (k:=1) (by decide);rw[ed]at B;have B:1*(Ð (ss.drop (j+1))*t.den)<2^2600:=B;have B0:=zR1 hOd1 (by rw[Ĩ];lia) (k:=1) (by decide);have P0:=Ų (ss.drop (j+1));have Pd:0<Ð (ss.drop (j+1))*t.den:=Ņ P0 t.den_pos;obtain⟨vx,_,kx,hax,rx⟩:=T.row x0 hx0;obtain⟨vy,_,ky,hay,ry⟩:=T.row y0 hy0;have lx:=rx.len (G.sup x0 hx0);have ly:=ry.len (G.sup y0 hy0);have bs:=Bd.share t0 t1 td;let R:=back (ss.drop (j+1));have ea:addR (fun _=>none) (op (R x0)) (1 - t)=op fun z=>0+R x0 z*(1 - t):=by
     rw[<- yR0];exact zT8 (fun _=>ŋ) (fun z=>(G.part x0 hx0 z).1) (zB8 t1)
    have eb:addR (addR (fun _=>none) (op (R x0)) (1 - t)) (op (R y0)) t=op (bw x0 y0 t R x0):=by
     rw[ea,zT8 (fun z=>by rw[Ŋ];exact ġ (G.part x0 hx0 z).1 (zB8 t1)) (fun z=>(G.part y0 hy0 z).1) t0];unfold bw;rw[if_pos rfl]
     congr 1
     funext z
     rw[Ŋ]
    refine⟨_,rfl,_,rfl,p,a,ad x0,ad y0,x0,y0,f,t,rows,kx,ky,op (R x0),op (R y0),rfl,h2,s2 _ _ ha,hf.same s2,vx,hax,rx,vy,hay,ry,bs.1.mono (by decide),bs.2.mono (by decide),fun z=>⟨?_,?_,?_⟩,by lia,fun q H3 kv3 hq s3 h3 l3 r3=>?_⟩
    ·rw[ξ];exact((G.part x0 hx0 z).bd P0 (ą _) B0).mono (by decide)
    ·rw[ξ];exact((G.part y0 hy0 z).bd P0 (ą _) B0).mono (by decide)
    ·rw[ea,ξ,Ŋ];exact(((G.part x0 hx0 z).mulR t0 t1).bd Pd (ą _) B).mono (by decide)
    rw[eb]at r3;have len:=T.len hn;have npq:p≠q:=Æ h2 hq;refine⟨_,rfl,_,rfl,a,_,_,_,rfl,rfl,SqT.of (s3 _ _ (s2 _ _ ha)),rfl,p,upd H3 p (.dK (putK rows (.inr x0) (.ref q))),rfl,?_,?_⟩
    ·exact DPut.k (k:=.inr x0) (s3 _ _ h2) (sz (by lia))
    have tu:=Ì (o:=.dK (putK rows (.inr x0) (.ref q))) (s3 _ _ h2) (fun _ z=>nomatch z);have tt:∀v r,FrV H3 v r->FrV (upd H3 p (.dK (putK rows (.inr x0) (.ref q)))) v r:=fun v r g=>g.tup tu;refine⟨_,putK rows (.inr x0) (.ref q),fun z=>if z=x0 then q else ad z,ys,tds,rfl,(s2.trans s3).updD hp,Á,?_,?_,?_,?_,hnd,hfr⟩
    ·rw[ed];refine T.put (R':=bw x0 y0 t R) (s2.free hq) hq npq.symm (fun c o e n=>by rw[upd_ne n];exact s3 _ _ e) (fun v r g=>tt v r (g.same s3)) (by rw[upd_ne npq.symm];exact h3) (r3.same tt) (fun m _ e=>?_) (fun z=>⟨.inl,fun e=>?_⟩)
     ·unfold bw;rw[if_neg e]
     ·rcases e with e | e
      ·exact e
      ·rw[e];exact hx0
    ·rw[upd_ne (å ht h2 (by intro z;cases z))];exact s3 _ _ ht
    ·refine yK2 hB fun _ bd hbd b=>b.keep (fun c m e=>tu _ _ (s3 _ _ e)) fun kvs e=>?_;rw[upd_ne (hfr bd.2 (Ė.mpr ⟨bd,hbd,rfl⟩)).2];exact s3 _ _ e
    ·rw[ed];exact hm
  ·rintro σ H2 ⟨v4,rows,ad,ys,tds,rfl,s2,h2,T,ht,hB,hm,hnd,hfr⟩;rw[List.drop_zero]at hm;refine⟨_,rfl,.inl ⟨rfl,_,SqL.of ht⟩,pt,ys,rfl,rfl,ht,?_⟩;refine⟨_,rfl,k pt _ ys.reverse tds.reverse hpt0 (s2.updD hpt0) Á ?_ ?_ ?_ fun d hd=>?_⟩
   ·refine Paired.mapP (yK1 hB) fun _ _ b=>b.keep (Ì ht (fun _ z=>nomatch z)) fun kvs e=>?_;rw[upd_ne (å e ht (by intro z;cases z))];exact e
   ·rw[List.map_reverse,hm,List.reverse_reverse]
   ·rw[List.map_reverse];exact(List.reverse_perm _).nodup_iff.mpr hnd
   ·rw[List.map_reverse]at hd;exact(hfr d (List.mem_reverse.mp hd)).1
noncomputable abbrev zH6:Stmt:=top 24
theorem sc_names_of:Ë ["house"] ["house"] (Ç zH6):=scF
theorem yB8 {ca:Ca}(D:DefAt K mg "names_of" zH6)(T:Txt K mg ca):FnAt P w K mg base CX0 1 "names_of" ["house"] (zL3 K):=by
 refine D.ok sc_names_of (fun vs H Q E h=>?_) (fun _ _ _ _ _ _ us hl=>match us,hl with | [_],_=>rfl) (fun f cdv A outer s H vs Q E hr h=>?_)
 all_goals obtain⟨a,xs,ps,rfl,hS,hP,h8,k⟩:=h
 ·rfl
 ·have nd:=sc_names_of.nd;refine⟨_,(Å (Î (Λ ["place"] [] [] rfl (by rfl) (ï (K:=K) rfl (pv 0)) (fun _ _ _ _=>(È (i:=0) (show List.Nodup (["place"]:List Str) from by decide) rfl (Or.inl rfl))) (fun _ _ _ _=>Θ) (fun _ _ _ _=>(pixT (pv 0) Ã))))),?_⟩;have hlen:xs.length=ps.length:=hP.length;refine⟨_,rfl,a,rfl,⟨_,hS⟩,fun D hD=>?_⟩;refine zA9 (xs:=xs) (fun j σ' H'=>∃(v:Option V),σ'=[v] /\ Same H H' /\ H' D=some (.lst ((allN (ps.take j)).map V.str))) ⟨none,rfl,Same.upd hD,Á⟩ ?_ ?_ ?_
  ·rintro j σ' H' hj ⟨v,rfl,s2,hd⟩;exact s2.seq hS
  ·rintro j y σ' H' hy ⟨v,rfl,s2,hd⟩;obtain⟨p,hp,pv⟩:=Ü hP hy;obtain⟨b,ys,rfl,hb,_,e1⟩:=pv.at;refine⟨_,rfl,b,_,_,_,rfl,rfl,SqT.of (s2 _ _ hb),e1,_,hd,?_,_,rfl,s2.updD hD,?_⟩
   ·have:=hlen;rw[ā];unfold allN;rw[ā,ċ];exact sz (by lia)
   ·unfold allN;rw[Á,Ø hp,Đ,Đ];rfl
  ·rintro σ' H2 ⟨v,rfl,s2,hd⟩;rw[hlen,đ]at hd;exact k D H2 hD s2 hd
noncomputable abbrev zH8:Stmt:=top 25
theorem sc_casks_of:Ë ["house"] ["house"] (Ç zH8):=scF
theorem yC0 {ca:Ca}(D:DefAt K mg "casks_of" zH8)(T:Txt K mg ca):FnAt P w K mg base CX0 1 "casks_of" ["house"] (zL4 K):=by
 refine D.ok sc_casks_of (fun vs H Q E h=>?_) (fun _ _ _ _ _ _ us hl=>match us,hl with | [_],_=>rfl) (fun f cdv A outer s H vs Q E hr h=>?_)
 all_goals obtain⟨a,xs,ps,rfl,hS,hP,h8,k⟩:=h
 ·rfl
 ·have nd:=sc_casks_of.nd;refine⟨_,(Å (Î (Λ ["place"] [] [] rfl (by rfl) (ï (K:=K) rfl (pv 0)) (fun _ _ _ _=>(È (i:=0) (show List.Nodup (["place"]:List Str) from by decide) rfl (Or.inl rfl))) (fun _ _ _ _=>(zR2 (Ô Ν (pixT (pv 0) Ã) í (Ý _)))) (fun _ _ _ _=>(pixT (pv 0) Ã))))),?_⟩;have hlen:xs.length=ps.length:=hP.length;refine⟨_,rfl,a,rfl,⟨_,hS⟩,fun D hD=>?_⟩;refine zA9 (xs:=xs) (fun j σ' H'=>∃(v:Option V),σ'=[v] /\ Same H H' /\ H' D=some (.lst ((ckN (ps.take j)).map V.str))) ⟨none,rfl,Same.upd hD,Á⟩ ?_ ?_ ?_
  ·rintro j σ' H' hj ⟨v,rfl,s2,hd⟩;exact s2.seq hS
  ·rintro j y σ' H' hy ⟨v,rfl,s2,hd⟩;obtain⟨p,hp,pv⟩:=Ü hP hy;obtain⟨b,ys,rfl,hb,e0,e1⟩:=pv.at;refine⟨_,rfl,b,_,_,_,rfl,rfl,SqT.of (s2 _ _ hb),e0,rfl,_,rfl,?_⟩;cases hc:isC p with
   | true =>
    refine ŵ rfl ?_;refine⟨_,rfl,b,_,_,_,rfl,rfl,SqT.of (s2 _ _ hb),e1,_,hd,?_,_,rfl,s2.updD hD,?_⟩
    ·have h1:=yI4 (ps:=ps.take j);rw[ċ]at h1;rw[ā];exact sz (by lia)
    ·unfold ckN;rw[Á,Ø hp,Ķ,Đ,Đ];simp[hc]
   | false =>
    refine é (by decide +kernel) ?_;refine⟨_,rfl,s2,?_⟩;rw[hd];unfold ckN;rw[Ø hp,Ķ];simp[hc]
  ·rintro σ' H2 ⟨v,rfl,s2,hd⟩;rw[hlen,đ]at hd;exact k D H2 hD s2 hd
noncomputable abbrev yO4:Stmt:=top 26
theorem sc_only:Ë ["shares","casks","kept_shares","name"] ["shares","casks"] (Ç yO4):=scF
theorem xH7 {ca:Ca}(D:DefAt K mg "only" yO4)(T:Txt K mg ca):FnAt P w K mg base CX0 1 "only" ["shares","casks"] (yN2 K):=by
 refine D.ok sc_only (fun vs H Q E h=>?_) (fun _ _ _ _ _ _ us hl=>match us,hl with | [_,_],_=>rfl) (fun f cdv A outer s H vs Q E hr h=>?_)
 all_goals obtain⟨a,b,kv,C,f,rfl,ha,ra,hS,h8,k⟩:=h
 ·rfl
 ·have nd:=sc_only.nd;refine⟨_,(Â (É (i:=2) nd rfl (Or.inl rfl) ó)
   (Â (Ú PassesOwn.never rfl (ï (K:=K) rfl (pv 1)) (È (i:=3) nd rfl (Or.inl rfl)) (Å (Ű (yP6 (yQ7 (Ù hr) (pv 3) (pv 0))) (Å (ã (Ù hr) (pv 2) (pv 3) (Õ (Ù hr) (pv 0) (pv 3) (fun _ _=>rfl)) rfl)) á)))
   (Å (Î (pv 2))))),?_⟩
  intro p hp;have tp:=Same.upd (o:=.dK []) hp;refine⟨_,rfl,b,rfl,⟨_,tp.seq hS⟩,?_⟩;have e0:(op fun z=>if z∈C.take 0 then f z else 0)=fun _=>none:=by funext z;simp[op]
  refine Ÿ (xs:=C.map V.str) (fun i σ H1=>∃(v3:Option V) (kv':List (Key×V)),σ=[some (.ref a),some (.ref b),some (.ref p),v3] /\ Same H H1 /\ H1 p=some (.dK kv') /\ kv'.length<=i /\ RowAt H1 kv' (op fun z=>if z∈C.take i then f z else 0)) ⟨none,[],rfl,tp,Á,ą _,by rw[e0];exact RowAt.nil _⟩ ?_ ?_ ?_
  ·rintro i σ H1 hi ⟨v3,kv',rfl,s1,h1,hl,row⟩;exact s1.seq hS
  ·rintro i x σ H1 hx ⟨v3,kv',rfl,s1,h1,hl,row⟩;obtain⟨n,rfl,hi⟩:=zH0 hx;have hil:i<C.length:=(Ą.mp hi).1;have ha1:=s1 _ _ ha;refine⟨_,rfl,_,rfl,a,_,rfl,DGet.k (k:=.inr n) ha1,_,rfl,?_⟩
   by_cases hf:f n=0
   ·have e:valV kv (.inr n)=none:=ra.not n (by unfold op;rw[if_pos hf]);rw[e];refine iteF ?_;refine⟨_,kv',rfl,s1,h1,by lia,?_⟩;rw[Ø hi,<- xH2 hf];exact row
   ·obtain⟨w,e,fr⟩:=ra.has n (f n) (by unfold op;rw[if_neg hf]);rw[e];refine iteT ?_;refine⟨_,rfl,_,rfl,a,w,rfl,?_,_,rfl,_,rfl,p,upd H1 p (.dK (putK kv' (.inr n) w)),rfl,DPut.k (k:=.inr n) h1 (sz (by lia)),?_⟩
    ·have g:=DGet.k (k:=.inr n) ha1;rw[e]at g;exact g
    have tu:=Ì (o:=.dK (putK kv' (.inr n) w)) h1 (fun _ z=>nomatch z);refine⟨_,putK kv' (.inr n) w,rfl,s1.updD hp,Á,?_,?_⟩
    ·have:=zA1 kv' (.inr n) w;lia
    ·rw[Ø hi,<- xN0 hf];exact(row.put (z:=n) (fr.same s1)).same fun v r g=>g.tup tu
  ·rintro σ H1 ⟨v3,kv',rfl,s1,h1,hl,row⟩;rw[ā,đ]at row;exact⟨_,rfl,k p H1 kv' hp s1 h1 row⟩
noncomputable abbrev zC2:Stmt:=top 27
theorem sc_casks_table:Ë ["house","steps","casks","whole","rows","name"] ["house","steps"] (Ç zC2):=scF
theorem zO3 {ca:Ca}(D:DefAt K mg "casks_table" zC2)(T:Txt K mg ca)(G_casks_of:FnAt P w K mg base CX0 1 "casks_of" ["house"] (zL4 K))(G_table:FnAt P w K mg base CX0 5 "table" ["names","steps"] (xL0 K))(G_names_of:FnAt P w K mg base CX0 1 "names_of" ["house"] (zL3 K))(G_only:FnAt P w K mg base CX0 1 "only" ["shares","casks"] (yN2 K)):FnAt P w K mg base CX0 6 "casks_table" ["house","steps"] (zB9 K):=by
 refine D.ok sc_casks_table (fun vs H Q E h=>?_) (fun _ _ _ _ _ _ us hl=>match us,hl with | [_,_],_=>rfl) (fun f cdv A outer s H vs Q E hr h=>?_)
 all_goals obtain⟨ah,as,xs,ps,ys,ss,rfl,hS,hP,ok,hX,hT,hO,h40,k⟩:=h
 ·rfl
 ·have nd:=sc_casks_table.nd;refine⟨_,(Â (É (i:=2) nd rfl (Or.inl rfl) (pfn G_casks_of hr (À (pv 0) Ä)))
   (Â (É (i:=3) nd rfl (Or.inl rfl) (pfn G_table hr (À (pfn G_names_of hr (À (pv 0) Ä)) (À (pv 1) Ä))))
   (Â (É (i:=4) nd rfl (Or.inl rfl) ó)
   (Â (Ú PassesOwn.never rfl (ï (K:=K) rfl (pv 2)) (È (i:=5) nd rfl (Or.inl rfl)) (Å (ã (Ù hr) (pv 4) (pv 5) (pfn G_only hr (À (Õ (Ù hr) (pv 3) (pv 5) (fun _ _=>rfl)) (À (pv 2) Ä))) rfl)))
   (Å (Î (pv 4))))))),?_⟩
  refine⟨_,rfl,ah,xs,ps,rfl,hS,hP,ok.len,fun pc H1 hpc s1 h1=>?_⟩;refine⟨_,rfl,ah,xs,ps,rfl,s1.seq hS,à hP s1,ok.len,fun pn H2 hpn s2 h2=>?_⟩;have s02:=s1.trans s2;have l8:(allN ps).length<=8:=by unfold allN;rw[ā];exact ok.len
  refine⟨_,rfl,pn,as,allN ps,ys,ss,rfl,SqL.of h2,ok.nd,l8,s02.seq hX,õ hT s02,hO,(by lia),fun pw H3 rowsW adW hpw s3 h3 TW=>?_⟩;have s03:=s02.trans s3;have hc3:=s3 _ _ (s2 _ _ h1);intro p hp;have tp:=Same.upd (o:=.dK []) hp;have hp0:H p=none:=s03.free hp;have c8:(ckN ps).length<=8:=Č yI4 ok.len;refine⟨_,rfl,pc,rfl,⟨_,SqL.of (tp _ _ hc3)⟩,?_⟩;refine Ÿ (xs:=(ckN ps).map V.str) (fun i σ H4=>∃(v5:Option V) (rows:List (Key×V)) (ad:Str->Addr),σ=[some (.ref ah),some (.ref as),some (.ref pc),some (.ref pw),some (.ref p),v5] /\ Same H3 H4 /\ H4 p=some (.dK rows) /\ TabAt H H4 p rows ((ckN ps).take i) (resC (ckN ps) (back ss)) ad) ⟨none,[],fun _=>0,rfl,tp,Á,TabAt.nil _ _ _ _ _⟩ ?_ ?_ ?_
  ·rintro i σ H4 hi ⟨v5,rows,ad,rfl,s4,h4,T⟩;exact SqL.of (s4 _ _ hc3)
  ·rintro i x σ H4 hx ⟨v5,rows,ad,rfl,s4,h4,T⟩;obtain⟨n,rfl,hi⟩:=zH0 hx;have hnC:n∈ckN ps:=Ċ hi;obtain⟨vn,_,kn,han,rn⟩:=(TW.same s4).row n (Ó hnC);refine⟨_,rfl,_,rfl,pw,.ref (adW n),rfl,?_,_,rfl,adW n,pc,kn,ckN ps,back ss n,rfl,han,rn,SqL.of (s4 _ _ hc3),c8,fun q H5 kv5 hq s5 h5 r5=>?_⟩
   ·have g:=DGet.k (k:=.inr n) (s4 _ _ h3);rw[vn]at g;exact g
   have npq:p≠q:=Æ h4 hq;have len:rows.length<=8:=by
    rw[T.len (ok.ck.sublist (List.take_sublist _ _)),ċ];lia
   refine⟨_,rfl,_,rfl,p,upd H5 p (.dK (putK rows (.inr n) (.ref q))),rfl,DPut.k (k:=.inr n) (s5 _ _ h4) (sz (by lia)),?_⟩;have tt:∀v r,FrV H5 v r->FrV (upd H5 p (.dK (putK rows (.inr n) (.ref q)))) v r:=fun v r g=>g.tup (Ì (s5 _ _ h4) (fun _ z=>nomatch z));refine⟨_,putK rows (.inr n) (.ref q),fun z=>if z=n then q else ad z,rfl,(s4.trans s5).updD hp,Á,?_⟩;exact T.put (s03.free (s4.free hq)) hq npq.symm (fun c o e n=>by rw[upd_ne n];exact s5 _ _ e) (fun v r g=>tt v r (g.same s5)) (by rw[upd_ne npq.symm];exact h5) (r5.same tt) (fun _ _ _=>rfl) (zG1 hi)
  ·rintro σ H4 ⟨v5,rows,ad,rfl,s4,h4,T⟩;rw[ā,đ]at T;exact⟨_,rfl,k p H4 rows ad hp0 (s03.trans s4) h4 T⟩
noncomputable abbrev zA7:Stmt:=top 28
theorem sc_brought_totals:Ë ["house","steps","totals","name","lot","amount","ends","share"] ["house","steps"] (Ç zA7):=scF
theorem zI5 {ca:Ca}(D:DefAt K mg "brought_totals" zA7)(T:Txt K mg ca)(G_casks_of:FnAt P w K mg base CX0 1 "casks_of" ["house"] (zL4 K))(G_brought:FnAt P w K mg base CX0 5 "brought" ["names","steps"] (zV4 K))(G_names_of:FnAt P w K mg base CX0 1 "names_of" ["house"] (zL3 K))(G_only:FnAt P w K mg base CX0 1 "only" ["shares","casks"] (yN2 K))(G_plus:FnAt P w K mg base CX0 2 "plus" ["one","other"] (π))(G_times:FnAt P w K mg base CX0 2 "times" ["one","other"] (spTimes)):FnAt P w K mg base CX0 6 "brought_totals" ["house","steps"] (yF4 K):=by
 refine D.ok sc_brought_totals (fun vs H Q E h=>?_) (fun _ _ _ _ _ _ us hl=>match us,hl with | [_,_],_=>rfl) (fun f cdv A outer s H vs Q E hr h=>?_)
 all_goals obtain⟨ah,as,xs,ps,ys,ss,rfl,hS,hP,ok,hX,hT,hO,h15,k⟩:=h
 ·rfl
 ·have nd:=sc_brought_totals.nd;refine⟨_,(Â (É (i:=2) nd rfl (Or.inl rfl) ó)
   (Â (Ú PassesOwn.never rfl (ï (K:=K) rfl (pfn G_casks_of hr (À (pv 0) Ä))) (È (i:=3) nd rfl (Or.inl rfl)) (Å (ã (Ù hr) (pv 2) (pv 3) (Ñ (À Ã (À Ã Ä))) rfl)))
   (Â (Ú PassesOwn.never rfl (ï (K:=K) rfl (pfn G_brought hr (À (pfn G_names_of hr (À (pv 0) Ä)) (À (pv 1) Ä)))) (Η rfl (Ï (È (i:=4) nd rfl (Or.inl rfl)) (Ï (È (i:=5) nd rfl (Or.inl rfl)) (Ï (È (i:=6) nd rfl (Or.inl rfl)) ŭ)))) (Å (Ú PassesOwn.never rfl (ż (ź (K:=K) rfl PySem.F.plainAttrs_dict PySem.F.slot_dict_items PySem.F.type_dict_items Ž (pfn G_only hr (À (pv 6) (À (pfn G_casks_of hr (À (pv 0) Ä)) Ä))))) (Η rfl (Ï (È (i:=3) nd rfl (Or.inl rfl)) (Ï (È (i:=7) nd rfl (Or.inl rfl)) ŭ))) (Å (ã (Ù hr) (pv 2) (pv 3) (pfn G_plus hr (À (Õ (Ù hr) (pv 2) (pv 3) (fun _ _=>rfl)) (À (pfn G_times hr (À (pv 5) (À (pv 7) Ä))) Ä))) rfl)))))
   (Å (Î (pv 2)))))),?_⟩
  have c8:(ckN ps).length<=8:=Č yI4 ok.len;have l8:(allN ps).length<=8:=by unfold allN;rw[ā];exact ok.len
  have hOs:∀s∈ss,OkS (allN ps) s:=fun s hs=>(hO s hs).1;intro p hp;have tp:=Same.upd (o:=.dK []) hp;refine⟨_,rfl,ah,xs,ps,rfl,tp.seq hS,à hP tp,ok.len,fun pc H1 hpc s1 h1=>⟨pc,rfl,⟨_,SqL.of h1⟩,?_⟩⟩;have s01:=tp.trans s1;have hp1:=s1 _ _ (Á (H:=H) (a:=p) (o:=.dK []));have hpc0:=tp.free hpc;have npc:pc≠p:=fun e=>by rw[e,Á]at hpc;cases hpc
  refine Ÿ (xs:=(ckN ps).map V.str) (fun i σ H2=>∃(v3:Option V) (kv:List (Key×V)),σ=[some (.ref ah),some (.ref as),some (.ref p),v3,none,none,none,none] /\ Same H H2 /\ H2 pc=some (.lst ((ckN ps).map V.str)) /\ H2 p=some (.dK kv) /\ RowAt H2 kv (all ((ckN ps).take i) fun _=>0) /\ nms kv=(ckN ps).take i) ⟨none,[],rfl,s01,h1,hp1,by rw[Ň,Τ];exact RowAt.nil _,rfl⟩ ?_ ?_ ?_
  ·rintro i σ H2 hi ⟨v3,kv,rfl,s2,hc2,h2,row,hn⟩;exact SqL.of hc2
  ·rintro i x σ H2 hx ⟨v3,kv,rfl,s2,hc2,h2,row,hn⟩;obtain⟨n,rfl,hi⟩:=zH0 hx;have hil:i<(ckN ps).length:=(Ą.mp hi).1;have lk:kv.length<=8:=by rw[<- Ò,hn,ċ];lia
   refine⟨sz (by simp),fun p1 hp1=>?_⟩;have t3:=Same.upd (o:=.tup [.int 0,.int 1]) hp1;have f0:=FrV.newOf (H:=H2) (p:=p1) (t:=0) (b:=1) (r:=0) rfl rfl;have row3:=row.same fun v r f=>f.same t3;have s3:=s2.trans t3;have h3:=t3 _ _ h2;have hc3:=t3 _ _ hc2;generalize upd H2 p1 (.tup [.int 0,.int 1])=H3 at *;refine⟨_,rfl,_,rfl,p,_,rfl,DPut.k (k:=.inr n) h3 (sz (by lia)),?_⟩;have tu:=Ì (o:=.dK (putK kv (.inr n) (.ref p1))) h3 (fun _ z=>nomatch z);have et:=Ø hi;refine⟨_,putK kv (.inr n) (.ref p1),rfl,s3.updD hp,by rw[upd_ne npc];exact hc3,Á,?_,?_⟩
   ·rw[et,Α];exact(row3.put (z:=n) f0).same fun v r g=>g.tup tu
   ·rw[zM9 n _ row.keys,hn,et,zK3 (zN0 ok.ck hi)]
  rintro σ H2 ⟨v3,kv,rfl,s2,hc2,h2,row,hn⟩;rw[ā,đ]at row hn;refine⟨_,rfl,ah,xs,ps,rfl,s2.seq hS,à hP s2,ok.len,fun pn H3 hpn s3 h3=>?_⟩;have s23:=s2.trans s3;refine⟨_,rfl,pn,as,allN ps,ys,ss,rfl,SqL.of h3,ok.nd,l8,s23.seq hX,õ hT s23,hOs,by lia,fun pb H4 zs tds hpb s4 h4 hB hm hnd hfr=>⟨pb,rfl,⟨_,SqL.of h4⟩,?_⟩⟩;have s24:=s3.trans s4;have hp4:=s24 _ _ h2;have P0:=Ų ss;have P100:=zB2 hO h15;let C:=ckN ps;let Sm:Nat->Str->Rat:=fun i z=>sumQ (((brL ss).take i).map fun b=>b.q*b.g z);have bl:=zO0 ss;have zl:zs.length=(brL ss).length:=by rw[hB.length,<- hm,ā]
  have bdC:∀{x:Rat},Cd (120*Ð ss) (1200*(120*Ð ss)) x->Bd 8000 x:=fun h=>(h.bd (by lia) (ş _ (by decide)) (twelve P100 (ą _))).mono (by decide);have cdS:∀i,i<=(brL ss).length->∀z,Cd (120*Ð ss) (120*i*(120*Ð ss)) (Sm i z):=fun i hi z=>Cd.of (yE0 ok.nd hO z i hi);refine Ÿ (xs:=zs) (fun i σ H5=>∃(v3 v4 v5 v6 v7:Option V) (kv:List (Key×V)),σ=[some (.ref ah),some (.ref as),some (.ref p),v3,v4,v5,v6,v7] /\ Same H H5 /\ (∀c ob,H4 c=some ob->c≠p->H5 c=some ob) /\ H5 p=some (.dK kv) /\ RowAt H5 kv (all C (Sm i)) /\ nms kv=C) ⟨_,_,_,_,_,kv,rfl,s2.trans s24,(fun c ob e _=>e),hp4,row.same fun v r f=>f.same s24,hn⟩ ?_ ?_ ?_
  ·rintro i σ H5 hi ⟨v3,v4,v5,v6,v7,kv,rfl,s5,kp,h5,row,hn⟩;exact SqL.of (kp _ _ h4 fun e=>by rw[e]at hpb;have:=s3 _ _ h2;rw[hpb]at this;cases this)
  ·rintro i x σ H5 hx ⟨v3,v4,v5,v6,v7,kv,rfl,s5,kp,h5,row,hn⟩;obtain⟨bd,hbd,a,l,f,kvs,rfl,q1,q2,q3,q4,q5⟩:=Ü hB hx;have hb:(brL ss)[i]?=some bd.1:=by rw[<- hm,Ĉ,hbd];rfl
   have hib:i<(brL ss).length:=(Ą.mp hb).1;have hbm:bd.1∈brL ss:=Ċ hb;have kT:∀c m,H4 c=some (.tup m)->H5 c=some (.tup m):=fun c m e=>kp _ _ e (å e hp4 (by intro z;cases z));have hdp:bd.2≠p:=fun e=>by
    have h0:=hfr bd.2 (Ė.mpr ⟨bd,Ċ hbd,rfl⟩);rw[e]at h0;have:=s3 _ _ h2;rw[h0]at this;cases this
   have q45:=kp _ _ q4 hdp;have q55:=q5.same fun v r g=>g.tup kT;have q35:=q3.tup kT;refine⟨a,_,rfl,SqT.of (kT _ _ q1),rfl,_,_,rfl,_,_,rfl,_,_,rfl,rfl,?_⟩;refine⟨_,rfl,_,rfl,ah,xs,ps,rfl,s5.seq hS,à hP s5,ok.len,fun pc2 H6 hpc2 s6 h6=>?_⟩;refine⟨bd.2,pc2,kvs,C,bd.1.g,rfl,s6 _ _ q45,q55.same (fun v r g=>g.same s6),SqL.of h6,c8,fun pq H7 kq hpq s7 h7 rq=>?_⟩;have s67:=s6.trans s7;refine⟨.inr (.inr (.inl ⟨rfl,.inl ⟨_,h7⟩⟩)),pq,_,rfl,rfl,h7,rfl,fun pv hpv=>?_⟩;have tv:=Same.upd (o:=Μ pv pq) hpv;refine⟨pv,pq,_,rfl,Á,tv _ _ h7,rfl,fun o qs hqs=>?_⟩;have hqs:qs=kq.map fun kv=>(kV kv.1,kv.2):=hqs;subst hqs;have npq:p≠pq:=Æ (s6 _ _ h5) hpq;have hpq0:H pq=none:=s5.free (s6.free hpq);have s07:=s5.trans s67;have h57:=s67 _ _ h5;have row7:=row.same fun v r g=>g.same s67;have f7:=q35.same s67;have lq:kq.length<=8:=by
    rw[<- Ò];refine Č (Ö (L:=C) (â rq.nodup rq.keys) fun z hz=>?_) c8;have:=(rq.iff z).mp hz;have:=op_some.mp this
    by_cases e:z∈C
    ·exact e
    ·rw[if_neg e]at this;exact absurd rfl this
   let Pt:Nat->Str->Rat:=fun j z=>Sm i z+if z∈nms (kq.take j) then bd.1.q*bd.1.g z else 0;have qg:=xE4 ok.nd hO;refine Ź (fun j σ H8=>∃(v3 v7:Option V) (kv':List (Key×V)),σ=[some (.ref ah),some (.ref as),some (.ref p),v3,some (.ref l),some f,some (.ref bd.2),v7] /\ H8 pq=some (.frz o (.dK kq)) /\ Same H H8 /\ (∀c ob,H7 c=some ob->c≠p->c≠pq->H8 c=some ob) /\ H8 p=some (.dK kv') /\ RowAt H8 kv' (all C (Pt j)) /\ nms kv'=C) ?_ ?_ ?_ ?_
   ·have h8:∀c ob,H7 c=some ob->c≠p->c≠pq->upd (upd H7 pv (Μ pv pq)) pq (.frz o (.dK kq)) c=some ob:=fun c ob e _ n=>by rw[upd_ne n];exact tv _ _ e
    refine⟨_,_,kv,rfl,Á,(s07.trans tv).updD hpq0,h8,by rw[upd_ne npq];exact tv _ _ h57,?_,hn⟩;have e:all C (Pt 0)=all C (Sm i):=ë fun z _=>by
     show Sm i z+_=_;rw[if_neg (by simp[nms])];grind
    rw[e];have tu:∀c m,H7 c=some (.tup m)->upd (upd H7 pv (Μ pv pq)) pq (.frz o (.dK kq)) c=some (.tup m):=fun c m e=>h8 c _ e (å e h57 (by intro z;cases z)) (å e h7 (by intro z;cases z));exact row7.same fun v r g=>g.tup tu
   ·rintro j σ H8 ⟨_,_,_,_,h,_⟩;exact h
   ·rintro j k' v T' σ H8 hk ⟨v3,v7,kv',rfl,hfz,s8,kp8,h8,row8,hn8⟩ hT;obtain⟨kvi,hki,ek⟩:=Κ hk;obtain⟨rfl,rfl⟩:=Prod.mk.inj ek;obtain⟨z,r,hz,hg,fr,hnot,hnms⟩:=rq.at hki;obtain⟨e1,e2⟩:=yB3 hg;have hzC:z∈C:=by
     by_cases e:z∈C
     ·exact e
     ·rw[if_neg e]at e1;exact absurd e1.symm e2
    rw[if_pos hzC]at e1;have ekv:kV kvi.1 = .str z:=by rw[hz];rfl
    have kT8:∀c m,H7 c=some (.tup m)->H8 c=some (.tup m):=fun c m e=>kp8 c _ e (å e h57 (by intro z;cases z)) (å e h7 (by intro z;cases z));have tT:=Same.upd (o:=.tup [kV kvi.1,kvi.2]) hT;refine⟨T',_,rfl,SqT.of Á,rfl,_,_,rfl,_,_,rfl,rfl,?_⟩;rw[ekv]at tT ⊢;have h9:=tT _ _ h8;have fq9:=(f7.tup kT8).same tT;have fr9:=(fr.tup kT8).same tT;have row9:=row8.same fun v r g=>g.same tT;have kp9:∀c ob,H7 c=some ob->c≠p->c≠pq->upd H8 T' (.tup [.str z,kvi.2]) c=some ob:=fun c ob e n1 n2=>tT _ _ (kp8 c ob e n1 n2);have hfz9:=tT _ _ hfz;have s9:=s8.trans tT;generalize upd H8 T' (.tup [.str z,kvi.2])=H9 at *;obtain⟨w9,ew9,fw9⟩:=row9.has z (Pt j z) (by unfold all;rw[if_pos hzC]);have ePt:Pt j z=Sm i z:=by show Sm i z+_=_;rw[if_neg hnot];grind
    have cS:=cdS i (by lia) z;have cq:=Cd.of (qg z bd.1 hbm);have bS:Bd 8000 (Pt j z):=by rw[ePt];exact bdC (cS.mono (Ĕ _ (by lia)))
    have bq:Bd 8000 (bd.1.q*r):=by rw[<- e1];exact bdC (cq.mono (Ĕ _ (by lia)))
    have b1:Bd 8000 bd.1.q:=((Cd.of (xB4 hO bd.1 hbm)).bd (s:=20) (by decide) (by decide) (by decide)).mono (by decide);have b2:Bd 8000 r:=by
     rw[<- e1];exact((xR3 ok.nd hO z bd.1 hbm).bd (n:=101) P0 (ą _) (by rw[Ŕ];exact ď P100 (ń (by decide) (by decide)))).mono (by decide)
    refine⟨_,rfl,_,rfl,p,w9,rfl,?_,_,rfl,_,rfl,spTimes.of (E:=E0) rfl fq9 fr9 b1 b2 fun u1 H10 s10 f10=>?_⟩
    ·have g:=DGet.k (k:=.inr z) h9;rw[ew9]at g;exact g
    refine⟨_,_,Pt j z,bd.1.q*r,rfl,fw9.same s10,f10,bS,bq,fun u2 H11 s11 f11=>?_⟩;have s911:=s10.trans s11;have h11:=s911 _ _ h9;have lk:kv'.length<=8:=by rw[<- Ò,hn8];exact c8
    refine⟨_,rfl,_,rfl,p,_,rfl,DPut.k (k:=.inr z) h11 (sz (by lia)),?_⟩;have tu:=Ì (o:=.dK (putK kv' (.inr z) u2)) h11 (fun _ z=>nomatch z);refine⟨_,_,putK kv' (.inr z) u2,rfl,by rw[upd_ne npq.symm];exact s911 _ _ hfz9,(s9.trans s911).updD hp,fun c ob e n1 n2=>by rw[upd_ne n1];exact s911 _ _ (kp9 c ob e n1 n2),Á,?_,by rw[zM9 z _ row8.keys,hn8,yY0 hzC]⟩;have hrow:=((row9.same fun v r g=>g.same s911).put (z:=z) f11).same fun v r g=>g.tup tu;rw[zF2 hzC]at hrow;have e:all C (Pt (j+1))=all C (fun y=>if y=z then Pt j z+bd.1.q*r else Pt j y):=ë fun y _=>by
     show Sm i y+_=_;rw[hnms]
     by_cases e:y=z
     ·subst e;rw[if_pos rfl,if_pos (by simp),ePt,e1]
     ·rw[if_neg e];show _=Sm i y+_;have:(y∈nms (kq.take j)++[z])↔y∈nms (kq.take j):=by simp[e]
      by_cases q:y∈nms (kq.take j)
      ·rw[if_pos q,if_pos (this.mpr q)]
      ·rw[if_neg q,if_neg fun u=>q (this.mp u)]
    rw[e];exact hrow
   ·rintro σ H8 ⟨v3,v7,kv',rfl,hfz,s8,kp8,h8,row8,hn8⟩;rw[ā]at row8;have hH:∀c ob,H4 c=some ob->c≠p->H8 c=some ob:=fun c ob e n1=>by
     have e5:=kp c ob e n1;have e6:=s6 _ _ e5;exact kp8 c ob (s7 _ _ e6) n1 (Æ e6 hpq)
    refine⟨_,_,_,_,_,kv',rfl,s8,hH,h8,?_,hn8⟩;have e:all C (Sm (i+1))=all C (Pt kq.length):=ë fun z hz=>by
     have et:(brL ss).take (i+1)=(brL ss).take i++[bd.1]:=by rw[Ŀ,hb];rfl
     have e1:Sm (i+1) z=Sm i z+bd.1.q*bd.1.g z:=by
      show sumQ (((brL ss).take (i+1)).map fun b=>b.q*b.g z)=_;rw[et,Đ];show List.foldl _ _ (_++_)=_;rw[Ţ];rfl
     rw[e1];show _=Sm i z+_;rw[đ]
     by_cases q:z∈nms kq
     ·rw[if_pos q]
     ·rw[if_neg q];have:bd.1.g z=0:=by
       by_cases u:bd.1.g z=0
       ·exact u
       ·exact absurd ((rq.iff z).mpr (op_some.mpr (by rw[if_pos hz];exact u))) q
      rw[this,ś]
    rw[e];exact row8
  ·rintro σ H5 ⟨v3,v4,v5,v6,v7,kv,rfl,s5,kp,h5,row,hn⟩;rw[zl]at row;refine⟨_,rfl,k p H5 kv hp s5 h5 ?_ hn⟩;have e:Sm (brL ss).length=bT ss:=by funext z;show sumQ (((brL ss).take (brL ss).length).map fun b=>b.q*b.g z)=_;rw[đ];rfl
   rw[e]at row;exact row
noncomputable abbrev xF7:Stmt:=top 29
theorem sc_led:Ë ["rows","totals","after","name","shares","end","share"] ["rows","totals"] (Ç xF7):=scF
theorem xN6 {ca:Ca}(D:DefAt K mg "led" xF7)(T:Txt K mg ca)(G_plus:FnAt P w K mg base CX0 2 "plus" ["one","other"] (π))(G_times:FnAt P w K mg base CX0 2 "times" ["one","other"] (spTimes)):FnAt P w K mg base CX0 3 "led" ["rows","totals"] (yN5):=by
 refine D.ok sc_led (fun vs H Q E h=>?_) (fun _ _ _ _ _ _ us hl=>match us,hl with | [_,_],_=>rfl) (fun f cdv A outer s H vs Q E hr h=>?_)
 all_goals obtain⟨pr,pt,H0,rows,kt,ad,C,L,R,f,Dn,E1,W1,rfl,hrw,TB,hC,nC,c5,hCL,G,D0,Dd,ht,rt,ntr,nad,E0',EW,We,hcd,k⟩:=h
 ·rfl
 ·have nd:=sc_led.nd;refine⟨_,(Â (É (i:=2) nd rfl (Or.inl rfl) ó)
   (Â (ú (Ú PassesOwn.never rfl (Ι (pv 1)) (È (i:=3) nd rfl (Or.inl rfl)) (Å (ã (Ù hr) (pv 2) (pv 3) (Ñ (À Ã (À Ã Ä))) rfl))))
   (Â (ú (Ú PassesOwn.never rfl (ż (ź (K:=K) rfl PySem.F.plainAttrs_dict PySem.F.slot_dict_items PySem.F.type_dict_items Ž (pv 0))) (Η rfl (Ï (È (i:=3) nd rfl (Or.inl rfl)) (Ï (È (i:=4) nd rfl (Or.inl rfl)) ŭ))) (Å (ú (Ú PassesOwn.never rfl (ż (ź (K:=K) rfl PySem.F.plainAttrs_dict PySem.F.slot_dict_items PySem.F.type_dict_items Ž (pv 4))) (Η rfl (Ï (È (i:=5) nd rfl (Or.inl rfl)) (Ï (È (i:=6) nd rfl (Or.inl rfl)) ŭ))) (Å (ã (Ù hr) (pv 2) (pv 5) (pfn G_plus hr (À (Õ (Ù hr) (pv 2) (pv 5) (fun _ _=>rfl)) (À (pfn G_times hr (À (Õ (Ù hr) (pv 1) (pv 3) (fun _ _=>rfl)) (À (pv 6) Ä))) Ä))) rfl)))))))
   (Å (Î (pv 2)))))),?_⟩
  intro p hp;have tp:=Same.upd (o:=.dK []) hp;have hr1:=tp _ _ hrw;have ht1:=tp _ _ ht;have hp1:=Á (H:=H) (a:=p) (o:=.dK []);have rt1:=rt.same fun v r g=>g.same tp;have TB1:=TB.same tp;have npr:p≠pr:=fun e=>by rw[e,hrw]at hp;cases hp
  have npt:p≠pt:=fun e=>by rw[e,ht]at hp;cases hp
  have nadp:∀x∈C,ad x≠p:=fun x hx e=>by
   obtain⟨_,_,kv,c,_⟩:=TB.row x hx;rw[e,hp]at c;cases c
  generalize upd H p (.dK [])=H1 at *;have mt:∀z,z∈nms kt↔z∈C:=fun z=>(rt.iff z).trans all_some;have nt:(nms kt).Nodup:=â rt.nodup rt.keys;have lt5:kt.length<=5:=by rw[<- Ò];exact Č (Ö nt fun z hz=>(mt z).mp hz) c5
  refine⟨pt,_,ht1,rfl,?_⟩;refine⟨_,rfl,pt,_,rfl,ht1,rfl,fun o qs hqs=>?_⟩;have hqs:qs=kt.map fun kv=>(kV kv.1,kv.2):=hqs;subst hqs;refine ž (fun i σ H2=>∃(v3:Option V) (kv:List (Key×V)),σ=[some (.ref pr),some (.ref pt),some (.ref p),v3,none,none,none] /\ H2 pt=some (.frz o (.dK kt)) /\ (∀c ob,H1 c=some ob->c≠p->c≠pt->H2 c=some ob) /\ H2 p=some (.dK kv) /\ RowAt H2 kv (all (nms (kt.take i)) fun _=>0)) ?_ ?_ ?_ ?_
  ·refine⟨none,[],rfl,Á,fun c ob e _ n=>by rw[upd_ne n];exact e,by rw[upd_ne npt];exact hp1,?_⟩;rw[Ň];show RowAt _ [] (all [] _);rw[Τ];exact RowAt.nil _
  ·rintro i σ H2 ⟨_,_,_,h,_⟩;exact h
  ·rintro i k' v σ H2 hk ⟨v3,kv,rfl,hfz,kp,h2,row⟩;obtain⟨kvi,hki,ek⟩:=Κ hk;obtain⟨z,r,hz,hg,fr,hnot,hnms⟩:=rt1.at hki;obtain⟨rfl,rfl⟩:=Prod.mk.inj ek;obtain⟨k0,w0⟩:=kvi;have hz:k0 = .inr z:=hz;subst hz;have lk:kv.length<=5:=by
    have:=row.len' (L:=nms (kt.take i)) fun y hy=>all_some.mp hy;rw[Ò,ċ]at this;lia
   refine⟨sz (by simp),fun p1 hp1'=>?_⟩;have t3:=Same.upd (o:=.tup [.int 0,.int 1]) hp1';have f0:=FrV.newOf (H:=H2) (p:=p1) (t:=0) (b:=1) (r:=0) rfl rfl;have row3:=row.same fun v r f=>f.same t3;have h3:=t3 _ _ h2;have hfz3:=t3 _ _ hfz;have kp3:∀c ob,H1 c=some ob->c≠p->c≠pt->upd H2 p1 (.tup [.int 0,.int 1]) c=some ob:=fun c ob e n1 n2=>t3 _ _ (kp c ob e n1 n2);generalize upd H2 p1 (.tup [.int 0,.int 1])=H3 at *;refine⟨_,rfl,_,rfl,p,_,rfl,DPut.k (k:=.inr z) h3 (sz (by lia)),?_⟩;have tu:=Ì (o:=.dK (putK kv (.inr z) (.ref p1))) h3 (fun _ z=>nomatch z);refine⟨_,putK kv (.inr z) (.ref p1),rfl,by rw[upd_ne npt.symm];exact hfz3,fun c ob e n1 n2=>by rw[upd_ne n1];exact kp3 c ob e n1 n2,Á,?_⟩;rw[hnms,Α];exact(row3.put (z:=z) f0).same fun v r g=>g.tup tu
  rintro σ H2 ⟨v3,kv,rfl,hfz,kp,h2,row⟩;rw[ā,đ]at row;refine⟨o,.dK kt,hfz,?_⟩;have e0:all (nms kt) (fun _=>(0:Rat))=all C fun _=>0:=by
   funext z
   unfold all
   by_cases q:z∈C
   ·rw[if_pos q,if_pos ((mt z).mpr q)]
   ·rw[if_neg q,if_neg fun u=>q ((mt z).mp u)]
  rw[e0]at row;have ht3:=Á (H:=H2) (a:=pt) (o:=.dK kt);have h3:upd H2 pt (.dK kt) p=some (.dK kv):=by rw[upd_ne npt];exact h2
  have kp3:∀c ob,H1 c=some ob->c≠p->upd H2 pt (.dK kt) c=some ob:=fun c ob e n=>by
   by_cases q:c=pt
   ·subst q;rw[ht1]at e;cases e;exact Á
   ·rw[upd_ne q];exact kp c ob e n q
  have row3:=row.same fun v r g=>g.tup (Ì (o:=.dK kt) hfz (fun _ z=>nomatch z));generalize upd H2 pt (.dK kt)=H3 at *;have kT3:∀c m,H1 c=some (.tup m)->H3 c=some (.tup m):=fun c m e=>kp3 c _ e (å e hp1 (by intro z;cases z));have s3:Same H H3:=fun c ob e=>kp3 c ob (tp _ _ e) (Æ e hp);have hr3:=kp3 _ _ hr1 npr.symm;have rt3:=rt1.same fun v r g=>g.tup kT3;show Ends.nx _ [some (.ref pr),some (.ref pt),some (.ref p),v3,none,none,none] _;let Sm:Nat->Str->Rat:=fun i z=>sumL (C.take i) fun y=>f y*R y z;have cdP:∀y∈C,∀z,Cd (E1*Dn) (W1*Dn) (f y*R y z):=fun y hy z=>by
   have:=(hcd y hy).mul (Cd.of (G.part y (hCL y hy) z));rw[Ŕ]at this;exact this
  have cdS:∀i z,Cd (E1*Dn) (5*(W1*Dn)) (Sm i z):=fun i z=>by
   have:=zJ1 (l:=C.take i) (f:=fun y=>f y*R y z) fun y hy=>cdP y (List.mem_of_mem_take hy) z;refine this.mono (Ĕ _ ?_);rw[ċ];lia
  have ED0:0<E1*Dn:=Ņ E0' D0;have EWD:E1*Dn<=W1*Dn:=Ĕ _ EW;have WD:W1*Dn<=2^3100:=by
   have:=Ġ We Dd;rw[<- ī]at this;exact this
  have WD8:5*(W1*Dn)<=2^3103:=by
   have e:(2:Nat)^3103=8*2^3100:=by rw[show 3103=3+3100 from rfl,ī]
   rw[e];lia
  have bS:∀i z,Bd 8000 (Sm i z):=fun i z=>((cdS i z).bd ED0 (by lia) WD8).mono (by decide);have bP:∀y∈C,∀z,Bd 8000 (f y*R y z):=fun y hy z=>((cdP y hy z).bd ED0 EWD WD).mono (by decide);have bF:∀y∈C,Bd 8000 (f y):=fun y hy=>((hcd y hy).bd E0' EW We).mono (by decide);have bR:∀y∈C,∀z,Bd 8000 (R y z):=fun y hy z=>((Cd.of (G.part y (hCL y hy) z)).bd D0 (by lia) (by rw[Ŕ];exact Dd)).mono (by decide);have keyat:∀{i:Nat} {k' v:V},(rows.map fun kv=>(kV kv.1,kv.2))[i]?=some (k',v)->∃z,k' = .str z /\ v = .ref (ad z) /\ z∈C /\ C[i]?=some z:=fun {i k' v} hk=>by
   rw[Ĉ]at hk;cases q:rows[i]? with
   | none=>rw[q]at hk;cases hk
   | some kvi =>
    rw[q]at hk;obtain⟨rfl,rfl⟩:=Prod.mk.inj (Option.some.inj hk);obtain⟨z,hz,hzC⟩:=TB.keys kvi (Ċ q);refine⟨z,by rw[hz];rfl,?_,hzC,?_⟩
    ·have:=ů TB.nodup q;rw[hz,(TB.row z hzC).1]at this;exact(Option.some.inj this).symm
    ·rw[<- hC];unfold nms;rw[Ĉ,q];show some (nmz kvi.1)=_;rw[hz];rfl
  refine⟨pr,_,hr3,rfl,?_⟩;refine⟨_,rfl,.inr (.inr (.inl ⟨rfl,.inl ⟨_,hr3⟩⟩)),pr,_,rfl,rfl,hr3,rfl,fun pv hpv=>?_⟩;have tv:=Same.upd (o:=Μ pv pr) hpv;refine⟨pv,pr,_,rfl,Á,tv _ _ hr3,rfl,fun o qs hqs=>?_⟩;have hqs:qs=rows.map fun kv=>(kV kv.1,kv.2):=hqs;subst hqs;refine Ź (fun i σ H4=>∃(v3 v4 v5 v6:Option V) (kv:List (Key×V)),σ=[some (.ref pr),some (.ref pt),some (.ref p),v3,v4,v5,v6] /\ H4 pr=some (.frz o (.dK rows)) /\ (∀c ob,H3 c=some ob->c≠p->c≠pr->H4 c=some ob) /\ H4 p=some (.dK kv) /\ RowAt H4 kv (all C (Sm i))) ?_ ?_ ?_ ?_
  ·have h4:∀c ob,H3 c=some ob->c≠p->c≠pr->upd (upd H3 pv (Μ pv pr)) pr (.frz o (.dK rows)) c=some ob:=fun c ob e _ n=>by rw[upd_ne n];exact tv _ _ e
   refine⟨_,_,_,_,kv,rfl,Á,h4,by rw[upd_ne npr];exact tv _ _ h3,?_⟩;exact row3.same fun v r g=>(g.same tv).tup (Ì (o:=.frz o (.dK rows)) (tv _ _ hr3) (fun _ z=>nomatch z))
  ·rintro i σ H4 ⟨_,_,_,_,_,_,h,_⟩;exact h
  ·rintro i k' v T' σ H4 hk ⟨v3,v4,v5,v6,kv,rfl,hfz,kp4,h4,row4⟩ hT;obtain⟨nm,rfl,rfl,hnC,hin⟩:=keyat hk;have tT:=Same.upd (o:=.tup [.str nm,.ref (ad nm)]) hT;refine⟨T',_,rfl,SqT.of Á,rfl,_,_,rfl,_,_,rfl,rfl,?_⟩;have h5:=tT _ _ h4;have row5:=row4.same fun v r g=>g.same tT;have hfz5:=tT _ _ hfz;have kp5:∀c ob,H3 c=some ob->c≠p->c≠pr->upd H4 T' (.tup [.str nm,.ref (ad nm)]) c=some ob:=fun c ob e n1 n2=>tT _ _ (kp4 c ob e n1 n2);generalize upd H4 T' (.tup [.str nm,.ref (ad nm)])=H5 at *;obtain⟨_,_,kvs,hrow0,rr0⟩:=TB1.row nm hnC;have nap:=nadp nm hnC;have nar:=TB.apart nm hnC;have hrow:=kp5 _ _ (kp3 _ _ hrow0 nap) nap nar;have kT5:∀c m,H3 c=some (.tup m)->H5 c=some (.tup m):=fun c m e=>kp5 c _ e (å e h3 (by intro z;cases z)) (å e hr3 (by intro z;cases z));have rr5:=rr0.same fun v r g=>(g.tup kT3).tup kT5;have ht5:=kp5 _ _ ht3 npt.symm ntr;have rt5:=rt3.same fun v r g=>g.tup kT5;obtain⟨wf,ewf,fwf⟩:=rt5.has nm (f nm) (by unfold all;rw[if_pos hnC]);refine⟨ad nm,_,hrow,rfl,?_⟩;refine⟨_,rfl,.inr (.inr (.inl ⟨rfl,.inl ⟨_,hrow⟩⟩)),ad nm,_,rfl,rfl,hrow,rfl,fun pv2 hpv2=>?_⟩;have tv2:=Same.upd (o:=Μ pv2 (ad nm)) hpv2;refine⟨pv2,ad nm,_,rfl,Á,tv2 _ _ hrow,rfl,fun o2 qs2 hqs2=>?_⟩;have hqs2:qs2=kvs.map fun kv=>(kV kv.1,kv.2):=hqs2;subst hqs2;let Pt:Nat->Str->Rat:=fun j z=>Sm i z+if z∈nms (kvs.take j) then f nm*R nm z else 0;refine Ź (fun j σ H8=>∃(v5 v6:Option V) (kv':List (Key×V)),σ=[some (.ref pr),some (.ref pt),some (.ref p),some (.str nm),some (.ref (ad nm)),v5,v6] /\ H8 (ad nm)=some (.frz o2 (.dK kvs)) /\ (∀c ob,H5 c=some ob->c≠p->c≠ad nm->H8 c=some ob) /\ H8 p=some (.dK kv') /\ RowAt H8 kv' (all C (Pt j))) ?_ ?_ ?_ ?_
   ·have h8:∀c ob,H5 c=some ob->c≠p->c≠ad nm->upd (upd H5 pv2 (Μ pv2 (ad nm))) (ad nm) (.frz o2 (.dK kvs)) c=some ob:=fun c ob e _ n=>by rw[upd_ne n];exact tv2 _ _ e
    refine⟨_,_,kv,rfl,Á,h8,by rw[upd_ne nap.symm];exact tv2 _ _ h5,?_⟩;have e:all C (Pt 0)=all C (Sm i):=ë fun z _=>by
     show Sm i z+_=_;rw[if_neg (by simp[nms])];grind
    rw[e];exact row5.same fun v r g=>(g.same tv2).tup (Ì (o:=.frz o2 (.dK kvs)) (tv2 _ _ hrow) (fun _ z=>nomatch z))
   ·rintro j σ H8 ⟨_,_,_,_,h,_⟩;exact h
   ·rintro j k' v T2 σ H8 hk ⟨v5,v6,kv',rfl,hfz8,kp8,h8,row8⟩ hT2;obtain⟨kvi,hki,ek⟩:=Κ hk;obtain⟨rfl,rfl⟩:=Prod.mk.inj ek;obtain⟨z,r,hz,hg,fr,hnot,hnms⟩:=rr5.at hki;obtain⟨e1,e2⟩:=yB3 hg;have hzC:z∈C:=by
     by_cases e:z∈C
     ·exact e
     ·unfold resC at e1;rw[if_neg e]at e1;exact absurd e1.symm e2
    unfold resC at e1;rw[if_pos hzC]at e1;have ekv:kV kvi.1 = .str z:=by rw[hz];rfl
    have kT8:∀c m,H5 c=some (.tup m)->H8 c=some (.tup m):=fun c m e=>kp8 c _ e (å e h5 (by intro z;cases z)) (å e hrow (by intro z;cases z));have tT2:=Same.upd (o:=.tup [kV kvi.1,kvi.2]) hT2;refine⟨T2,_,rfl,SqT.of Á,rfl,_,_,rfl,_,_,rfl,rfl,?_⟩;rw[ekv]at tT2 ⊢;have h9:=tT2 _ _ h8;have fw9:=(fwf.tup kT8).same tT2;have fr9:=(fr.tup kT8).same tT2;have row9:=row8.same fun v r g=>g.same tT2;have ht9:=tT2 _ _ (kp8 _ _ ht5 npt.symm (nad nm hnC).symm);have kp9:∀c ob,H5 c=some ob->c≠p->c≠ad nm->upd H8 T2 (.tup [.str z,kvi.2]) c=some ob:=fun c ob e n1 n2=>tT2 _ _ (kp8 c ob e n1 n2);have hfz9:=tT2 _ _ hfz8;generalize upd H8 T2 (.tup [.str z,kvi.2])=H9 at *;obtain⟨w9,ew9,fp9⟩:=row9.has z (Pt j z) (by unfold all;rw[if_pos hzC]);have ePt:Pt j z=Sm i z:=by show Sm i z+_=_;rw[if_neg hnot];grind
    have b1:Bd 8000 (Pt j z):=by rw[ePt];exact bS i z
    have b2:Bd 8000 r:=by rw[<- e1];exact bR nm hnC z
    have b3:Bd 8000 (f nm*r):=by rw[<- e1];exact bP nm hnC z
    refine⟨_,rfl,_,rfl,p,w9,rfl,?_,_,rfl,_,rfl,pt,wf,rfl,?_,_,rfl,spTimes.of (E:=E0) rfl fw9 fr9 (bF nm hnC) b2 fun u1 H10 s10 f10=>?_⟩
    ·have g:=DGet.k (k:=.inr z) h9;rw[ew9]at g;exact g
    ·have g:=DGet.k (k:=.inr nm) ht9;rw[ewf]at g;exact g
    refine⟨_,_,Pt j z,f nm*r,rfl,fp9.same s10,f10,b1,b3,fun u2 H11 s11 f11=>?_⟩;have s911:=s10.trans s11;have h11:=s911 _ _ h9;have lk:kv'.length<=5:=Č (row8.len' fun y hy=>all_some.mp hy) c5;refine⟨_,rfl,_,rfl,p,_,rfl,DPut.k (k:=.inr z) h11 (sz (by lia)),?_⟩;have tu:=Ì (o:=.dK (putK kv' (.inr z) u2)) h11 (fun _ z=>nomatch z);refine⟨_,_,putK kv' (.inr z) u2,rfl,by rw[upd_ne nap];exact s911 _ _ hfz9,fun c ob e n1 n2=>by rw[upd_ne n1];exact s911 _ _ (kp9 c ob e n1 n2),Á,?_⟩;have hrow:=((row9.same fun v r g=>g.same s911).put (z:=z) f11).same fun v r g=>g.tup tu;rw[zF2 hzC]at hrow;have e:all C (Pt (j+1))=all C (fun y=>if y=z then Pt j z+f nm*r else Pt j y):=ë fun y _=>by
     show Sm i y+_=_;rw[hnms]
     by_cases e:y=z
     ·subst e;rw[if_pos rfl,if_pos (by simp),ePt,e1]
     ·rw[if_neg e];show _=Sm i y+_;have:(y∈nms (kvs.take j)++[z])↔y∈nms (kvs.take j):=by simp[e]
      by_cases q:y∈nms (kvs.take j)
      ·rw[if_pos q,if_pos (this.mpr q)]
      ·rw[if_neg q,if_neg fun u=>q (this.mp u)]
    rw[e];exact hrow
   ·rintro σ H8 ⟨v5,v6,kv',rfl,hfz8,kp8,h8,row8⟩;rw[ā]at row8;refine⟨o2,_,hfz8,?_⟩;refine⟨_,_,_,_,kv',rfl,?_,fun c ob e n1 n2=>?_,by rw[upd_ne nap.symm];exact h8,?_⟩
    ·rw[upd_ne nar.symm];exact kp8 _ _ hfz5 npr.symm nar.symm
    ·by_cases q:c=ad nm
     ·subst q;have:=kp5 _ _ e n1 n2;rw[hrow]at this;rw[Á];exact this
     ·rw[upd_ne q];exact kp8 _ _ (kp5 c ob e n1 n2) n1 q
    ·have e:all C (Sm (i+1))=all C (Pt kvs.length):=ë fun z hz=>by
      have e1:Sm (i+1) z=Sm i z+f nm*R nm z:=by
       show sumL (C.take (i+1)) _=_;rw[Ø hin,zB7]
      rw[e1];show _=Sm i z+_;rw[đ]
      by_cases q:z∈nms kvs
      ·rw[if_pos q]
      ·rw[if_neg q];have:R nm z=0:=by
        by_cases u:R nm z=0
        ·exact u
        ·exact absurd ((rr5.iff z).mpr (op_some.mpr (by unfold resC;rw[if_pos hz];exact u))) q
       rw[this,ś]
     rw[e];exact row8.same fun v r g=>g.tup (Ì (o:=.dK kvs) hfz8 (fun _ z=>nomatch z))
  rintro σ H4 ⟨v3',v4,v5,v6,kv',rfl,hfz4,kp4,h4,row4⟩;have lr:rows.length=C.length:=by rw[<- hC,Ò]
  rw[ā,lr]at row4;refine⟨o,_,hfz4,_,rfl,k p _ kv' hp (fun c ob e=>?_) (by rw[upd_ne npr];exact h4) ?_⟩
  ·have:=s3 _ _ e
   by_cases q:c=pr
   ·subst q;rw[hrw]at e;cases e;exact Á
   ·rw[upd_ne q];exact kp4 _ _ this (Æ e hp) q
  ·have e:Sm C.length=ldR C R f:=by funext z;show sumL (C.take C.length) _=_;rw[đ];rfl
   rw[e]at row4;exact row4.same fun v r g=>g.tup (Ì (o:=.dK rows) hfz4 (fun _ z=>nomatch z))
noncomputable abbrev zD0:Stmt:=top 30
theorem sc_left_alike:Ë ["rows","added","casks","equations","name","equation","cask","stays"] ["rows","added"] (Ç zD0):=scF
theorem zR4 {ca:Ca}(D:DefAt K mg "left_alike" zD0)(T:Txt K mg ca)(G_minus:FnAt P w K mg base CX0 3 "minus" ["one","other"] (zH1))(G_solved:FnAt P w K mg base CX0 6 "solved" ["rows"] (yF0)):FnAt P w K mg base CX0 7 "left_alike" ["rows","added"] (yN4):=by
 refine D.ok sc_left_alike (fun vs H Q E h=>?_) (fun _ _ _ _ _ _ us hl=>match us,hl with | [_,_],_=>rfl) (fun f cdv A outer s H vs Q E hr h=>?_)
 all_goals obtain⟨pr,pa,H0,rows,kb,ad,C,L,R,b,Dn,E1,W1,d,e,rfl,hrw,TB,hC,nC,c5,nL,hCL,G,D0,Dd,hb,rb,E0',EW,We,hcd,b1,b2,hlk,k⟩:=h
 ·rfl
 ·have nd:=sc_left_alike.nd;refine⟨_,(Â (É (i:=2) nd rfl (Or.inl rfl) (ö (zO7 rfl) (by rfl) T.z_list zJ2 (À (pv 0) Ä)))
   (Â (É (i:=3) nd rfl (Or.inl rfl) (Γ Ä))
   (Â (Ú PassesOwn.never rfl (ï (K:=K) rfl (pv 2)) (È (i:=4) nd rfl (Or.inl rfl)) (Â (É (i:=5) nd rfl (Or.inl rfl) (Γ Ä))
   (Â (Ú PassesOwn.never rfl (ï (K:=K) rfl (pv 2)) (È (i:=6) nd rfl (Or.inl rfl)) (Â (É (i:=7) nd rfl (Or.inl rfl) (zK5 (Ô Ν (pv 6) (pv 4) (Ý _)) (Ñ (À Ã (À Ã Ä))) (Ñ (À Ã (À Ã Ä)))))
   (Å (ð (θ PySem.F.plainAttrs_list PySem.F.slot_list_append PySem.F.type_list_append è (pv 5) (À (pfn G_minus hr (À (pv 7) (À (yG7 (Ù hr) (Õ (Ù hr) (pv 0) (pv 6) (fun _ _=>rfl)) (pv 4) (Ñ (À Ã (À Ã Ä))) ⟨by rfl,by rfl,by rfl,by rfl⟩) Ä))) Ä))))))
   (Å (ð (θ PySem.F.plainAttrs_list PySem.F.slot_list_append PySem.F.type_list_append è (pv 3) (À (Í zW9 (pv 5) (Γ (À (Õ (Ù hr) (pv 1) (pv 4) (fun _ _=>rfl)) Ä))) Ä)))))))
   (Å (Î (yK0 (K:=K) rfl rfl (by rfl) T.z_dict (by rfl) T.z_zip (À (pv 2) (À (pfn G_solved hr (À (pv 3) Ä)) Ä)))))))),?_⟩
  have hkeys:∀kv∈rows,∃z,kv.1 = .inr z:=fun kv h=>(let ⟨z,e,_⟩:=TB.keys kv h;⟨z,e⟩);refine⟨_,rfl,pr,_,rfl,hrw,rfl,fun qs hqs pc hpc=>?_⟩;have hqs:qs=rows.map fun kv=>(kV kv.1,kv.2):=hqs;have ec:qs.map (·.1)=C.map V.str:=by
   rw[hqs,Ś,<- hC];exact yH3 hkeys
  rw[ec];have t1:=Same.upd (o:=.lst (C.map V.str)) hpc;have h1c:=Á (H:=H) (a:=pc) (o:=.lst (C.map V.str));generalize upd H pc (.lst (C.map V.str))=H1 at *;refine⟨sz (by simp),fun pe hpe=>?_⟩;have t2:=t1.trans (Same.upd (o:=.lst []) hpe);have h2c:=(Same.upd (o:=.lst []) hpe) _ _ h1c;have hpe0:=t1.free hpe;let n:=C.length;let c:Nat->Str:=fun i=>C.getD i "";have hcN:Nmd C c:=xN9 C;refine⟨_,rfl,pc,rfl,⟨_,SqL.of h2c⟩,?_⟩;refine Ÿ (xs:=C.map V.str) (fun i σ H2=>∃(v4 v5 v6 v7:Option V) (bs:List Addr),σ=[some (.ref pr),some (.ref pa),some (.ref pc),some (.ref pe),v4,v5,v6,v7] /\ Same H H2 /\ H2 pc=some (.lst (C.map V.str)) /\ H2 pe=some (.lst (bs.map V.ref)) /\ bs.length=i /\ ∀j q,bs[j]?=some q->q≠pe /\ LsF H2 q (nR (n+1) (eqM n c R b j))) ⟨none,none,none,none,[],rfl,t2,h2c,Á,rfl,fun j q e=>by simp at e⟩ ?_ ?_ ?_
  ·rintro i σ H2 hi ⟨v4,v5,v6,v7,bs,rfl,s2,hc2,he2,lb,hB⟩;exact SqL.of hc2
  ·rintro i x σ H2 hx ⟨v4,v5,v6,v7,bs,rfl,s2,hc2,he2,lb,hB⟩;obtain⟨nm,rfl,hi⟩:=zH0 hx;have hil:i<C.length:=(Ą.mp hi).1;have eni:nm=c i:=by have:=hcN i hil;rw[hi]at this;exact Option.some.inj this
   have hnm:nm∈C:=Ċ hi;refine⟨sz (by simp),fun pq hpq=>?_⟩;have t3:=Same.upd (o:=.lst []) hpq;have hpq0:=s2.free hpq;refine⟨_,rfl,pc,rfl,⟨_,SqL.of (t3 _ _ hc2)⟩,?_⟩;refine Ÿ (xs:=C.map V.str) (fun j σ H3=>∃(v6 v7:Option V) (ws:List V),σ=[some (.ref pr),some (.ref pa),some (.ref pc),some (.ref pe),some (.str nm),some (.ref pq),v6,v7] /\ Same H2 H3 /\ H3 pq=some (.lst ws) /\ Paired (FrV H3) ws (nR j (eqM n c R b i))) ⟨_,_,[],rfl,t3,Á,.nil⟩ ?_ ?_ ?_
   ·rintro j σ H3 hj ⟨v6,v7,ws,rfl,s3,hq3,hW⟩;exact SqL.of (s3 _ _ hc2)
   ·rintro j y σ H3 hy ⟨v6,v7,ws,rfl,s3,hq3,hW⟩;obtain⟨ck,rfl,hj⟩:=zH0 hy;have hjl:j<C.length:=(Ą.mp hj).1;have enj:ck=c j:=by have:=hcN j hjl;rw[hj]at this;exact Option.some.inj this
    have hck:ck∈C:=Ċ hj;obtain⟨vr,_,kvs,hrow,rr⟩:=TB.row ck hck;have lW:ws.length=j:=hW.length.trans (γ j _);have s03:=s2.trans s3;have bR:Bd 8000 (R ck nm):=((G.part ck (hCL ck hck) nm).bd (n:=d+1) D0 (ą _) (by rw[Ŕ,ģ];have:=Nat.two_pow_pos d;lia)).mono (by lia);refine⟨_,rfl,_,rfl,rfl,_,rfl,?_⟩;refine ite2 (fun h=>?A) (fun h=>?B)
    case' A =>
     have h:ck=nm:=V.str.inj (of_decide_eq_true h);refine⟨sz (by simp),fun p1 hp1=>?_⟩;have t4:=Same.upd (o:=.tup [.int 1,.int 1]) hp1;have fd:=FrV.newOf (H:=H3) (p:=p1) (t:=1) (b:=1) (r:=1) rfl rfl;generalize upd H3 p1 (.tup [.int 1,.int 1])=H4 at *;have bdl:Bd 8000 (1:Rat):=⟨ŝ (by decide),ŝ (by decide)⟩;have edl:eqM n c R b i j=1 - R ck nm:=by unfold eqM;rw[if_pos hjl,<- enj,<- eni,if_pos h]
    case' B =>
     have h:ck≠nm:=fun e=>h (decide_eq_true (by rw[e]));refine⟨sz (by simp),fun p1 hp1=>?_⟩;have t4:=Same.upd (o:=.tup [.int 0,.int 1]) hp1;have fd:=FrV.newOf (H:=H3) (p:=p1) (t:=0) (b:=1) (r:=0) rfl rfl;generalize upd H3 p1 (.tup [.int 0,.int 1])=H4 at *;have bdl:Bd 8000 (0:Rat):=⟨Nat.two_pow_pos _,ŝ (by decide)⟩;have edl:eqM n c R b i j=0 - R ck nm:=by unfold eqM;rw[if_pos hjl,<- enj,<- eni,if_neg h]
    all_goals
     have s04:=s03.trans t4;have hq4:=t4 _ _ hq3;refine⟨_,rfl,.inl ⟨rfl,_,SqL.of hq4⟩,_,rfl,_,rfl,_,rfl,pr,.ref (ad ck),rfl,?_,ad ck,rfl,.inl ⟨kvs,.inl (s04 _ _ hrow)⟩,_,rfl,sz (by simp),fun q0 hq0=>⟨valV kvs (.inr nm),DGet.k (k:=.inr nm) (Same.upd hq0 _ _ (s04 _ _ hrow)),?_⟩⟩
     ·have g:=DGet.k (k:=.inr ck) (s04 _ _ hrw);rw[vr]at g;exact g
     have z0:=Same.upd (o:=.tup [.int 0,.int 1]) hq0;have fg:FrV (upd H4 q0 (.tup [.int 0,.int 1])) ((valV kvs (.inr nm)).getD (.ref q0)) (R ck nm):=by
      have:=(rr.same (fun v r f=>(f.same s04).same z0)).getD (FrV.newOf (r:=0) (p:=q0) rfl rfl) nm;rw[ξ]at this;unfold resC at this;rw[if_pos hnm]at this;exact this
     refine⟨_,_,_,R ck nm,rfl,fd.same z0,fg,bdl,bR,fun u6 H6 s6 f6=>?_⟩;have s46:=z0.trans s6;have hq6:=s46 _ _ hq4;refine⟨pq,_,_,rfl,rfl,hq6,sz (by lia),?_⟩;refine⟨_,_,ws++[u6],rfl,(s3.trans (t4.trans s46)).updD hpq,Á,?_⟩;rw[zN1,edl];have tu:=Ì (o:=.lst (ws++[u6])) hq6 (fun _ z=>nomatch z);exact Paired.snoc (Paired.mapP hW fun _ _ f=>(f.same (t4.trans s46)).tup tu) (f6.tup tu)
   ·rintro σ H3 ⟨v6,v7,ws,rfl,s3,hq3,hW⟩;rw[ā]at hW;have s03:=s2.trans s3;obtain⟨vb,ev,fb⟩:=rb.has nm (b nm) (by unfold all;rw[if_pos hnm]);have lW:ws.length=n:=hW.length.trans (γ n _);have he3:=s3 _ _ he2;have npq:pe≠pq:=Æ he2 hpq;refine⟨_,rfl,.inl ⟨rfl,_,SqL.of he3⟩,_,rfl,_,rfl,_,rfl,pa,vb,rfl,?_,sz (by simp),fun pl hpl=>?_⟩
    ·have g:=DGet.k (k:=.inr nm) (s03 _ _ hb);rw[ev]at g;exact g
    have t4:=Same.upd (o:=.lst [vb]) hpl;refine⟨pq,pl,_,_,rfl,rfl,t4 _ _ hq3,Á,sz (by simp;lia),fun pn hpn=>?_⟩;have t5:=t4.trans (Same.upd (o:=.lst (ws++[vb])) hpn);have hpn3:=Á (H:=upd H3 pl (.lst [vb])) (a:=pn) (o:=.lst (ws++[vb]));have he5:=t5 _ _ he3;have npe:pn≠pe:=fun e=>by have:=t4 _ _ he3;rw[e,this]at hpn;cases hpn
    generalize upd (upd H3 pl (.lst [vb])) pn (.lst (ws++[vb]))=H5 at *;refine⟨pe,_,_,rfl,rfl,he5,sz (by rw[ā];lia),?_⟩;have tu:=Ì (o:=.lst (bs.map V.ref++[.ref pn])) he5 (fun _ z=>nomatch z);have s25:=s3.trans t5;refine⟨_,_,_,_,bs++[pn],rfl,(s2.trans s25).updD hpe0,?_,by rw[Á,Đ];rfl,by rw[Ď,lb];rfl,fun j q e=>?_⟩
    ·have:pc≠pe:=Æ h1c hpe;rw[upd_ne this];exact s25 _ _ hc2
    rcases zS9 e with e | ⟨e1,rfl⟩
    ·obtain⟨n1,l1⟩:=hB j q e;exact⟨n1,(l1.same s25).keep tu fun vs h=>by rw[upd_ne n1];exact h⟩
    ·refine⟨npe,ws++[vb],by rw[upd_ne npe];exact hpn3,?_⟩;rw[e1,lb,zN1];refine Paired.snoc (Paired.mapP hW fun _ _ f=>(f.same t5).tup tu) ?_;have e2:eqM n c R b i n=b nm:=by unfold eqM;rw[if_neg (by lia),<- eni]
     rw[e2];exact(fb.same (s03.trans t5)).tup tu
  ·rintro σ H2 ⟨v4,v5,v6,v7,bs,rfl,s2,hc2,he2,lb,hB⟩;rw[ā]at lb;refine⟨_,rfl,_,rfl,pe,n,d,e,eqM n c R b,rfl,⟨bs,he2,lb,fun j q h=>(hB j q h).2⟩,c5,xQ2 hcN hCL G D0 E0' EW hcd Dd We,b1,b2,fun y h1 h2=>xA6 hcN nC (G.sub nC nL hCL) hlk b h1 h2,fun ps H3 x hps s3 hx hsol hbd=>?_⟩;obtain⟨vs,hvs,hV⟩:=hx;have lV:vs.length=C.length:=hV.length.trans (γ _ _);refine⟨pc,ps,C,vs,rfl,SqL.of (s3 _ _ hc2),SqL.of hvs,nC,lV,by lia,fun p hp=>?_⟩;have t4:=Same.upd (o:=.dK (zipV C vs)) hp;have s04:=s2.trans (s3.trans t4);have hsol':∀i,i<C.length->sN C.length (fun j=>eqM C.length c R b i j*x j)=b (c i):=fun i hi=>by
    have:=hsol i hi;rw[this];unfold eqM;rw[if_neg (by show ¬C.length<C.length;lia)]
   refine k p _ _ (fun z=>x (C.idxOf z)) (s2.free (s3.free hp)) s04 Á ((RowAt.zip nC hV).same fun v r f=>f.same t4) (zJ7 lV) (xJ4 hcN nC R b hsol') ?_;obtain⟨E2,W2,g1,g2,g3,g4⟩:=hbd;exact⟨E2,W2,g1,g2,g3,fun z hz=>g4 _ (List.idxOf_lt_length_of_mem hz)⟩
noncomputable abbrev zB4:Stmt:=top 31
theorem sc_closed_casks:Ë ["rows","leaking","name","shares","again"] ["rows"] (Ç zB4):=scF
theorem zM6 {ca:Ca}(D:DefAt K mg "closed_casks" zB4)(T:Txt K mg ca)(G_sum_of:FnAt P w K mg base CX0 3 "sum_of" ["some"] (yA4 K)):FnAt P w K mg base CX0 4 "closed_casks" ["rows"] (zK1):=by
 refine D.ok sc_closed_casks (fun vs H Q E h=>?_) (fun _ _ _ _ _ _ us hl=>match us,hl with | [_],_=>rfl) (fun f cdv A outer s H vs Q E hr h=>?_)
 all_goals obtain⟨pr,H0,rows,ad,C,L,R,Dn,rfl,hrw,TB,hC,nC,c5,nL,hCL,G,D0,DB,k⟩:=h
 ·rfl
 ·have nd:=sc_closed_casks.nd;refine⟨_,(Â (É (i:=1) nd rfl (Or.inr rfl) ó)
   (Â (ú (Ú PassesOwn.never rfl (ż (ź (K:=K) rfl PySem.F.plainAttrs_dict PySem.F.slot_dict_items PySem.F.type_dict_items Ž (pv 0))) (Η rfl (Ï (È (i:=2) nd rfl (Or.inl rfl)) (Ï (È (i:=3) nd rfl (Or.inl rfl)) ŭ))) (Å (Ű (Ô (zM4 (K:=K) rfl hr) (pfn G_sum_of hr (À (ö (zO6 rfl) (by rfl) T.z_list zJ2 (À (ź (K:=K) rfl PySem.F.plainAttrs_dict PySem.F.slot_dict_values PySem.F.type_dict_values yS1 (pv 3)) Ä)) Ä)) (Ñ (À Ã (À Ã Ä))) (Ý _)) (Å (ã (Ù hr) (pv 1) (pv 2) ρ rfl)) á))))
   (Â (Ú PassesOwn.never rfl (ÿ (by rfl) T.z_range (À (ß yV6 (by rfl) T.z_len PySem.boot_len (À (pv 0) Ä)) Ä)) (È (i:=4) nd rfl (Or.inl rfl)) (Å (ú (Ú PassesOwn.never rfl (ż (ź (K:=K) rfl PySem.F.plainAttrs_dict PySem.F.slot_dict_items PySem.F.type_dict_items Ž (pv 0))) (Η rfl (Ï (È (i:=2) nd rfl (Or.inl rfl)) (Ï (È (i:=3) nd rfl (Or.inl rfl)) ŭ))) (Å (Ű (Ψ (ß (yV7 (K:=K) rfl rfl) (by rfl) T.z_any xR1 (À (yB1 (Λ ["end"] ["leaking"] [1] rfl (by rfl) (Ι (pv 3)) (fun _ _ _ _=>(È (i:=0) (show List.Nodup (["end","leaking"]:List Str) from by decide) rfl (Or.inl rfl))) (fun _ _ _ _=>Θ) (fun _ _ _ _=>(xM7 (yQ7 (Ù hr) (pv 0) (pv 1)))))) Ä))) (Å (ã (Ù hr) (pv 1) (pv 2) ρ rfl)) á))))))
   (Å (Î (ß (zT2 (K:=K) rfl) (by rfl) T.z_sorted zN8 (À (yB1 (Λ ["name"] ["leaking"] [1] rfl (by rfl) (Ι (pv 0)) (fun _ _ _ _=>(È (i:=0) (show List.Nodup (["name","leaking"]:List Str) from by decide) rfl (Or.inl rfl))) (fun _ _ _ _=>(zR2 (yP6 (yQ6 (Ù hr) (pv 0) (pv 1))))) (fun _ _ _ _=>(pv 0)))) Ä))))))),?_⟩
  have hkeys:∀kv∈rows,∃z,kv.1 = .inr z:=fun kv h=>(let ⟨z,e,_⟩:=TB.keys kv h;⟨z,e⟩);have lR:rows.length=C.length:=by rw[<- Ò,hC]
  intro p hp;have tp:=Same.upd (o:=.dK []) hp;have npr:p≠pr:=fun e=>by rw[e,hrw]at hp;cases hp
  have hr1:=tp _ _ hrw;have hp1:=Á (H:=H) (a:=p) (o:=.dK []);have TB1:=TB.same tp;generalize upd H p (.dK [])=H1 at *;refine⟨pr,_,hr1,rfl,?_⟩;refine⟨_,rfl,.inr (.inr (.inl ⟨rfl,.inl ⟨_,hr1⟩⟩)),pr,_,rfl,rfl,hr1,rfl,fun pv hpv=>?_⟩;have tv:=Same.upd (o:=Μ pv pr) hpv;refine⟨pv,pr,_,rfl,Á,tv _ _ hr1,rfl,fun o qs hqs=>?_⟩;have hqs:qs=rows.map fun kv=>(kV kv.1,kv.2):=hqs;subst hqs;have SB:=G.sub nC nL hCL;have hadp:∀z∈C,ad z≠p /\ ad z≠pr:=fun z hz=>by
   refine⟨fun e=>?_,TB.apart z hz⟩;obtain⟨_,_,kv,c,_⟩:=TB.row z hz;rw[e,hp]at c;cases c
  have adi:∀{H2:Hp},(∀c ob,H1 c=some ob->c≠p->c≠pr->H2 c=some ob)->∀z∈C,∃kvs,H2 (ad z)=some (.dK kvs) /\ RowAt H2 kvs (op (resC C R z)):=fun {H2} kp z hz=>by
   obtain⟨_,_,kvs,c,rr⟩:=TB1.row z hz;exact⟨kvs,kp _ _ c (hadp z hz).1 (hadp z hz).2,rr.same fun v r g=>g.tup fun a xs e=>kp a _ e (å e hp1 (by intro z;cases z)) (å e hr1 (by intro z;cases z))⟩
  have keyat:∀{i:Nat} {k' v:V},(rows.map fun kv=>(kV kv.1,kv.2))[i]?=some (k',v)->∃z,k' = .str z /\ v = .ref (ad z) /\ z∈C /\ C[i]?=some z:=fun {i k' v} hk=>by
   rw[Ĉ]at hk;cases q:rows[i]? with
   | none=>rw[q]at hk;cases hk
   | some kvi =>
    rw[q]at hk;obtain⟨rfl,rfl⟩:=Prod.mk.inj (Option.some.inj hk);obtain⟨z,hz,hzC⟩:=TB.keys kvi (Ċ q);refine⟨z,by rw[hz];rfl,?_,hzC,?_⟩
    ·have:=ů TB.nodup q;rw[hz,(TB.row z hzC).1]at this;exact(Option.some.inj this).symm
    ·rw[<- hC];unfold nms;rw[Ĉ,q];show some (nmz kvi.1)=_;rw[hz];rfl
  refine Ź (fun i σ H2=>∃(v2 v3:Option V) (S:List Str),σ=[some (.ref pr),some (.ref p),v2,v3,none] /\ H2 pr=some (.frz o (.dK rows)) /\ (∀c ob,H1 c=some ob->c≠p->c≠pr->H2 c=some ob) /\ H2 p=some (.dK (trK S)) /\ S.Nodup /\ ∀x,x∈S↔x∈C.take i /\ sumL C (R x)≠1) ?_ ?_ ?_ ?_
  ·refine⟨none,none,[],rfl,Á,fun c ob e _ n=>by rw[upd_ne n];exact tv _ _ e,by rw[upd_ne npr];exact tv _ _ hp1,List.nodup_nil,fun x=>by simp⟩
  ·rintro i σ H2 ⟨_,_,_,_,h,_⟩;exact h
  ·rintro i k' v T' σ H2 hk ⟨v2,v3,S,rfl,hfz,kp,h2,nS,mS⟩ hT;obtain⟨z,rfl,rfl,hzC,hiz⟩:=keyat hk;have tT:=Same.upd (o:=.tup [.str z,.ref (ad z)]) hT;refine⟨T',_,rfl,SqT.of Á,rfl,_,_,rfl,_,_,rfl,rfl,?_⟩;have kp3:∀c ob,H1 c=some ob->c≠p->c≠pr->upd H2 T' (.tup [.str z,.ref (ad z)]) c=some ob:=fun c ob e n1 n2=>tT _ _ (kp c ob e n1 n2);have hfz3:=tT _ _ hfz;have h3:=tT _ _ h2;generalize upd H2 T' (.tup [.str z,.ref (ad z)])=H3 at *;obtain⟨kvs,hrow,rr⟩:=adi kp3 z hzC;have hpz:∀y,IsM Dn 1 (resC C R z y):=fun y=>by
    unfold resC
    split
    ·exact G.part z (hCL z hzC) y
    ·exact IsM.zero _ _
   have lk:kvs.length<=5:=by
    rw[<- Ò];refine Č (Ö (L:=C) (â rr.nodup rr.keys) fun y hy=>?_) c5;have:=op_some.mp ((rr.iff y).mp hy)
    by_cases e:y∈C
    ·exact e
    ·unfold resC at this;rw[if_neg e]at this;exact absurd rfl this
   refine⟨_,rfl,.inr (.inr (.inl ⟨rfl,.inl ⟨_,hrow⟩⟩)),ad z,_,rfl,rfl,hrow,rfl,fun pv2 hpv2=>?_⟩;have tw:=Same.upd (o:=yJ2 pv2 (ad z)) hpv2;refine⟨pv2,ad z,_,rfl,Á,tw _ _ hrow,rfl,fun qs hqs l hl=>?_⟩;have hqs:qs=kvs.map fun kv=>(kV kv.1,kv.2):=hqs;have eqs:qs.map (·.2)=kvs.map (·.2):=by rw[hqs,Ś];rfl
   rw[eqs];have tl:=tw.trans (Same.upd (o:=.lst (kvs.map (·.2))) hl);refine⟨l,kvs.map (·.2),(nms kvs).map (resC C R z),rfl,SqL.of Á,Paired.mapP rr.vals (fun _ _ g=>g.same tl),fun r hr=>?_,fun j hj=>?_,fun u4 H4 s4 f4=>?_⟩
   ·obtain⟨y,_,rfl⟩:=Ė.mp hr;exact((hpz y).bd (n:=2600) D0 (ą _) (by lia)).mono (by decide)
   ·rw[<- List.map_take];have:=(zQ1 hpz ((nms kvs).take j)).mono (j:=8) (by rw[ċ,Ò];lia);exact(this.bd D0 (by decide) DB).mono (by decide)
   have es:sumQ ((nms kvs).map (resC C R z))=sumL C (R z):=by
    show sumL (nms kvs) (resC C R z)=_;rw[yO8 nC rr (g:=resC C R z) fun y hy e=>by unfold resC;rw[if_pos hy];exact e];exact Û fun y hy=>by unfold resC;rw[if_pos hy]
   rw[es]at f4;have s34:=tl.trans s4;refine⟨sz (by simp),fun p0 hp0=>?_⟩;have t0:=Same.upd (o:=.tup [.int 1,.int 1]) hp0;refine⟨_,_,(f4.same t0).rep,ν (SqT.of Á),Ż _ _,_,rfl,?_⟩;rw[eq11];have s35:=s34.trans t0;have hiN:=Ø hiz;have hzt:=zN0 nC hiz;have hzS:z∉S:=fun h=>hzt ((mS z).mp h).1;refine ite2 (fun h=>?_) (fun h=>?_)
   ·have h:sumL C (R z)≠1:=fun e=>by rw[decide_eq_true e]at h;cases h
    have h5:=s35 _ _ h3;have lS:S.length<=5:=Č (Ö nS fun y hy=>List.mem_of_mem_take ((mS y).mp hy).1) c5;refine⟨_,rfl,_,rfl,p,_,rfl,DPut.k (k:=.inr z) h5 (sz (by rw[yM3];lia)),?_⟩;rw[yM2];refine⟨_,_,putS S z,rfl,by rw[upd_ne npr.symm];exact s35 _ _ hfz3,fun c ob e n1 n2=>by rw[upd_ne n1];exact s35 _ _ (kp3 c ob e n1 n2),Á,yP5 nS,fun y=>?_⟩;rw[mem_putS,mS,hiN,ĝ,ė]
    constructor
    ·rintro (⟨h1,h2⟩ | rfl)
     ·exact⟨.inl h1,h2⟩
     ·exact⟨.inr rfl,h⟩
    ·rintro⟨h1 | rfl,h2⟩
     ·exact .inl ⟨h1,h2⟩
     ·exact .inr rfl
   ·have h:sumL C (R z)=1:=by
     by_cases e:sumL C (R z)=1
     ·exact e
     ·exact absurd (by rw[decide_eq_false e];rfl) h
    refine⟨_,_,S,rfl,s35 _ _ hfz3,fun c ob e n1 n2=>s35 _ _ (kp3 c ob e n1 n2),s35 _ _ h3,nS,fun y=>?_⟩;rw[mS,hiN,ĝ,ė]
    constructor
    ·rintro⟨h1,h2⟩;exact⟨.inl h1,h2⟩
    ·rintro⟨h1 | rfl,h2⟩
     ·exact⟨h1,h2⟩
     ·exact absurd h h2
  ·rintro σ H2 ⟨v2,v3,S,rfl,hfz,kp,h2,nS,mS⟩;rw[ā,lR,đ]at mS;have lk0:LkS C R S:=⟨nS,fun x hx=>.now ((mS x).mp hx).1 ((mS x).mp hx).2,fun x hx hn=>(mS x).mpr ⟨hx,hn⟩⟩;refine⟨o,.dK rows,hfz,?_⟩;have hr3:=Á (H:=H2) (a:=pr) (o:=.dK rows);have kp3:∀c ob,H1 c=some ob->c≠p->c≠pr->upd H2 pr (.dK rows) c=some ob:=fun c ob e n1 n2=>by rw[upd_ne n2];exact kp c ob e n1 n2
   have h3:upd H2 pr (.dK rows) p=some (.dK (trK S)):=by rw[upd_ne npr];exact h2
   generalize upd H2 pr (.dK rows)=H3 at *;refine⟨_,rfl,pr,_,rfl,hr3,?_⟩;refine⟨_,rfl,by lia,by lia,?_⟩;refine Δ (fun q σ H4=>∃(v2 v3 v4:Option V) (S:List Str),σ=[some (.ref pr),some (.ref p),v2,v3,v4] /\ H4 pr=some (.dK rows) /\ (∀c ob,H1 c=some ob->c≠p->c≠pr->H4 c=some ob) /\ H4 p=some (.dK (trK S)) /\ LkS C R S /\ (ω C R S \/ q<=S.length)) ⟨_,_,_,S,rfl,hr3,kp3,h3,lk0,.inr (Ħ _)⟩ ?_ ?_
   ·rintro q σ H4 hq ⟨v2,v3,v4,S,rfl,hr4,kp4,h4,lkS,hfull⟩;refine⟨pr,_,hr4,rfl,?_⟩;refine⟨_,rfl,.inr (.inr (.inl ⟨rfl,.inl ⟨_,hr4⟩⟩)),pr,_,rfl,rfl,hr4,rfl,fun pv hpv=>?_⟩;have tv:=Same.upd (o:=Μ pv pr) hpv;refine⟨pv,pr,_,rfl,Á,tv _ _ hr4,rfl,fun o qs hqs=>?_⟩;have hqs:qs=rows.map fun kv=>(kV kv.1,kv.2):=hqs;subst hqs;refine Ź (fun i σ H5=>∃(v2 v3:Option V) (S':List Str),σ=[some (.ref pr),some (.ref p),v2,v3,some (.int (0+(q:Int)))] /\ H5 pr=some (.frz o (.dK rows)) /\ (∀c ob,H1 c=some ob->c≠p->c≠pr->H5 c=some ob) /\ H5 p=some (.dK (trK S')) /\ LkS C R S' /\ Swp C R S i S') ?_ ?_ ?_ ?_
    ·exact⟨_,_,S,rfl,Á,fun c ob e n1 n2=>by rw[upd_ne n2];exact tv _ _ (kp4 c ob e n1 n2),by rw[upd_ne npr];exact tv _ _ h4,lkS,Swp.start C R S⟩
    ·rintro i σ H5 ⟨_,_,_,_,h,_⟩;exact h
    ·rintro i k' v T' σ H5 hk ⟨v2,v3,S',rfl,hfz,kp5,h5,lkS',sw⟩ hT;obtain⟨z,rfl,rfl,hzC,hiz⟩:=keyat hk;have tT:=Same.upd (o:=.tup [.str z,.ref (ad z)]) hT;refine⟨T',_,rfl,SqT.of Á,rfl,_,_,rfl,_,_,rfl,rfl,?_⟩;have kp6:∀c ob,H1 c=some ob->c≠p->c≠pr->upd H5 T' (.tup [.str z,.ref (ad z)]) c=some ob:=fun c ob e n1 n2=>tT _ _ (kp5 c ob e n1 n2);have hfz6:=tT _ _ hfz;have h6:=tT _ _ h5;generalize upd H5 T' (.tup [.str z,.ref (ad z)])=H6 at *;obtain⟨kvs,hrow,rr⟩:=adi kp6 z hzC;refine⟨ad z,_,hrow,rfl,?_⟩;refine⟨_,rfl,ad z,_,rfl,hrow,rfl,fun o2 qs2 hqs2=>fun Dq hDq=>?_⟩;have hqs2:qs2=kvs.map fun kv=>(kV kv.1,kv.2):=hqs2;subst hqs2;have nDa:Dq≠ad z:=fun e=>by rw[e,Á]at hDq;cases hDq
     have hD0:H6 Dq=none:=by rw[upd_ne nDa]at hDq;exact hDq
     have nap:=(hadp z hzC).1;refine zP7 (fun j σ' H'=>∃(v:Option V),σ'=[v,some (.ref p)] /\ H' (ad z)=some (.frz o2 (.dK kvs)) /\ (∀c ob,H6 c=some ob->c≠ad z->H' c=some ob) /\ H' Dq=some (.lst (((nms (kvs.take j)).map fun y=>decide (y∈S')).map V.bl))) ⟨none,rfl,by rw[upd_ne nDa.symm,Á],fun c ob e n=>by rw[upd_ne (Æ e hD0),upd_ne n];exact e,Á⟩ ?_ ?_ ?_
     ·rintro j σ' H' ⟨_,_,h,_⟩;exact h
     ·rintro j k' w' σ' H' hk ⟨v,rfl,hfa,keep,hd⟩;obtain⟨kvi,hki,ek⟩:=Κ hk;obtain⟨y,r,hz,hg,fr,_,hnms⟩:=rr.at hki;obtain⟨rfl,rfl⟩:=Prod.mk.inj ek;obtain⟨k0,w0⟩:=kvi;have hz:k0 = .inr y:=hz;subst hz;have lj:(nms (kvs.take j)).length<=8:=by
       rw[Ò,ċ];have:kvs.length<=5:=by
        rw[<- Ò];refine Č (Ö (L:=C) (â rr.nodup rr.keys) fun y hy=>?_) c5;have:=op_some.mp ((rr.iff y).mp hy)
        by_cases e:y∈C
        ·exact e
        ·unfold resC at this;rw[if_neg e]at this;exact absurd rfl this
       lia
      have hpH:=keep _ _ h6 nap.symm;have eb:(valV (trK S') (.inr y)).isSome=decide (y∈S'):=by
       rw[zQ0]
       by_cases q:y∈S'
       ·rw[if_pos q,decide_eq_true q];rfl
       ·rw[if_neg q,decide_eq_false q];rfl
      refine⟨_,rfl,_,rfl,p,_,rfl,DGet.k (k:=.inr y) hpH,?_⟩;refine⟨_,hd,sz (by rw[ā,ā];lia),_,rfl,by rw[upd_ne (å hfa hd (by intro z;cases z))];exact hfa,fun c ob e n=>by rw[upd_ne (Æ e hD0)];exact keep c ob e n,?_⟩;rw[Á,hnms,Đ,Đ,eb];rfl
     ·rintro σ' H' ⟨v,rfl,hfa,keep,hd⟩;rw[ā,đ]at hd;refine⟨o2,_,hfa,?_⟩;have kp7:∀c ob,H6 c=some ob->upd H' (ad z) (.dK kvs) c=some ob:=fun c ob e=>by
       by_cases q:c=ad z
       ·subst q;rw[hrow]at e;rw[Á];exact e
       ·rw[upd_ne q];exact keep c ob e q
      have hd2:upd H' (ad z) (.dK kvs) Dq=some (.lst (((nms kvs).map fun y=>decide (y∈S')).map V.bl)):=by rw[upd_ne nDa];exact hd
      generalize upd H' (ad z) (.dK kvs)=H7 at *;refine⟨Dq,_,rfl,SqL.of hd2,_,rfl,?_⟩;have hb:((nms kvs).map fun y=>decide (y∈S')).any id=true↔∃y∈S',R z y≠0:=by
       rw[List.any_map,List.any_eq_true]
       constructor
       ·rintro⟨y,hy,h⟩;have hyS:y∈S':=by simpa using h
        refine⟨y,hyS,?_⟩;have:=op_some.mp ((rr.iff y).mp hy);unfold resC at this;rw[if_pos (lkS'.lk y hyS).mem]at this;exact this
       ·rintro⟨y,hy,h⟩;refine⟨y,(rr.iff y).mpr (op_some.mpr ?_),by simpa using hy⟩;unfold resC;rw[if_pos (lkS'.lk y hy).mem];exact h
      have sw2:=sw.step hiz _ hb;refine ite2 (fun h=>?_) (fun h=>?_)
      ·rw[if_pos h]at sw2;obtain⟨y,hy,hry⟩:=hb.mp h;have lk2:=lkS'.put hzC hy hry;have h7:=kp7 _ _ h6;have lS:S'.length<=5:=Č (Ö lkS'.nd fun y hy=>(lkS'.lk y hy).mem) c5;refine⟨_,rfl,_,rfl,p,_,rfl,DPut.k (k:=.inr z) h7 (sz (by rw[yM3];lia)),?_⟩;rw[yM2];exact⟨_,_,putS S' z,rfl,by rw[upd_ne npr.symm];exact kp7 _ _ hfz6,fun c ob e n1 n2=>by rw[upd_ne n1];exact kp7 _ _ (kp6 c ob e n1 n2),Á,lk2,sw2⟩
      ·rw[if_neg h]at sw2;exact⟨_,_,S',rfl,kp7 _ _ hfz6,fun c ob e n1 n2=>kp7 _ _ (kp6 c ob e n1 n2),kp7 _ _ h6,lkS',sw2⟩
    ·rintro σ H5 ⟨v2,v3,S',rfl,hfz,kp5,h5,lkS',sw⟩;rw[ā,lR]at sw;refine⟨o,.dK rows,hfz,?_⟩;exact⟨_,_,_,S',rfl,Á,fun c ob e n1 n2=>by rw[upd_ne n2];exact kp5 c ob e n1 n2,by rw[upd_ne npr];exact h5,lkS',sw.stop lkS' hfull⟩
   ·rintro σ H4 ⟨v2,v3,v4,S,rfl,hr4,kp4,h4,lkS,hfull⟩;have hfull:ω C R S:=by
     rcases hfull with h | h
     ·exact h
     ·have h:((rows.length:Nat):Int).toNat<=S.length:=h;exact lkS.full (by rw[<- lR];simpa using h)
    refine⟨pr,_,hr4,rfl,?_⟩;refine⟨_,rfl,pr,_,rfl,hr4,rfl,fun o2 qs2 hqs2=>fun Dq hDq=>?_⟩;have hqs2:qs2=rows.map fun kv=>(kV kv.1,kv.2):=hqs2;subst hqs2;have nDa:Dq≠pr:=fun e=>by rw[e,Á]at hDq;cases hDq
    have hD0:H4 Dq=none:=by rw[upd_ne nDa]at hDq;exact hDq
    refine zP7 (fun j σ' H'=>∃(v:Option V),σ'=[v,some (.ref p)] /\ H' pr=some (.frz o2 (.dK rows)) /\ (∀c ob,H4 c=some ob->c≠pr->H' c=some ob) /\ H' Dq=some (.lst (((C.take j).filter fun y=>!decide (y∈S)).map V.str))) ⟨none,rfl,by rw[upd_ne nDa.symm,Á],fun c ob e n=>by rw[upd_ne (Æ e hD0),upd_ne n];exact e,Á⟩ ?_ ?_ ?_
    ·rintro j σ' H' ⟨_,_,h,_⟩;exact h
    ·rintro j k' w' σ' H' hk ⟨v,rfl,hfa,keep,hd⟩;obtain⟨z,rfl,rfl,hzC,hiz⟩:=keyat hk;have hpH:=keep _ _ h4 npr;have eb:(!(valV (trK S) (.inr z)).isSome)=!decide (z∈S):=by
      rw[zQ0]
      by_cases q:z∈S
      ·rw[if_pos q,decide_eq_true q];rfl
      ·rw[if_neg q,decide_eq_false q];rfl
     have et:=Ø hiz;have lf:((C.take j).filter fun y=>!decide (y∈S)).length<=8:=by
      refine Č (š _ _) ?_;rw[ċ];lia
     refine⟨_,rfl,_,rfl,p,_,rfl,DGet.k (k:=.inr z) hpH,_,rfl,?_⟩;rw[eb];refine ite2 (fun h=>?_) (fun h=>?_)
     ·refine⟨_,rfl,_,hd,sz (by rw[ā];lia),_,rfl,by rw[upd_ne (å hfa hd (by intro z;cases z))];exact hfa,fun c ob e n=>by rw[upd_ne (Æ e hD0)];exact keep c ob e n,?_⟩;rw[Á,et,Ķ,Đ];simp only[List.filter_cons,List.filter_nil,if_pos h]
      rfl
     ·refine⟨_,rfl,hfa,keep,?_⟩;rw[hd,et,Ķ];simp only[List.filter_cons,List.filter_nil,if_neg h,ļ]
    ·rintro σ' H' ⟨v,rfl,hfa,keep,hd⟩;rw[ā,lR,đ]at hd;refine⟨o2,_,hfa,?_⟩;have hd2:upd H' pr (.dK rows) Dq=some (.lst ((C.filter fun y=>!decide (y∈S)).map V.str)):=by rw[upd_ne nDa];exact hd
     have lf:(C.filter fun y=>!decide (y∈S)).length<=8:=by
      refine Č (š _ _) ?_;lia
     have hS0:Same H (upd H' pr (.dK rows)):=fun c ob e=>by
      have ncp:c≠p:=Æ e hp
      by_cases q:c=pr
      ·subst q;rw[hrw]at e;rw[Á];exact e
      ·rw[upd_ne q];exact keep c ob (kp4 c ob (tp c ob e) ncp q) q
     refine⟨Dq,_,rfl,SqL.of hd2,by lia,fun ss' hpm hst l hl=>?_⟩;refine k l _ ss' (hS0.free hl) (hS0.trans (Same.upd hl)) Á (hpm.nodup_iff.mpr (nC.filter _)) (fun x=>?_) hst;rw[hpm.mem_iff,ĸ]
     constructor
     ·rintro⟨h1,h2⟩;refine⟨h1,fun hl=>?_⟩;rw[decide_eq_true (hfull x hl)]at h2;cases h2
     ·rintro⟨h1,h2⟩;refine⟨h1,?_⟩;rw[decide_eq_false fun h=>h2 (lkS.lk x h)];rfl
noncomputable abbrev zH5:Stmt:=top 32
theorem sc_nearness:Ë ["rows","staying","name","k","share","after","shares","part"] ["rows"] (Ç zH5):=scF
theorem yB7 {ca:Ca}(D:DefAt K mg "nearness" zH5)(T:Txt K mg ca)(G_sum_of:FnAt P w K mg base CX0 3 "sum_of" ["some"] (yA4 K))(G_times:FnAt P w K mg base CX0 2 "times" ["one","other"] (spTimes))(G_under:FnAt P w K mg base CX0 1 "under" ["one","other"] (zE4)):FnAt P w K mg base CX0 4 "nearness" ["rows"] (xC5):=by
 refine D.ok sc_nearness (fun vs H Q E h=>?_) (fun _ _ _ _ _ _ us hl=>match us,hl with | [_],_=>rfl) (fun f cdv A outer s H vs Q E hr h=>?_)
 all_goals obtain⟨pr,H0,rows,ad,C,L,R,Dn,rfl,hrw,TB,hC,nC,ne,c5,nL,hCL,G,D0,DB,hlk,k⟩:=h
 ·rfl
 ·have nd:=sc_nearness.nd;refine⟨_,(Â (É (i:=1) nd rfl (Or.inr rfl) ó)
   (Â (ú (Ú PassesOwn.never rfl (Ι (pv 0)) (È (i:=2) nd rfl (Or.inl rfl)) (Å (ã (Ù hr) (pv 1) (pv 2) (Ñ (À Ã (À Ã Ä))) rfl))))
   (Â (É (i:=3) nd rfl (Or.inl rfl) Ã)
   (Â (É (i:=4) nd rfl (Or.inl rfl) (Ñ (À Ã (À Ã Ä))))
   (Â (zK4 PassesOwn.never (Ô (zM5 (K:=K) rfl hr) (pv 4) (Ñ (À Ã (À Ã Ä))) (Ý _)) (Â (É (i:=5) nd rfl (Or.inl rfl) ó)
   (Â (ú (Ú PassesOwn.never rfl (ż (ź (K:=K) rfl PySem.F.plainAttrs_dict PySem.F.slot_dict_items PySem.F.type_dict_items Ž (pv 0))) (Η rfl (Ï (È (i:=2) nd rfl (Or.inl rfl)) (Ï (È (i:=6) nd rfl (Or.inl rfl)) ŭ))) (Å (ã (Ù hr) (pv 5) (pv 2) (pfn G_sum_of hr (À (yB1 (Λ ["end","part"] ["staying"] [1] rfl (by rfl) (ż (ź (K:=K) rfl PySem.F.plainAttrs_dict PySem.F.slot_dict_items PySem.F.type_dict_items Ž (pv 6))) (fun _ _ _ _=>(yQ3 (K:=K) (n:=2) (by rfl) (by rfl) (Ï (È (i:=0) (show List.Nodup (["end","part","staying"]:List Str) from by decide) rfl (Or.inl rfl) (hf:=Or.inr (by rfl))) (Ï (È (i:=1) (show List.Nodup (["end","part","staying"]:List Str) from by decide) rfl (Or.inl rfl) (hf:=Or.inr (by rfl))) ŭ)))) (fun _ _ _ _=>Θ) (fun _ _ _ _=>(pfn G_times hr (À (pv 1) (À (Õ (Ù hr) (pv 2) (pv 0) (fun _ _=>rfl)) Ä)))))) Ä)) rfl))))
   (Â (É (i:=1) nd rfl (Or.inr rfl) (pv 5))
   (Â (yP7 (i:=3) nd rfl (Or.inl rfl) Ã yT7)
   (Â (É (i:=4) nd rfl (Or.inl rfl) (Ñ (À Ã (À Ã Ä))))
   (Å (ú (Ú PassesOwn.never rfl (xG6 (ź (K:=K) rfl PySem.F.plainAttrs_dict PySem.F.slot_dict_values PySem.F.type_dict_values yS1 (pv 1))) (È (i:=7) nd rfl (Or.inl rfl)) (Å (É (i:=4) nd rfl (Or.inl rfl) (zK5 (Ψ (pfn G_under hr (À (pv 4) (À (pv 7) Ä)))) (pv 7) (pv 4)))))))))))))
   (Å (Î (Ñ (À (pv 3) (À (pv 4) Ä)))))))))),?_⟩
  have hkeys:∀kv∈rows,∃z,kv.1 = .inr z:=fun kv h=>(let ⟨z,e,_⟩:=TB.keys kv h;⟨z,e⟩);have lR:rows.length=C.length:=by rw[<- Ò,hC]
  have SB:=G.sub nC nL hCL;have hD5:∀q,q<=5->Dn^q<=2^2500:=fun q hq=>by
   have h1:Dn^q<=(2^500)^q:=Nat.pow_le_pow_left DB q;rw[<- Nat.pow_mul]at h1;exact Č h1 (ħ (by decide) (by lia))
  have stB:∀q,q<=5->∀x∈C,Bd 8000 (stay C R q x):=fun q hq x hx=>by
   refine((zQ2 G nC nL hCL q x hx).bd (n:=2501) (Nat.pow_pos D0) (ą _) ?_).mono (by decide);rw[Ŕ];exact ď (hD5 q hq) (ń (by decide) (by decide))
  have keyat:∀{i:Nat} {k' v:V},(rows.map fun kv=>(kV kv.1,kv.2))[i]?=some (k',v)->∃z,k' = .str z /\ v = .ref (ad z) /\ z∈C /\ C[i]?=some z:=fun {i k' v} hk=>by
   rw[Ĉ]at hk;cases q:rows[i]? with
   | none=>rw[q]at hk;cases hk
   | some kvi =>
    rw[q]at hk;obtain⟨rfl,rfl⟩:=Prod.mk.inj (Option.some.inj hk);obtain⟨z,hz,hzC⟩:=TB.keys kvi (Ċ q);refine⟨z,by rw[hz];rfl,?_,hzC,?_⟩
    ·have:=ů TB.nodup q;rw[hz,(TB.row z hzC).1]at this;exact(Option.some.inj this).symm
    ·rw[<- hC];unfold nms;rw[Ĉ,q];show some (nmz kvi.1)=_;rw[hz];rfl
  intro p hp;have tp:=Same.upd (o:=.dK []) hp;have npr:p≠pr:=fun e=>by rw[e,hrw]at hp;cases hp
  have hr1:=tp _ _ hrw;have hp1:=Á (H:=H) (a:=p) (o:=.dK []);generalize upd H p (.dK [])=H1 at *;refine⟨pr,_,hr1,rfl,?_⟩;refine⟨_,rfl,pr,_,rfl,hr1,rfl,fun o qs hqs=>?_⟩;have hqs:qs=rows.map fun kv=>(kV kv.1,kv.2):=hqs;subst hqs;have mono1:∀{H2:Hp},(∀c ob,H1 c=some ob->c≠p->c≠pr->H2 c=some ob)->H2 pr=some (.dK rows)->Same H H2:=fun {H2} kp h c ob e=>by
   have ncp:c≠p:=Æ e hp
   by_cases q:c=pr
   ·subst q;rw[hrw]at e;cases e;exact h
   ·exact kp c ob (tp c ob e) ncp q
  refine ž (fun i σ H2=>∃(v2:Option V) (kv:List (Key×V)),σ=[some (.ref pr),some (.ref p),v2,none,none,none,none,none] /\ H2 pr=some (.frz o (.dK rows)) /\ (∀c ob,H1 c=some ob->c≠p->c≠pr->H2 c=some ob) /\ H2 p=some (.dK kv) /\ RowAt H2 kv (all (C.take i) (stay C R 0)) /\ nms kv=C.take i) ?_ ?_ ?_ ?_
  ·refine⟨none,[],rfl,Á,fun c ob e _ n=>by rw[upd_ne n];exact e,by rw[upd_ne npr];exact hp1,?_,rfl⟩;rw[Ň,Τ];exact RowAt.nil _
  ·rintro i σ H2 ⟨_,_,_,h,_⟩;exact h
  ·rintro i k' v σ H2 hk ⟨v2,kv,rfl,hfz,kp,h2,row,hn⟩;obtain⟨z,rfl,rfl,hzC,hiz⟩:=keyat hk;have hil:i<C.length:=(Ą.mp hiz).1;have lk:kv.length<=8:=by rw[<- Ò,hn,ċ];lia
   refine⟨sz (by simp),fun p1 hp1'=>?_⟩;have t3:=Same.upd (o:=.tup [.int 1,.int 1]) hp1';have f0:=FrV.newOf (H:=H2) (p:=p1) (t:=1) (b:=1) (r:=1) rfl rfl;have row3:=row.same fun v r f=>f.same t3;have h3:=t3 _ _ h2;have hfz3:=t3 _ _ hfz;have kp3:∀c ob,H1 c=some ob->c≠p->c≠pr->upd H2 p1 (.tup [.int 1,.int 1]) c=some ob:=fun c ob e n1 n2=>t3 _ _ (kp c ob e n1 n2);generalize upd H2 p1 (.tup [.int 1,.int 1])=H3 at *;refine⟨_,rfl,_,rfl,p,_,rfl,DPut.k (k:=.inr z) h3 (sz (by lia)),?_⟩;have tu:=Ì (o:=.dK (putK kv (.inr z) (.ref p1))) h3 (fun _ z=>nomatch z);have et:=Ø hiz;refine⟨_,putK kv (.inr z) (.ref p1),rfl,by rw[upd_ne npr.symm];exact hfz3,fun c ob e n1 n2=>by rw[upd_ne n1];exact kp3 c ob e n1 n2,Á,?_,?_⟩
   ·rw[et,Α];exact(row3.put (z:=z) f0).same fun v r g=>g.tup tu
   ·rw[zM9 z _ row.keys,hn,et,zK3 (zN0 nC hiz)]
  rintro σ H2 ⟨v2,kv,rfl,hfz,kp,h2,row,hn⟩;rw[ā,lR,đ]at row hn;refine⟨o,.dK rows,hfz,?_⟩;have hr3:=Á (H:=H2) (a:=pr) (o:=.dK rows);have h3:upd H2 pr (.dK rows) p=some (.dK kv):=by rw[upd_ne npr];exact h2
  have s3:Same H (upd H2 pr (.dK rows)):=mono1 (fun c ob e n1 n2=>by rw[upd_ne n2];exact kp c ob e n1 n2) hr3;have row3:=row.same fun v r g=>g.tup (Ì (o:=.dK rows) hfz (fun _ z=>nomatch z));generalize upd H2 pr (.dK rows)=H3 at *;refine⟨sz (by simp),fun p0 hp0=>?_⟩;have t4:=Same.upd (o:=.tup [.int 1,.int 1]) hp0;have f0:=FrV.newOf (H:=H3) (p:=p0) (t:=1) (b:=1) (r:=1) rfl rfl;have row4:=row3.same fun v r g=>g.same t4;have h4:=t4 _ _ h3;have s4:=s3.trans t4;generalize upd H3 p0 (.tup [.int 1,.int 1])=H4 at *;obtain⟨x0,hx0⟩:∃x,x∈C:=by
   cases e:C with
   | nil=>exact absurd e ne
   | cons a l=>exact⟨a,Ć⟩
  refine zJ8 (fun σ H2=>∃(q:Nat) (pa:Addr) (kv:List (Key×V)) (f:V) (r:Rat) (v2 v5 v6 v7:Option V),σ=[some (.ref pr),some (.ref pa),v2,some (.int (q:Nat)),some f,v5,v6,v7] /\ Same H H2 /\ H pa=none /\ H2 pa=some (.dK kv) /\ RowAt H2 kv (all C (stay C R q)) /\ nms kv=C /\ FrV H2 f r /\ q<=C.length /\ (∀x∈C,stay C R q x<=r) /\ (∃x∈C,stay C R q x=r) /\ ∀j,j<q->∃x∈C,stay C R j x=1)
   (fun σ _=>match σ with | [_,_,_,some (.int q),_,_,_,_]=>C.length - q.toNat | _=>0) ⟨0,p,kv,.ref p0,1,_,_,_,_,rfl,s4,hp,h4,row4,hn,f0,Ħ _,(fun x _=>ŋ),⟨x0,hx0,rfl⟩,fun j hj=>absurd hj (Nat.not_lt_zero _)⟩ ?_ ?_
  ·rintro σ H2 ⟨q,pa,kv,f,r,v2,v5,v6,v7,rfl,s2,hpa,h2,row,hn,fr,hq,hle,hex,hall⟩;refine⟨_,rfl,sz (by simp),fun p1 hp1'=>?_⟩;have t1:=Same.upd (o:=.tup [.int 1,.int 1]) hp1';refine⟨_,_,(fr.same t1).rep,ν (SqT.of Á),Ż _ _,_,rfl,?_⟩;rw[eq11];have s21:=s2.trans t1;have h21:=t1 _ _ h2;have row1:=row.same fun v r g=>g.same t1;have fr1:=fr.same t1;generalize upd H2 p1 (.tup [.int 1,.int 1])=H5 at *;refine ite2 (fun h=>?_) (fun h=>?_)
   ·have h:r=1:=of_decide_eq_true h;subst h;have hqC:q<C.length:=by
     obtain⟨x,hx,e⟩:=hex
     by_cases u:q<C.length
     ·exact u
     ·have:=xF4 SB nC hlk (k:=q) (by lia) hx;rw[e]at this;exact absurd this (by decide)
    have hq5:q+1<=5:=by lia
    intro pb hpb;have tb:=Same.upd (o:=.dK []) hpb;have hb6:=Á (H:=H5) (a:=pb) (o:=.dK []);have s6:=s21.trans tb;have h6:=tb _ _ h21;have row6:=row1.same fun v r g=>g.same tb;have hpb0:=s21.free hpb;have nab:pa≠pb:=Æ h21 hpb;generalize upd H5 pb (.dK [])=H6 at *;have hr6:=s6 _ _ hrw;have nbr:pb≠pr:=fun e=>by rw[e,hrw]at hpb0;cases hpb0
    have nar:pa≠pr:=fun e=>by rw[e,hrw]at hpa;cases hpa
    have TB6:=TB.same s6;refine⟨pr,_,hr6,rfl,?_⟩;refine⟨_,rfl,.inr (.inr (.inl ⟨rfl,.inl ⟨_,hr6⟩⟩)),pr,_,rfl,rfl,hr6,rfl,fun pv hpv=>?_⟩;have tv:=Same.upd (o:=Μ pv pr) hpv;refine⟨pv,pr,_,rfl,Á,tv _ _ hr6,rfl,fun o qs hqs=>?_⟩;have hqs:qs=rows.map fun kv=>(kV kv.1,kv.2):=hqs;subst hqs;have hadp:∀z∈C,ad z≠pb /\ ad z≠pr:=fun z hz=>by
     refine⟨fun e=>?_,TB.apart z hz⟩;obtain⟨_,_,kv,c,_⟩:=TB.row z hz;rw[e,hpb0]at c;cases c
    refine Ź (fun i σ H7=>∃(v2 v6:Option V) (kva:List (Key×V)),σ=[some (.ref pr),some (.ref pa),v2,some (.int (q:Nat)),some f,some (.ref pb),v6,v7] /\ H7 pr=some (.frz o (.dK rows)) /\ (∀c ob,H6 c=some ob->c≠pb->c≠pr->H7 c=some ob) /\ H7 pb=some (.dK kva) /\ RowAt H7 kva (all (C.take i) (stay C R (q+1))) /\ nms kva=C.take i) ?_ ?_ ?_ ?_
    ·refine⟨_,_,[],rfl,Á,fun c ob e _ n=>by rw[upd_ne n];exact tv _ _ e,by rw[upd_ne nbr];exact tv _ _ hb6,?_,rfl⟩;rw[Ň,Τ];exact RowAt.nil _
    ·rintro i σ H7 ⟨_,_,_,_,h,_⟩;exact h
    ·rintro i k' v T' σ H7 hk ⟨v2,v6,kva,rfl,hfz,kp,h7,row7,hn7⟩ hT;obtain⟨z,rfl,rfl,hzC,hiz⟩:=keyat hk;have hil:i<C.length:=(Ą.mp hiz).1;have tT:=Same.upd (o:=.tup [.str z,.ref (ad z)]) hT;refine⟨T',_,rfl,SqT.of Á,rfl,_,_,rfl,_,_,rfl,rfl,?_⟩;have kp8:∀c ob,H6 c=some ob->c≠pb->c≠pr->upd H7 T' (.tup [.str z,.ref (ad z)]) c=some ob:=fun c ob e n1 n2=>tT _ _ (kp c ob e n1 n2);have hfz8:=tT _ _ hfz;have h8:=tT _ _ h7;have row8:=row7.same fun v r g=>g.same tT;generalize upd H7 T' (.tup [.str z,.ref (ad z)])=H8 at *;have kT:∀c m,H6 c=some (.tup m)->H8 c=some (.tup m):=fun c m e=>kp8 c _ e (å e hb6 (by intro z;cases z)) (å e hr6 (by intro z;cases z));obtain⟨_,_,kvs,hrow6,rr6⟩:=TB6.row z hzC;have hrow:=kp8 _ _ hrow6 (hadp z hzC).1 (hadp z hzC).2;have rr:=rr6.same fun v r g=>g.tup kT;have hst8:=kp8 _ _ h6 nab nar;have rst8:=row6.same fun v r g=>g.tup kT;let gz:Str->Rat:=fun y=>if y∈C then R z y*stay C R q y else 0;have gI:∀y,IsM (Dn^(q+1)) 1 (gz y):=fun y=>by
      show IsM _ _ (if y∈C then _ else _)
      split
      ·rename_i hy;have:=(G.part z (hCL z hzC) y).mul (zQ2 G nC nL hCL q y hy);rw[Ŏ,<- ģ]at this;exact this
      ·exact IsM.zero _ _
     have nsub:∀y∈nms kvs,y∈C:=fun y hy=>by
      have:=op_some.mp ((rr.iff y).mp hy)
      by_cases e:y∈C
      ·exact e
      ·unfold resC at this;rw[if_neg e]at this;exact absurd rfl this
     have lkv:kvs.length<=5:=by
      rw[<- Ò];exact Č (Ö (L:=C) (â rr.nodup rr.keys) nsub) c5
     refine⟨ad z,_,hrow,rfl,?_⟩;refine⟨_,rfl,.inr (.inr (.inl ⟨rfl,.inl ⟨_,hrow⟩⟩)),ad z,_,rfl,rfl,hrow,rfl,fun pw hpw=>?_⟩;have tw:=Same.upd (o:=Μ pw (ad z)) hpw;refine⟨pw,ad z,_,rfl,Á,tw _ _ hrow,rfl,fun o2 qs2 hqs2=>fun Dq hDq=>?_⟩;have hqs2:qs2=kvs.map fun kv=>(kV kv.1,kv.2):=hqs2;subst hqs2;have nDa:Dq≠ad z:=fun e=>by rw[e,Á]at hDq;cases hDq
     have hD9:upd H8 pw (Μ pw (ad z)) Dq=none:=by rw[upd_ne nDa]at hDq;exact hDq
     have hD0:H8 Dq=none:=tw.free hD9;refine yD9 (fun j σ' H'=>∃(v0 v1:Option V) (ws:List V),σ'=[v0,v1,some (.ref pa)] /\ H' (ad z)=some (.frz o2 (.dK kvs)) /\ (∀c ob,H8 c=some ob->c≠ad z->H' c=some ob) /\ H' Dq=some (.lst ws) /\ Paired (FrV H') ws ((nms (kvs.take j)).map gz)) ⟨none,none,[],rfl,by rw[upd_ne nDa.symm,Á],fun c ob e n=>by rw[upd_ne (Æ e hD0),upd_ne n];exact tw _ _ e,Á,.nil⟩ ?_ ?_ ?_
     ·rintro j σ' H' ⟨_,_,_,_,h,_⟩;exact h
     ·rintro j k' w' T2 σ' H' hk ⟨v0,v1,ws,rfl,hfa,keep,hd,hW⟩ hT2;obtain⟨kvi,hki,ek⟩:=Κ hk;obtain⟨y,r,hz,hg,fy,_,hnms⟩:=rr.at hki;obtain⟨rfl,rfl⟩:=Prod.mk.inj ek;obtain⟨k0,w0⟩:=kvi;have hz:k0 = .inr y:=hz;subst hz;have hyC:y∈C:=by
       by_cases e:y∈C
       ·exact e
       ·have:=(yB3 hg).1;unfold resC at this;rw[if_neg e]at this;exact absurd this.symm (yB3 hg).2
      have er:R z y=r:=by
       have:=(yB3 hg).1;unfold resC at this;rw[if_pos hyC]at this;exact this
      have kT2:∀c m,H8 c=some (.tup m)->H' c=some (.tup m):=fun c m e=>keep c _ e (å e hrow (by intro z;cases z));have tT2:=Same.upd (o:=.tup [V.str y,w0]) hT2;have lj:ws.length<=8:=by rw[hW.length,ā,Ò,ċ];lia
      have nst:pa≠ad z:=fun e=>by
       obtain⟨_,_,kv,c,_⟩:=TB.row z hzC;rw[<- e,hpa]at c;cases c
      have hst:=keep _ _ hst8 nst;obtain⟨wv,ew,fw⟩:=(rst8.same fun v r g=>g.tup kT2).has y (stay C R q y) (by unfold all;rw[if_pos hyC]);refine⟨T2,_,rfl,SqT.of Á,rfl,_,_,rfl,_,_,rfl,rfl,?_⟩;have bR:Bd 8000 (R z y):=by
       refine((G.part z (hCL z hzC) y).bd (n:=501) D0 (ą _) ?_).mono (by decide);rw[Ŕ];exact ď DB (ń (by decide) (by decide))
      refine⟨_,rfl,_,rfl,_,rfl,pa,wv,rfl,?_,spTimes.of (E:=E0) rfl ((fy.tup kT2).same tT2) (fw.same tT2) (by rw[<- er];exact bR) (stB q (by lia) y hyC) fun u3 H3' s3' f3=>?_⟩
      ·have g:=DGet.k (k:=.inr y) (tT2 _ _ hst);rw[ew]at g;exact g
      have s23:=tT2.trans s3';have hd3:=s23 _ _ hd;have hfa3:=s23 _ _ hfa;refine⟨_,hd3,sz (by lia),_,_,ws++[u3],rfl,by rw[upd_ne (å hfa3 hd3 (by intro z;cases z))];exact hfa3,fun c ob e n=>by rw[upd_ne (Æ e hD0)];exact s23 _ _ (keep c ob e n),Á,?_⟩;rw[hnms,Đ];have tu:=Ì (o:=.lst (ws++[u3])) hd3 (fun _ z=>nomatch z);refine Paired.snoc (Paired.mapP hW fun _ _ f=>(f.same s23).tup tu) ?_;have eg:gz y=r*stay C R q y:=by show (if y∈C then _ else _)=_;rw[if_pos hyC,er]
      rw[eg];exact f3.tup tu
     ·rintro σ' H' ⟨v0,v1,ws,rfl,hfa,keep,hd,hW⟩;rw[ā,đ]at hW;refine⟨o2,_,hfa,?_⟩;have kp9:∀c ob,H8 c=some ob->upd H' (ad z) (.dK kvs) c=some ob:=fun c ob e=>by
       by_cases u:c=ad z
       ·subst u;rw[hrow]at e;rw[Á];exact e
       ·rw[upd_ne u];exact keep c ob e u
      have hd2:upd H' (ad z) (.dK kvs) Dq=some (.lst ws):=by rw[upd_ne nDa];exact hd
      have hW2:=Paired.mapP hW fun _ _ (g:FrV H' _ _)=>g.tup (Ì (o:=.dK kvs) hfa (fun _ z=>nomatch z));generalize upd H' (ad z) (.dK kvs)=H9 at *;have gB:∀y,Bd 8000 (gz y):=fun y=>by
       refine((gI y).bd (n:=2501) (Nat.pow_pos D0) (ą _) ?_).mono (by decide);rw[Ŕ];exact ď (hD5 _ hq5) (ń (by decide) (by decide))
      refine⟨Dq,ws,(nms kvs).map gz,rfl,SqL.of hd2,hW2,fun r hr=>?_,fun j hj=>?_,fun u4 H10 s10 f10=>?_⟩
      ·obtain⟨y,_,rfl⟩:=Ė.mp hr;exact gB y
      ·rw[<- List.map_take];have:=(zQ1 gI ((nms kvs).take j)).mono (j:=8) (by rw[ċ,Ò];lia);refine(this.bd (n:=2510) (Nat.pow_pos D0) (by decide) ?_).mono (by decide);have h1:8*Dn^(q+1)<=2^3*2^2500:=Ġ (by decide) (hD5 _ hq5);rw[<- ī]at h1;exact ď h1 (ń (by decide) (by decide))
      have es:sumQ ((nms kvs).map gz)=stay C R (q+1) z:=by
       show sumL (nms kvs) gz=sumL C _;rw[yO8 nC rr (g:=gz) fun y hy e=>by show (if y∈C then _ else _)=_;rw[if_pos hy,e,ň]];exact Û fun y hy=>by show (if y∈C then _ else _)=_;rw[if_pos hy]
      rw[es]at f10;have h10:=s10 _ _ (kp9 _ _ h8);have lka:kva.length<=8:=by rw[<- Ò,hn7,ċ];lia
      refine⟨_,rfl,_,rfl,pb,_,rfl,DPut.k (k:=.inr z) h10 (sz (by lia)),?_⟩;have tu:=Ì (o:=.dK (putK kva (.inr z) u4)) h10 (fun _ z=>nomatch z);have et:=Ø hiz;refine⟨_,_,putK kva (.inr z) u4,rfl,by rw[upd_ne nbr.symm];exact s10 _ _ (kp9 _ _ hfz8),fun c ob e n1 n2=>by rw[upd_ne n1];exact s10 _ _ (kp9 _ _ (kp8 c ob e n1 n2)),Á,?_,?_⟩
      ·rw[et,Α];exact((row8.same fun v r g=>(g.same (fun c ob e=>kp9 c ob e)).same s10).put (z:=z) f10).same fun v r g=>g.tup tu
      ·rw[zM9 z _ row7.keys,hn7,et,zK3 (zN0 nC hiz)]
    ·rintro σ H7 ⟨v2,v6,kva,rfl,hfz,kp,h7,row7,hn7⟩;rw[ā,lR,đ]at row7 hn7;refine⟨o,.dK rows,hfz,?_⟩;have s8:Same H (upd H7 pr (.dK rows)):=fun c ob e=>by
      have ncp:c≠pb:=Æ e hpb0
      by_cases u:c=pr
      ·subst u;rw[hrw]at e;cases e;rw[Á]
      ·rw[upd_ne u];exact kp c ob (s6 c ob e) ncp u
     have h8:upd H7 pr (.dK rows) pb=some (.dK kva):=by rw[upd_ne nbr];exact h7
     have row8:=row7.same fun v r g=>g.tup (Ì (o:=.dK rows) hfz (fun _ z=>nomatch z));generalize upd H7 pr (.dK rows)=H8 at *;refine⟨_,rfl,?_⟩;refine⟨_,rfl,_,_,rfl,rfl,?_⟩;refine⟨sz (by simp),fun p9 hp9=>?_⟩;have t9:=Same.upd (o:=.tup [.int 0,.int 1]) hp9;have f9:=FrV.newOf (H:=H8) (p:=p9) (t:=0) (b:=1) (r:=0) rfl rfl;have s9:=s8.trans t9;have h9:=t9 _ _ h8;have row9:=row8.same fun v r g=>g.same t9;generalize upd H8 p9 (.tup [.int 0,.int 1])=H9 at *;refine⟨pb,_,h9,rfl,?_⟩;refine⟨_,rfl,.inr (.inr (.inl ⟨rfl,.inl ⟨_,h9⟩⟩)),pb,_,rfl,rfl,h9,rfl,fun pw hpw=>?_⟩;have tw:=Same.upd (o:=yJ2 pw pb) hpw;refine⟨pw,pb,_,rfl,Á,tw _ _ h9,rfl,fun o2 qs2 hqs2=>?_⟩;have hqs2:qs2=kva.map fun kv=>(kV kv.1,kv.2):=hqs2;subst hqs2;have tuw:=Ì (o:=.frz o2 (.dK kva)) (tw _ _ h9) (fun _ z=>nomatch z);refine xA5 (fun i σ H10=>∃(f:V) (r:Rat) (v7:Option V),σ=[some (.ref pr),some (.ref pb),v2,some (.int ((q:Int)+1)),some f,some (.ref pb),v6,v7] /\ H10 pb=some (.frz o2 (.dK kva)) /\ (∀c ob,H9 c=some ob->c≠pb->H10 c=some ob) /\ FrV H10 f r /\ Bd 8000 r /\ 0<=r /\ (∀x∈C.take i,stay C R (q+1) x<=r) /\ (r=0 \/ ∃x∈C,stay C R (q+1) x=r)) ?_ ?_ ?_ ?_
     ·exact⟨_,0,_,rfl,Á,fun c ob e n=>by rw[upd_ne n];exact tw _ _ e,(f9.same tw).tup tuw,⟨Nat.two_pow_pos _,ŝ (by decide)⟩,ŋ,fun x hx=>by simp at hx,.inl rfl⟩
     ·rintro i σ H10 ⟨_,_,_,_,h,_⟩;exact h
     ·rintro i k' w' σ H10 hk ⟨f,r,v7,rfl,hfz2,kp2,fr2,br,r0,hle2,hex2⟩;obtain⟨kvi,hki,ek⟩:=Κ hk;obtain⟨y,s0,hz,hg,fy,_,_⟩:=row9.at hki;obtain⟨rfl,rfl⟩:=Prod.mk.inj ek;have hyC:y∈C /\ s0=stay C R (q+1) y:=by
       unfold all at hg
       split at hg
       ·rename_i hy;exact⟨hy,(Option.some.inj hg).symm⟩
       ·cases hg
      obtain⟨hyC,rfl⟩:=hyC;have hCi:C[i]?=some y:=by
       rw[<- hn7];unfold nms;rw[Ĉ,hki];show some (nmz kvi.1)=_;rw[hz];rfl
      have et:=Ø hCi;have fy2:=fy.tup fun c m e=>kp2 c _ e (å e h9 (by intro z;cases z));have bs:=stB (q+1) hq5 y hyC;refine⟨_,rfl,_,rfl,_,_,r,_,rfl,fr2,fy2,br,bs,_,rfl,?_⟩;refine ite2 (fun h=>?_) (fun h=>?_)
      ·have h:r<stay C R (q+1) y:=of_decide_eq_true h;refine⟨_,rfl,_,_,_,rfl,hfz2,kp2,fy2,bs,by grind,fun x hx=>?_,.inr ⟨y,hyC,rfl⟩⟩;rw[et]at hx;rcases ĝ.mp hx with e | e
       ·have:=hle2 x e;grind
       ·rw[ė.mp e];exact ŋ
      ·have h:¬r<stay C R (q+1) y:=fun e=>h (decide_eq_true e);refine⟨_,rfl,_,r,_,rfl,hfz2,kp2,fr2,br,r0,fun x hx=>?_,hex2⟩;rw[et]at hx;rcases ĝ.mp hx with e | e
       ·exact hle2 x e
       ·rw[ė.mp e];grind
     ·rintro σ H10 ⟨f,r,v7,rfl,hfz2,kp2,fr2,br,r0,hle2,hex2⟩;have lka:kva.length=C.length:=by rw[<- Ò,hn7]
      rw[ā,lka,đ]at hle2;refine⟨o2,.dK kva,hfz2,?_⟩;have tu:=Ì (o:=.dK kva) hfz2 (fun _ z=>nomatch z);have s11:Same H (upd H10 pb (.dK kva)):=fun c ob e=>by
       have n:=Æ e hpb0;rw[upd_ne n];exact kp2 c ob (s9 c ob e) n
      have kT:∀c m,H9 c=some (.tup m)->upd H10 pb (.dK kva) c=some (.tup m):=fun c m e=>by
       have n:=å e h9 (by intro z;cases z);rw[upd_ne n];exact kp2 c _ e n
      have e1:((q:Int)+1)=((q+1:Nat):Int):=rfl;refine⟨⟨q+1,pb,kva,f,r,_,_,_,_,rfl,s11,hpb0,Á,row9.same fun v r g=>g.tup kT,hn7,fr2.tup tu,by lia,hle2,?_,fun j hj=>?_⟩,?_⟩
      ·rcases hex2 with e | e
       ·refine⟨x0,hx0,?_⟩;have h1:=hle2 x0 hx0;have h2:=yA3 SB (q+1) x0 hx0;rw[e]at h1 ⊢
        grind
       ·exact e
      ·by_cases u:j<q
       ·exact hall j u
       ·have:j=q:=by lia
        rw[this];exact hex
      ·show C.length - ((q:Int)+1).toNat<C.length - ((q:Nat):Int).toNat;lia
   ·have h:r≠1:=fun e=>h (decide_eq_true e);refine⟨_,rfl,_,rfl,sz (by simp),fun pt hpt=>?_⟩;have hr1':r<1:=by
     obtain⟨x,hx,e⟩:=hex;have:=zE3 SB q x hx;rw[e]at this
     grind
    have q1:1<=q:=by
     rcases Nat.eq_zero_or_pos q with e | e
     ·subst e;obtain⟨x,hx,e⟩:=hex;exact absurd e.symm h
     ·exact e
    exact k pt _ f r q (s21.free hpt) (s21.trans (Same.upd hpt)) Á (fr1.same (Same.upd hpt)) q1 hq hle hex hr1' hall
  ·intro σ H2 Q1 Q2 hq hh;obtain⟨v1,e1,z1,g⟩:=hh;exact⟨v1,e1,z1,fun p hp=>let ⟨d1,d2,r1,r2,dp,kk,ek,hQ⟩:=g p hp;⟨d1,d2,r1,r2,dp,kk,ek,hq _ _ hQ⟩⟩
noncomputable abbrev zH7:Stmt:=top 33
theorem sc_long_run:Ë ["house","steps","rows","closed"] ["house","steps"] (Ç zH7):=scF
theorem yB9 {ca:Ca}(D:DefAt K mg "long_run" zH7)(T:Txt K mg ca)(G_casks_table:FnAt P w K mg base CX0 6 "casks_table" ["house","steps"] (zB9 K))(G_closed_casks:FnAt P w K mg base CX0 4 "closed_casks" ["rows"] (zK1))(G_nearness:FnAt P w K mg base CX0 4 "nearness" ["rows"] (xC5))(G_left_alike:FnAt P w K mg base CX0 7 "left_alike" ["rows","added"] (yN4))(G_brought_totals:FnAt P w K mg base CX0 6 "brought_totals" ["house","steps"] (yF4 K)):FnAt P w K mg base CX0 8 "long_run" ["house","steps"] (xC7 K):=by
 refine D.ok sc_long_run (fun vs H Q E h=>?_) (fun _ _ _ _ _ _ us hl=>match us,hl with | [_,_],_=>rfl) (fun f cdv A outer s H vs Q E hr h=>?_)
 all_goals obtain⟨ah,as,xs,ps,ys,ss,rfl,hS,hP,ok,hck,c5,hX,hT,hO,h15,kc,kl⟩:=h
 ·rfl
 ·have nd:=sc_long_run.nd;refine⟨_,(Â (É (i:=2) nd rfl (Or.inl rfl) (pfn G_casks_table hr (À (pv 0) (À (pv 1) Ä))))
   (Â (É (i:=3) nd rfl (Or.inl rfl) (pfn G_closed_casks hr (À (pv 2) Ä)))
   (Â (Ű (Ô xH4 (ß (ê (K:=K) rfl) (by rfl) T.z_len PySem.boot_len (À (pv 3) Ä)) Ã (Ý _)) (Å (Î (Ñ (À í (À (pv 3) Ä))))) á)
   (Å (Î (Ñ (À í (À (pfn G_left_alike hr (À (pv 2) (À (pfn G_brought_totals hr (À (pv 0) (À (pv 1) Ä))) Ä))) (À (pfn G_nearness hr (À (pv 2) Ä)) Ä))))))))),?_⟩
  have hOs:∀s∈ss,OkS (allN ps) s:=fun s hs=>(hO s hs).1;refine⟨_,rfl,_,rfl,ah,as,xs,ps,ys,ss,rfl,hS,hP,ok,hX,hT,hOs,by lia,fun pr H1 rows ad hpr s1 h1 TB0=>?_⟩;have G:=ø ok.nd hOs;have D0:=Ų ss;have D100:=zB2 hO h15;let C:=nms rows;have CR:∀z,z∈C↔z∈ckN ps:=fun z=>by
   constructor
   ·intro h;obtain⟨kv,h1,h2⟩:=Ė.mp h;obtain⟨y,h3,h4⟩:=TB0.keys kv h1;rw[h3]at h2;have h2:y=z:=h2;rw[<- h2];exact h4
   ·intro h;exact zI6 (TB0.row z h).1
  have nC:C.Nodup:=â TB0.nodup fun kv h=>(let ⟨z,e,_⟩:=TB0.keys kv h;⟨z,e⟩);have lC:C.length=(ckN ps).length:=by show (nms rows).length=_;rw[Ò];exact TB0.len ok.ck
  have hCL:∀x∈C,x∈allN ps:=fun x hx=>Ó ((CR x).mp hx);have eR:resC (ckN ps) (back ss)=resC C (back ss):=by
   funext n z
   unfold resC
   by_cases h:z∈C
   ·rw[if_pos h,if_pos ((CR z).mp h)]
   ·rw[if_neg h,if_neg fun u=>h ((CR z).mpr u)]
  rw[eR]at TB0;have TB:=TB0.mem CR;have P2:Ð ss<=2^500:=Č D100 (ħ (by decide) (by decide));have P8:8*Ð ss<2^2600:=by
   have:=Ġ (show 8<=2^3 by decide) D100;rw[<- ī]at this;exact ď this (ń (by decide) (by decide))
  refine⟨_,rfl,pr,H,rows,ad,C,allN ps,back ss,Ð ss,rfl,h1,TB,rfl,nC,by lia,ok.nd,hCL,G,D0,P8,fun pl H2 zs hpl s2 h2 nz mz sz'=>?_⟩;have s02:=s1.trans s2;have lm:(zs.map V.str).length=zs.length:=ā ..;have mz':∀x,x∈zs↔x∈ckN ps /\ ¬Leak (ckN ps) (back ss) x:=fun x=>by
   rw[mz,CR];exact⟨fun h=>⟨h.1,fun l=>h.2 (l.same ok.ck nC fun z=>(CR z).symm)⟩,fun h=>⟨h.1,fun l=>h.2 (l.same nC ok.ck CR)⟩⟩
  refine⟨_,rfl,_,_,rfl,.inl ⟨_,SqL.of h2,rfl⟩,_,_,rfl,rfl,_,rfl,?_⟩;rw[lm];refine ite2 (fun h=>?_) (fun h=>?_)
  ·have h:(0:Int)<(zs.length:Nat):=of_decide_eq_true h;refine⟨_,rfl,sz (by simp),fun pt hpt=>?_⟩;have tt:=Same.upd (o:=.tup [V.str "closed",.ref pl]) hpt;exact kc pt _ pl zs (s02.free hpt) (s02.trans tt) (s1.free hpl) (Æ h2 hpt) Á (tt _ _ h2) nz mz' sz' (fun e=>by rw[e]at h;simp at h)
  ·have h:¬(0:Int)<(zs.length:Nat):=fun e=>h (decide_eq_true e);have hz:zs=[]:=Ř.mp (by lia);have hlk':∀x∈ckN ps,Leak (ckN ps) (back ss) x:=fun x hx=>by
    by_cases q:Leak (ckN ps) (back ss) x
    ·exact q
    ·have:=(mz' x).mpr ⟨hx,q⟩;rw[hz]at this;cases this
   have hlk:∀x∈C,Leak C (back ss) x:=fun x hx=>(hlk' x ((CR x).mp hx)).same ok.ck nC fun z=>(CR z).symm;refine⟨_,rfl,_,rfl,_,rfl,ah,as,xs,ps,ys,ss,rfl,s02.seq hS,à hP s02,ok,s02.seq hX,õ hT s02,hO,h15,fun pb H3 kb hpb s3 h3 rb hnb=>?_⟩;have s13:=s2.trans s3;have hW:1200*(120*Ð ss)<=2^118:=twelve D100 (ą _);have ebC:all (ckN ps) (bT ss)=all C (bT ss):=by
    funext z
    unfold all
    by_cases q:z∈C
    ·rw[if_pos q,if_pos ((CR z).mp q)]
    ·rw[if_neg q,if_neg fun u=>q ((CR z).mpr u)]
   rw[ebC]at rb;refine⟨pr,pb,H,rows,kb,ad,C,allN ps,back ss,bT ss,Ð ss,120*Ð ss,1200*(120*Ð ss),100,118,rfl,s13 _ _ h1,TB.same s13,rfl,nC,by lia,ok.nd,hCL,G,D0,D100,h3,rb,by lia,ş _ (by decide),hW,fun z _=>xB6 ok.nd hO h15 z,by decide,by decide,hlk,fun pd H4 kv X hpd s4 h4 rX nX eX bX=>?_⟩;have s14:=s13.trans s4;have nck:C≠[]:=fun e=>by
    have:(ckN ps).length=0:=by rw[<- lC,e];rfl
    exact hck (Ř.mp this)
   refine⟨_,rfl,pr,H,rows,ad,C,allN ps,back ss,Ð ss,rfl,s14 _ _ h1,TB.same s14,rfl,nC,nck,by lia,ok.nd,hCL,G,D0,P2,hlk,fun pq H5 fq r q hpq s5 h5 fr q1 q2 hle hex hr1 hall=>?_⟩;refine⟨sz (by simp),fun pt hpt=>?_⟩;have tt:=Same.upd (o:=.tup [V.str "lasting",.ref pd,.ref pq]) hpt;have s05:=(s1.trans s14).trans s5;have eX':all C X=all (ckN ps) X:=by
    funext z
    unfold all
    by_cases q:z∈C
    ·rw[if_pos q,if_pos ((CR z).mp q)]
    ·rw[if_neg q,if_neg fun u=>q ((CR z).mpr u)]
   have eS:=zL1 (R:=back ss) nC ok.ck CR;refine kl hlk' pt _ pq pd fq r q kv X (s05.free hpt) (s05.trans tt) Á ((s1.trans s13).free hpd) ((s5.trans tt) _ _ h4) ?_ (fun z hz=>?_) ?_ (tt _ _ h5) (fr.same tt) q1 (by lia) (fun x hx=>?_) ?_ hr1 fun j hj=>?_
   ·rw[<- eX'];exact rX.same fun v r g=>g.same (s5.trans tt)
   ·rw[eX z ((CR z).mpr hz),zB0 nC ok.ck CR]
   ·obtain⟨E2,W2,g1,g2,g3,g4⟩:=bX;exact⟨E2,W2,g1,g2,Č g3 (ħ (by decide) (by decide)),fun z hz=>g4 z ((CR z).mpr hz)⟩
   ·rw[<- eS];exact hle x ((CR x).mpr hx)
   ·obtain⟨x,hx,e⟩:=hex;exact⟨x,(CR x).mp hx,by rw[<- eS];exact e⟩
   ·obtain⟨x,hx,e⟩:=hall j hj;exact⟨x,(CR x).mp hx,by rw[<- eS];exact e⟩
noncomputable abbrev zQ9:Stmt:=top 35
theorem sc_by_age:Ë ["house","steps","many","rows","totals","told","age"] ["house","steps","many"] (Ç zQ9):=scF
theorem yR5 {ca:Ca}(D:DefAt K mg "by_age" zQ9)(T:Txt K mg ca)(G_casks_table:FnAt P w K mg base CX0 6 "casks_table" ["house","steps"] (zB9 K))(G_closed_casks:FnAt P w K mg base CX0 4 "closed_casks" ["rows"] (zK1))(G_brought_totals:FnAt P w K mg base CX0 6 "brought_totals" ["house","steps"] (yF4 K))(G_led:FnAt P w K mg base CX0 3 "led" ["rows","totals"] (yN5)):FnAt P w K mg base CX0 7 "by_age" ["house","steps","many"] (spBy K):=by
 refine D.ok sc_by_age (fun vs H Q E h=>?_) (fun _ _ _ _ _ _ us hl=>match us,hl with | [_,_,_],_=>rfl) (fun f cdv A outer s H vs Q E hr h=>?_)
 all_goals obtain⟨ah,as,xs,ps,ys,ss,n,rfl,hh,n8,kc,kl⟩:=h
 ·rfl
 ·have nd:=sc_by_age.nd;refine⟨_,(Â (É (i:=3) nd rfl (Or.inl rfl) (pfn G_casks_table hr (À (pv 0) (À (pv 1) Ä))))
   (Â (Ű (Ô xH4 (ß (ê (K:=K) rfl) (by rfl) T.z_len PySem.boot_len (À (pfn G_closed_casks hr (À (pv 3) Ä)) Ä)) Ã (Ý _)) (Å (Î yQ4)) á)
   (Â (É (i:=4) nd rfl (Or.inl rfl) (pfn G_brought_totals hr (À (pv 0) (À (pv 1) Ä))))
   (Â (É (i:=5) nd rfl (Or.inl rfl) (Γ Ä))
   (Â (Ú PassesOwn.never rfl (ÿ (by rfl) T.z_range (À (pv 2) Ä)) (È (i:=6) nd rfl (Or.inl rfl)) (Â (ð (θ PySem.F.plainAttrs_list PySem.F.slot_list_append PySem.F.type_list_append è (pv 5) (À (pv 4) Ä)))
   (Å (É (i:=4) nd rfl (Or.inl rfl) (pfn G_led hr (À (pv 3) (À (pv 4) Ä)))))))
   (Å (Î (pv 5)))))))),?_⟩
  obtain⟨hA,hP,ok,c5,hX,hT,hO,h15⟩:=hh;have hOs:∀s∈ss,OkS (allN ps) s:=fun s hs=>(hO s hs).1;refine⟨_,rfl,_,rfl,ah,as,xs,ps,ys,ss,rfl,SqL.of hA,hP,ok,SqL.of hX,hT,hOs,by lia,fun pr H1 rows ad hpr s1 h1 TB0=>?_⟩;have G:=ø ok.nd hOs;have D0:=Ų ss;have D100:=zB2 hO h15;have RW:=RwsV.of ok c5 h1 TB0;let C:=nms rows;have CR:∀z,z∈C↔z∈ckN ps:=RW.2.2.2.2.2;have nC:C.Nodup:=RW.2.2.2.1;have lC:C.length<=5:=RW.2.2.2.2.1;have hCL:∀x∈C,x∈allN ps:=fun x hx=>Ó ((CR x).mp hx);have P8:8*Ð ss<2^2600:=by
   have:=Ġ (show 8<=2^3 by decide) D100;rw[<- ī]at this;exact ď this (ń (by decide) (by decide))
  refine⟨_,rfl,pr,H,rows,ad,C,allN ps,back ss,Ð ss,rfl,RW.1,RW.2.1,rfl,nC,lC,ok.nd,hCL,G,D0,P8,fun pl H2 zs hpl s2 h2 nz mz sz'=>?_⟩;have s02:=s1.trans s2;have lm:(zs.map V.str).length=zs.length:=ā ..;have mz':∀x,x∈zs↔x∈ckN ps /\ ¬Leak (ckN ps) (back ss) x:=fun x=>by
   rw[mz,CR];exact⟨fun h=>⟨h.1,fun l=>h.2 (l.same ok.ck nC fun z=>(CR z).symm)⟩,fun h=>⟨h.1,fun l=>h.2 (l.same nC ok.ck CR)⟩⟩
  refine⟨_,_,rfl,.inl ⟨_,SqL.of h2,rfl⟩,_,_,rfl,rfl,_,rfl,?_⟩;rw[lm];refine ite2 (fun h=>?_) (fun h=>?_)
  ·have h:(0:Int)<(zs.length:Nat):=of_decide_eq_true h;refine kc ?_ H2 s02;cases e:zs with
   | nil=>rw[e]at h;simp at h
   | cons z l =>
    have:=(mz' z).mp (by rw[e];exact Ć);exact⟨z,this.1,this.2⟩
  have h:¬(0:Int)<(zs.length:Nat):=fun e=>h (decide_eq_true e);have hz:zs=[]:=Ř.mp (by lia);have hlk:∀x∈ckN ps,Leak (ckN ps) (back ss) x:=fun x hx=>by
   by_cases q:Leak (ckN ps) (back ss) x
   ·exact q
   ·have:=(mz' x).mpr ⟨hx,q⟩;rw[hz]at this;cases this
  refine⟨_,rfl,_,rfl,ah,as,xs,ps,ys,ss,rfl,SqL.of (s02 _ _ hA),à hP s02,ok,SqL.of (s02 _ _ hX),õ hT s02,hO,h15,fun pb H3 kb hpb s3 h3 rb hnb=>?_⟩;have s03:=s02.trans s3;have R3:=RW.same (s2.trans s3);have nb:=(RW.same s2).ne hpb;refine⟨sz (by simp),fun pd hpd=>?_⟩;show Ends.nx _ [some (.ref ah),some (.ref as),some (.int (n:Nat)),some (.ref pr),some (.ref pb),some (.ref pd),none] _;have td:=Same.upd (o:=.lst []) hpd;have hpd4:=Á (H:=H3) (a:=pd) (o:=.lst []);have npb:pb≠pd:=Æ h3 hpd;generalize upd H3 pd (.lst [])=H4 at *;refine⟨_,rfl,_,rfl,by lia,by lia,?_⟩;let ms:Nat->Str->Rat:=mass (ckN ps) (back ss) (bT ss);refine Δ (fun i σ H'=>∃(v6:Option V) (pT:Addr) (kT:List (Key×V)) (ds:List Addr),σ=[some (.ref ah),some (.ref as),some (.int (n:Nat)),some (.ref pr),some (.ref pT),some (.ref pd),v6] /\ Same H3 H' /\ H' pd=some (.lst (ds.map V.ref)) /\ ds.length=i /\ ds.Nodup /\ (∀j d,ds[j]?=some d->H d=none /\ d≠pd /\ ∃kv,H' d=some (.dK kv) /\ RowAt H' kv (all (ckN ps) (ms j))) /\ H' pT=some (.dK kT) /\ RowAt H' kT (all (ckN ps) (ms i)) /\ pT∉ds /\ H pT=none /\ pT≠pd /\ pT≠pr /\ (∀x∈C,ad x≠pT) /\ ∃E W,0<E /\ E<=W /\ W<=2^(118+103*i) /\ ∀z∈C,Cd E W (ms i z)) ⟨_,pb,kb,[],rfl,td,hpd4,rfl,.nil,(fun j d e=>nomatch e),td _ _ h3,rb.same (fun v r g=>g.same td),(fun e=>nomatch e),s02.free hpb,npb,nb.1,nb.2,120*Ð ss,1200*(120*Ð ss),by lia,ş _ (by decide),twelve D100 (ą _),fun z _=>xB6 ok.nd hO h15 z⟩ ?_ ?_
  ·rintro i σ H' hi ⟨v6,pT,kT,ds,rfl,s5,hd5,ld,nd',hds,hT5,rT5,ndT,hT0,nTd,nTr,naT,E2,W2,e20,ew2,w2,hcd2⟩;have hi:i<n:=by simpa using hi
   refine⟨_,rfl,.inl ⟨rfl,_,SqL.of hd5⟩,_,rfl,pd,_,_,rfl,rfl,hd5,sz (by rw[ā];lia),?_⟩;have tu:=Ì (o:=.lst (ds.map V.ref++[.ref pT])) hd5 (fun _ z=>nomatch z);have s6:=s5.updD (o:=.lst (ds.map V.ref++[.ref pT])) hpd;have hd6:=Á (H:=H') (a:=pd) (o:=.lst (ds.map V.ref++[.ref pT]));have hT6:upd H' pd (.lst (ds.map V.ref++[.ref pT])) pT=some (.dK kT):=by rw[upd_ne nTd];exact hT5
   have rT6:=rT5.same fun v r g=>g.tup tu;have hds6:∀j d,(ds++[pT])[j]?=some d->H d=none /\ d≠pd /\ ∃kv,upd H' pd (.lst (ds.map V.ref++[.ref pT])) d=some (.dK kv) /\ RowAt (upd H' pd (.lst (ds.map V.ref++[.ref pT]))) kv (all (ckN ps) (ms j)):=fun j d e=>by
    rcases zS9 e with e | ⟨e1,rfl⟩
    ·obtain⟨a1,a2,kv,a3,a4⟩:=hds j d e;exact⟨a1,a2,kv,by rw[upd_ne a2];exact a3,a4.same fun v r g=>g.tup tu⟩
    ·rw[e1,ld];exact⟨hT0,nTd,kT,hT6,rT6⟩
   rw[show ds.map V.ref++[.ref pT]=(ds++[pT]).map V.ref by rw[Đ];rfl]at *;generalize upd H' pd (.lst ((ds++[pT]).map V.ref))=H6 at *;have R6:=R3.same s6;have rTC:RowAt H6 kT (all C (ms i)):=by rw[zG9 CR];exact rT6
   refine⟨_,rfl,_,rfl,pr,pT,H,rows,kT,ad,C,allN ps,back ss,ms i,Ð ss,E2,W2,rfl,R6.1,R6.2.1,rfl,nC,lC,hCL,G,D0,D100,hT6,rTC,nTr,naT,e20,ew2,Č w2 (ħ (by decide) (by lia)),hcd2,fun pn H7 kn hpn s7 h7 r7=>?_⟩;have nn:=R6.ne hpn;have em:ldR C (back ss) (ms i)=ms (i+1):=by rw[zE0 nC ok.ck CR];rfl
   rw[zG9 CR,em]at r7;refine⟨_,pn,kn,ds++[pT],rfl,s6.trans s7,s7 _ _ hd6,by rw[Ď,ld];rfl,?_,fun j d e=>?_,h7,r7,fun e=>?_,s03.free (s6.free hpn),?_,nn.1,nn.2,E2*Ð ss,5*(W2*Ð ss),Ņ e20 D0,?_,?_,fun z hz=>?_⟩
   ·exact œ.mpr ⟨nd',Ĝ.mpr ⟨(nomatch ·),.nil⟩,fun a ha b hb e=>ndT (by rw[<- ė.mp hb,<- e];exact ha)⟩
   ·obtain⟨a1,a2,kv,a3,a4⟩:=hds6 j d e;exact⟨a1,a2,kv,s7 _ _ a3,a4.same fun v r g=>g.same s7⟩
   ·obtain⟨j,hj,ej⟩:=ě e;obtain⟨_,_,kv,a3,_⟩:=hds6 j pn (by rw[Ā hj,ej]);rw[hpn]at a3;cases a3
   ·exact(Æ hd6 hpn).symm
   ·have:=Ĕ (Ð ss) ew2;lia
   ·have e:118+103*(i+1)=118+103*i+103:=by lia
    rw[e];exact zU1 w2 D100
   ·rw[<- em];exact zX9 G hCL lC hcd2 z
  ·rintro σ H' ⟨v6,pT,kT,ds,rfl,s5,hd5,ld,nd',hds,_⟩;have em:((n:Nat):Int).toNat=n:=by simp
   rw[em]at ld;exact⟨_,rfl,kl hlk pd H' ds (s03.free hpd) (s03.trans s5) hd5 ld nd' hds⟩
noncomputable abbrev zE5:Stmt:=top 36
theorem sc_mean_ages:Ë ["house","steps","rows","lasting","aged","means","name","amount"] ["house","steps"] (Ç zE5):=scF
theorem zX0 {ca:Ca}(D:DefAt K mg "mean_ages" zE5)(T:Txt K mg ca)(G_casks_table:FnAt P w K mg base CX0 6 "casks_table" ["house","steps"] (zB9 K))(G_closed_casks:FnAt P w K mg base CX0 4 "closed_casks" ["rows"] (zK1))(G_left_alike:FnAt P w K mg base CX0 7 "left_alike" ["rows","added"] (yN4))(G_brought_totals:FnAt P w K mg base CX0 6 "brought_totals" ["house","steps"] (yF4 K))(G_led:FnAt P w K mg base CX0 3 "led" ["rows","totals"] (yN5))(G_over:FnAt P w K mg base (CXE P w) 3 "over" ["one","other"] (yF1 ca.NoNumber)):FnAt P w K mg base CX0 8 "mean_ages" ["house","steps"] (xC6 K):=by
 refine D.ok sc_mean_ages (fun vs H Q E h=>?_) (fun _ _ _ _ _ _ us hl=>match us,hl with | [_,_],_=>rfl) (fun f cdv A outer s H vs Q E hr h=>?_)
 all_goals obtain⟨ah,as,xs,ps,ys,ss,rfl,hh,kc,kl⟩:=h
 ·rfl
 ·have nd:=sc_mean_ages.nd;refine⟨_,(Â (É (i:=2) nd rfl (Or.inl rfl) (pfn G_casks_table hr (À (pv 0) (À (pv 1) Ä))))
   (Â (Ű (Ô xH4 (ß (ê (K:=K) rfl) (by rfl) T.z_len PySem.boot_len (À (pfn G_closed_casks hr (À (pv 2) Ä)) Ä)) Ã (Ý _)) (Å (Î yQ4)) á)
   (Â (É (i:=3) nd rfl (Or.inl rfl) (pfn G_left_alike hr (À (pv 2) (À (pfn G_brought_totals hr (À (pv 0) (À (pv 1) Ä))) Ä))))
   (Â (É (i:=4) nd rfl (Or.inl rfl) (pfn G_left_alike hr (À (pv 2) (À (pfn G_led hr (À (pv 2) (À (pv 3) Ä))) Ä))))
   (Â (É (i:=5) nd rfl (Or.inl rfl) ó)
   (Â (ú (Ú PassesOwn.never rfl (ż (ź (K:=K) rfl PySem.F.plainAttrs_dict PySem.F.slot_dict_items PySem.F.type_dict_items Ž (pv 3))) (Η rfl (Ï (È (i:=6) nd rfl (Or.inl rfl)) (Ï (È (i:=7) nd rfl (Or.inl rfl)) ŭ))) (Å (ã (Ù hr) (pv 5) (pv 6) (zK5 (Ô (zM5 (K:=K) rfl hr) (pv 7) (Ñ (À Ã (À Ã Ä))) (Ý _)) yQ4 (yY5 G_over hr (by rfl) yQ8 (À (Õ (Ù hr) (pv 4) (pv 6) (fun _ _=>rfl)) (À (pv 7) Ä)))) rfl))))
   (Å (Î (pv 5))))))))),?_⟩
  obtain⟨hA,hP,ok,c5,hX,hT,hO,h15⟩:=hh;have hOs:∀s∈ss,OkS (allN ps) s:=fun s hs=>(hO s hs).1;refine⟨_,rfl,_,rfl,ah,as,xs,ps,ys,ss,rfl,SqL.of hA,hP,ok,SqL.of hX,hT,hOs,by lia,fun pr H1 rows ad hpr s1 h1 TB0=>?_⟩;have G:=ø ok.nd hOs;have D0:=Ų ss;have D100:=zB2 hO h15;have RW:=RwsV.of ok c5 h1 TB0;let C:=nms rows;have CR:∀z,z∈C↔z∈ckN ps:=RW.2.2.2.2.2;have nC:C.Nodup:=RW.2.2.2.1;have lC:C.length<=5:=RW.2.2.2.2.1;have hCL:∀x∈C,x∈allN ps:=fun x hx=>Ó ((CR x).mp hx);have P8:8*Ð ss<2^2600:=by
   have:=Ġ (show 8<=2^3 by decide) D100;rw[<- ī]at this;exact ď this (ń (by decide) (by decide))
  refine⟨_,rfl,pr,H,rows,ad,C,allN ps,back ss,Ð ss,rfl,RW.1,RW.2.1,rfl,nC,lC,ok.nd,hCL,G,D0,P8,fun pl H2 zs hpl s2 h2 nz mz sz'=>?_⟩;have s02:=s1.trans s2;have lm:(zs.map V.str).length=zs.length:=ā ..;have mz':∀x,x∈zs↔x∈ckN ps /\ ¬Leak (ckN ps) (back ss) x:=fun x=>by
   rw[mz,CR];exact⟨fun h=>⟨h.1,fun l=>h.2 (l.same ok.ck nC fun z=>(CR z).symm)⟩,fun h=>⟨h.1,fun l=>h.2 (l.same nC ok.ck CR)⟩⟩
  refine⟨_,_,rfl,.inl ⟨_,SqL.of h2,rfl⟩,_,_,rfl,rfl,_,rfl,?_⟩;rw[lm];refine ite2 (fun h=>?_) (fun h=>?_)
  ·have h:(0:Int)<(zs.length:Nat):=of_decide_eq_true h;refine kc ?_ H2 s02;cases e:zs with
   | nil=>rw[e]at h;simp at h
   | cons z l =>
    have:=(mz' z).mp (by rw[e];exact Ć);exact⟨z,this.1,this.2⟩
  have h:¬(0:Int)<(zs.length:Nat):=fun e=>h (decide_eq_true e);have hz:zs=[]:=Ř.mp (by lia);have hlk:∀x∈ckN ps,Leak (ckN ps) (back ss) x:=fun x hx=>by
   by_cases q:Leak (ckN ps) (back ss) x
   ·exact q
   ·have:=(mz' x).mpr ⟨hx,q⟩;rw[hz]at this;cases this
  refine⟨_,rfl,_,rfl,_,rfl,ah,as,xs,ps,ys,ss,rfl,SqL.of (s02 _ _ hA),à hP s02,ok,SqL.of (s02 _ _ hX),õ hT s02,hO,h15,fun pb H3 kb hpb s3 h3 rb hnb=>?_⟩;have s03:=s02.trans s3;have R3:=RW.same (s2.trans s3);have hlkC:∀x∈C,Leak C (back ss) x:=fun x hx=>(hlk x ((CR x).mp hx)).same ok.ck nC fun z=>(CR z).symm;have hW:1200*(120*Ð ss)<=2^118:=twelve D100 (ą _);have E120:0<120*Ð ss:=by lia
  have E12W:120*Ð ss<=1200*(120*Ð ss):=ş _ (by decide);have cb:∀z∈C,Cd (120*Ð ss) (1200*(120*Ð ss)) (bT ss z):=fun z _=>xB6 ok.nd hO h15 z;rw[<- zG9 CR]at rb;refine⟨pr,pb,H,rows,kb,ad,C,allN ps,back ss,bT ss,Ð ss,120*Ð ss,1200*(120*Ð ss),100,118,rfl,R3.1,R3.2.1,rfl,nC,lC,ok.nd,hCL,G,D0,D100,h3,rb,E120,E12W,hW,cb,by decide,by decide,hlkC,fun pd H4 kv X hpd s4 h4 rX nX eX _=>?_⟩;have R4:=R3.same s4;have s04:=s03.trans s4;have nd4:=R3.ne hpd;obtain⟨E1,E10,E1W,c1⟩:=yC7 G nC ok.nd hCL hlkC D0 eX E120 E12W cb;have W1le:=yL6 hW D100 lC;generalize 1200*(120*Ð ss)*(C.length*Ð ss)^C.length=W1 at *;refine⟨_,rfl,_,rfl,_,rfl,pr,pd,H,rows,kv,ad,C,allN ps,back ss,X,Ð ss,E1,W1,rfl,R4.1,R4.2.1,rfl,nC,lC,hCL,G,D0,D100,h4,rX,nd4.1,nd4.2,E10,E1W,Č W1le (ħ (by decide) (by decide)),c1,fun pe H5 ke hpe s5 h5 r5=>?_⟩;have R5:=R4.same s5;have W2le:=zU1 W1le D100;have c2:∀z∈C,Cd (E1*Ð ss) (5*(W1*Ð ss)) (ldR C (back ss) X z):=fun z _=>zX9 G hCL lC c1 z;have E20:0<E1*Ð ss:=Ņ E10 D0;have E2W:E1*Ð ss<=5*(W1*Ð ss):=by have:=Ĕ (Ð ss) E1W;lia
  refine⟨pr,pe,H,rows,ke,ad,C,allN ps,back ss,ldR C (back ss) X,Ð ss,E1*Ð ss,5*(W1*Ð ss),100,118+515+103,rfl,R5.1,R5.2.1,rfl,nC,lC,ok.nd,hCL,G,D0,D100,h5,r5,E20,E2W,W2le,c2,by decide,by decide,hlkC,fun pA H6 kA Ag hpA s6 h6 rA nA eA _=>?_⟩;obtain⟨E3,E30,E3W,c3⟩:=yC7 G nC ok.nd hCL hlkC D0 eA E20 E2W c2;have W3le:=yL6 W2le D100 lC;generalize 5*(W1*Ð ss)*(C.length*Ð ss)^C.length=W3 at *;have bXd:∀z∈C,Bd 8000 (X z):=fun z hz=>((c1 z hz).bd E10 E1W W1le).mono (by decide);have bAd:∀z∈C,Bd 8000 (Ag z):=fun z hz=>((c3 z hz).bd E30 E3W W3le).mono (by decide);have s46:=s5.trans s6;have h46:=s46 _ _ h4;have s06:=s04.trans s46;intro pm hpm;have tm:=Same.upd (o:=.dK []) hpm;have hm7:=Á (H:=H6) (a:=pm) (o:=.dK []);have nmd:pm≠pd:=fun e=>by rw[e,h46]at hpm;cases hpm
  have h47:=tm _ _ h46;have h67:=tm _ _ h6;have rX7:=rX.same fun v r g=>(g.same s46).same tm;have rA7:=rA.same fun v r g=>g.same tm;have s07:=s06.trans tm;generalize upd H6 pm (.dK [])=H7 at *;show Ends.nx _ [some (.ref ah),some (.ref as),some (.ref pr),some (.ref pd),some (.ref pA),some (.ref pm),none,none] _;have nAd:pA≠pd:=fun e=>by have:=s5 _ _ h4;rw[<- e,hpA]at this;cases this
  have nAm:pA≠pm:=Æ h6 hpm;refine⟨pd,_,h47,rfl,?_⟩;refine⟨_,rfl,.inr (.inr (.inl ⟨rfl,.inl ⟨_,h47⟩⟩)),pd,_,rfl,rfl,h47,rfl,fun pv hpv=>?_⟩;have tv:=Same.upd (o:=Μ pv pd) hpv;refine⟨pv,pd,_,rfl,Á,tv _ _ h47,rfl,fun o qs hqs=>?_⟩;have hqs:qs=kv.map fun kv=>(kV kv.1,kv.2):=hqs;subst hqs;refine Ź (fun j σ H8=>∃(v6 v7:Option V) (km:List (Key×V)),σ=[some (.ref ah),some (.ref as),some (.ref pr),some (.ref pd),some (.ref pA),some (.ref pm),v6,v7] /\ H8 pd=some (.frz o (.dK kv)) /\ (∀c ob,H7 c=some ob->c≠pm->c≠pd->H8 c=some ob) /\ H8 pm=some (.dK km) /\ MnAt H8 km (C.take j) X Ag) ?_ ?_ ?_ ?_
  ·refine⟨_,_,[],rfl,Á,fun c ob e _ n=>by rw[upd_ne n];exact tv _ _ e,by rw[upd_ne nmd];exact tv _ _ hm7,?_⟩;exact⟨nofun,rfl,nofun⟩
  ·rintro j σ H8 ⟨_,_,_,_,h,_⟩;exact h
  ·rintro j k' v T2 σ H8 hk ⟨v6,v7,km,rfl,hfz8,kp8,h8,mn8⟩ hT2;obtain⟨kvi,hki,ek⟩:=Κ hk;obtain⟨rfl,rfl⟩:=Prod.mk.inj ek;obtain⟨z,r,hz,hg,fr,_,_⟩:=rX7.at hki;have hzC:z∈C:=all_some.mp (by rw[hg];rfl);have er:r=X z:=by
    unfold all at hg;rw[if_pos hzC]at hg;exact(Option.some.inj hg).symm
   subst er;have hCj:C[j]?=some z:=by
    rw[<- nX];unfold nms;rw[Ĉ,hki];show some (nmz kvi.1)=_;rw[hz];rfl
   have ekv:kV kvi.1 = .str z:=by rw[hz];rfl
   have kT8:∀c m,H7 c=some (.tup m)->H8 c=some (.tup m):=fun c m e=>kp8 c _ e (å e hm7 (by intro z;cases z)) (å e h47 (by intro z;cases z));have tT2:=Same.upd (o:=.tup [kV kvi.1,kvi.2]) hT2;refine⟨T2,_,rfl,SqT.of Á,rfl,_,_,rfl,_,_,rfl,rfl,?_⟩;rw[ekv]at tT2 ⊢;have h9:=tT2 _ _ h8;have fr9:=(fr.tup kT8).same tT2;have rA9:=rA7.same fun v r g=>(g.tup kT8).same tT2;have hA9:=tT2 _ _ (kp8 _ _ h67 nAm nAd);have kp9:∀c ob,H7 c=some ob->c≠pm->c≠pd->upd H8 T2 (.tup [.str z,kvi.2]) c=some ob:=fun c ob e n1 n2=>tT2 _ _ (kp8 c ob e n1 n2);have hfz9:=tT2 _ _ hfz8;have mn9:=mn8.mono fun v r g=>g.same tT2;generalize upd H8 T2 (.tup [.str z,kvi.2])=H9 at *;have lk:km.length<=5:=by rw[<- Ò,mn8.names,ċ];lia
   have fin:∀(w:V) (H10:Hp),Same H9 H10->((X z=0 /\ w = .non) \/ (X z≠0 /\ FrV H10 w (Ag z / X z)))->∃v6 v7 km',[some (V.ref ah),some (.ref as),some (.ref pr),some (.ref pd),some (.ref pA),some (.ref pm),some (.str z),some kvi.2]=[some (.ref ah),some (.ref as),some (.ref pr),some (.ref pd),some (.ref pA),some (.ref pm),v6,v7] /\ upd H10 pm (.dK (putK km (.inr z) w)) pd=some (.frz o (.dK kv)) /\ (∀c ob,H7 c=some ob->c≠pm->c≠pd->upd H10 pm (.dK (putK km (.inr z) w)) c=some ob) /\ upd H10 pm (.dK (putK km (.inr z) w)) pm=some (.dK km') /\ MnAt (upd H10 pm (.dK (putK km (.inr z) w))) km' (C.take (j+1)) X Ag:=fun w H10 s10 hw=>by
    have h10:=s10 _ _ h9;have tu:=Ì (o:=.dK (putK km (.inr z) w)) h10 (fun _ z=>nomatch z);refine⟨_,_,_,rfl,by rw[upd_ne nmd.symm];exact s10 _ _ hfz9,fun c ob e n1 n2=>by rw[upd_ne n1];exact s10 _ _ (kp9 c ob e n1 n2),Á,?_⟩;rw[Ø hCj];exact((mn9.mono fun v r g=>g.same s10).put (zN0 nC hCj) hw).mono fun v r g=>g.tup tu
   refine⟨_,rfl,sz (by simp),fun p0 hp0=>?_⟩;have t0:=Same.upd (o:=.tup [.int 0,.int 1]) hp0;refine⟨_,_,(fr9.same t0).rep,ν (SqT.of Á),Ż _ _,_,rfl,?_⟩;rw[eq01];refine ite2 (fun h=>?_) (fun h=>?_)
   ·have ht:X z=0:=of_decide_eq_true h;exact⟨_,rfl,_,rfl,pm,_,rfl,DPut.k (k:=.inr z) (t0 _ _ h9) (sz (by lia)),fin .non _ t0 (.inl ⟨ht,rfl⟩)⟩
   ·have ht:X z≠0:=fun e=>h (decide_eq_true e);obtain⟨wa,ewa,fwa⟩:=rA9.has z (Ag z) (by unfold all;rw[if_pos hzC]);refine⟨_,rfl,_,rfl,pA,wa,rfl,?_,_,rfl,_,_,Ag z,X z,rfl,fwa.same t0,fr9.same t0,bAd z hzC,bXd z hzC,fun _ u H10 s10 f10=>?_,fun e=>absurd e ht⟩
    ·have g:=DGet.k (k:=.inr z) (t0 _ _ hA9);rw[ewa]at g;exact g
    have s910:=t0.trans s10;exact⟨_,rfl,_,rfl,pm,_,rfl,DPut.k (k:=.inr z) (s910 _ _ h9) (sz (by lia)),fin u _ s910 (.inr ⟨ht,f10⟩)⟩
  rintro σ H8 ⟨v6,v7,km,rfl,hfz8,kp8,h8,mn8⟩;have lkv:kv.length=C.length:=by rw[<- Ò,nX]
  rw[ā,lkv,đ]at mn8;have tu:=Ì (o:=.dK kv) hfz8 (fun _ z=>nomatch z);refine⟨o,_,hfz8,_,rfl,kl hlk pm _ km C X Ag (s06.free hpm) (fun c ob e=>?_) (by rw[upd_ne nmd];exact h8) (mn8.mono fun v r g=>g.tup tu) nC CR (fun z hz=>?_) (fun z hz=>?_)⟩
  ·have e7:=s07 _ _ e;have n1:c≠pm:=Æ e (s06.free hpm)
   by_cases q:c=pd
   ·subst q;rw[h47]at e7;cases e7;exact Á
   ·rw[upd_ne q];exact kp8 _ _ e7 n1 q
  ·rw[<- zE0 nC ok.ck CR];exact eX z ((CR z).mpr hz)
  ·rw[<- zE0 nC ok.ck CR,<- zE0 nC ok.ck CR];exact eA z ((CR z).mpr hz)
noncomputable abbrev zH4:Stmt:=top 38
theorem sc_rooms_of:Ë ["house","rooms","place"] ["house"] (Ç zH4):=scF
theorem yB6 {ca:Ca}(D:DefAt K mg "rooms_of" zH4)(T:Txt K mg ca):FnAt P w K mg base CX0 1 "rooms_of" ["house"] (yN1 K):=by
 refine D.ok sc_rooms_of (fun vs H Q E h=>?_) (fun _ _ _ _ _ _ us hl=>match us,hl with | [_],_=>rfl) (fun f cdv A outer s H vs Q E hr h=>?_)
 all_goals obtain⟨a,xs,ps,rfl,hS,hP,hH,k⟩:=h
 ·rfl
 ·have nd:=sc_rooms_of.nd;refine⟨_,(Â (É (i:=1) nd rfl (Or.inl rfl) ó)
   (Â (Ú PassesOwn.never rfl (ï (K:=K) rfl (pv 0)) (È (i:=2) nd rfl (Or.inl rfl)) (Å (Ű (Ô Ν (pixT (pv 2) Ã) í (Ý _)) (Å (ã (Ù hr) (pv 1) (pixT (pv 2) Ã) (pixT (pv 2) Ã) rfl)) á)))
   (Å (Î (pv 1))))),?_⟩
  have hlen:xs.length=ps.length:=hP.length;intro p hp;have tp:=Same.upd (o:=.dK []) hp;refine⟨_,rfl,a,rfl,⟨_,tp.seq hS⟩,?_⟩;refine Ÿ (xs:=xs) (fun i σ H1=>∃(v2:Option V) (kv:List (Key×V)),σ=[some (.ref a),some (.ref p),v2] /\ Same H H1 /\ H1 p=some (.dK kv) /\ RowAt H1 kv (rmF (ps.take i))) ⟨none,[],rfl,tp,Á,RowAt.nil _⟩ ?_ ?_ ?_
  ·rintro i σ H1 hi ⟨v2,kv,rfl,s1,h1,row⟩;exact s1.seq hS
  ·rintro i x σ H1 hx ⟨v2,kv,rfl,s1,h1,row⟩;obtain⟨pl,hpl,pv⟩:=Ü hP hx;have pv:=pv.same s1;have en:=Ø hpl;have nin:=yW2 hH hpl;have len:kv.length<=(allN (ps.take i)).length:=row.lenO fun z hz=>xL8 hz;have l8:kv.length<=8:=by
    unfold allN at len;rw[ā,ċ]at len;have:=hH.len;lia
   cases pl with
   | ck z r =>
    obtain⟨b,f,rfl,hb,hf⟩:=pv;refine⟨_,rfl,b,_,_,_,rfl,rfl,SqT.of hb,rfl,rfl,_,rfl,?_⟩;refine ŵ rfl ?_;refine⟨_,rfl,b,_,_,_,rfl,rfl,SqT.of hb,rfl,_,rfl,_,rfl,b,_,_,_,rfl,rfl,SqT.of hb,rfl,p,upd H1 p (.dK (putK kv (.inr z) f)),rfl,DPut.k (k:=.inr z) h1 (sz (by lia)),?_⟩;refine⟨_,putK kv (.inr z) f,rfl,s1.updD hp,Á,?_⟩;have nin:z∉allN (ps.take i):=nin;rw[en,yP0 nin];exact(row.put (z:=z) hf).same fun v r g=>g.tup (Ì h1 (fun _ z=>nomatch z))
   | sk z =>
    obtain⟨b,rfl,hb⟩:=pv;refine⟨_,rfl,b,_,_,_,rfl,rfl,SqT.of hb,rfl,rfl,_,rfl,?_⟩;refine é (by decide +kernel) ?_;refine⟨_,kv,rfl,s1,h1,?_⟩;rw[en,yO9];exact row
  ·rintro σ H1 ⟨v2,kv,rfl,s1,h1,row⟩;rw[hlen,đ]at row;exact⟨_,rfl,k p H1 kv hp s1 h1 row⟩
noncomputable abbrev zD1:Stmt:=top 39
theorem sc_check_room:Ë ["name","amount","at","totals","rooms"] ["name","amount","at","totals","rooms"] (Ç zD1):=scF
theorem zR5 {ca:Ca}(D:DefAt K mg "check_room" zD1)(T:Txt K mg ca)(G_under:FnAt P w K mg base CX0 1 "under" ["one","other"] (zE4))(G_plus:FnAt P w K mg base CX0 2 "plus" ["one","other"] (π)):FnAt P w K mg base CX0 3 "check_room" ["name","amount","at","totals","rooms"] (yN6):=by
 refine D.ok sc_check_room (fun vs H Q E h=>?_) (fun _ _ _ _ _ _ us hl=>match us,hl with | [_,_,_,_,_],_=>rfl) (fun f cdv A outer s H vs Q E hr h=>?_)
 all_goals obtain⟨z,v,n,ps,t,pt,pr,kvt,kvr,g,rfl,hs,hz,hv,bg,bt,hm,k⟩:=h
 ·rfl
 ·have nd:=sc_check_room.nd;refine⟨_,(Å (Ű (PW.pt (xM2 (yP6 (yQ7 (Ù hr) (pv 0) (pv 4))) (xG3 (Ψ (pfn G_under hr (À (Õ (Ù hr) (pv 4) (pv 0) (fun _ _=>rfl)) (À (pfn G_plus hr (À (Õ (Ù hr) (pv 3) (pv 0) (fun _ _=>rfl)) (À (pv 1) Ä))) Ä))))))) (Å yG5) á)),?_⟩;cases e:rmF ps z with
  | none =>
   have dg:=DGet.k (k:=.inr z) hs.dr;rw[hs.rr.not z e]at dg;refine⟨_,rfl,_,rfl,pr,_,rfl,dg,_,rfl,?_⟩;refine iteF ?_;exact k H (Same.refl _)
  | some m =>
   obtain⟨bm,le⟩:=hm m e;obtain⟨w,dg,fm⟩:=hs.room e;obtain⟨u,dt,fu⟩:=hs.tot hz;refine⟨_,rfl,_,rfl,pr,_,rfl,dg,_,rfl,?_⟩;refine iteT ?_;refine⟨_,rfl,_,rfl,pr,w,rfl,dg,_,rfl,_,rfl,pt,u,rfl,dt,_,rfl,_,_,t z,g,rfl,fu,hv,bt.mono (by decide),bg.mono (by decide),fun v1 H1 s1 f1=>?_⟩;refine⟨_,_,m,t z+g,rfl,fm.same s1,f1,bm.mono (by decide),(bt.add bg).mono (by decide),_,rfl,?_⟩;have nl:¬m<t z+g:=by grind
   rw[decide_eq_false nl];refine iteF ?_;exact k H1 s1
noncomputable abbrev zH3:Stmt:=top 40
theorem sc_share_of:Ë ["deed","at","totals","rooms","amount"] ["deed","at","totals","rooms"] (Ç zH3):=scF
theorem yB5 {ca:Ca}(D:DefAt K mg "share_of" zH3)(T:Txt K mg ca)(G_minus:FnAt P w K mg base CX0 3 "minus" ["one","other"] (zH1))(G_under:FnAt P w K mg base CX0 1 "under" ["one","other"] (zE4))(G_over:FnAt P w K mg base (CXE P w) 3 "over" ["one","other"] (yF1 ca.NoNumber)):FnAt P w K mg base CX0 4 "share_of" ["deed","at","totals","rooms"] (zV1):=by
 refine D.ok sc_share_of (fun vs H Q E h=>?_) (fun _ _ _ _ _ _ us hl=>match us,hl with | [_,_,_,_],_=>rfl) (fun f cdv A outer s H vs Q E hr h=>?_)
 all_goals obtain⟨v,d,n,ps,t,pt,pr,kvt,kvr,i,rfl,hs,dv0,hp,ok,go,hI,hi,hro,k⟩:=h
 ·rfl
 ·have nd:=sc_share_of.nd;refine⟨_,(Â (Ű (Ô Ν (pixT (pv 0) Ã) í (Ý _)) (Å (Î (pixT (pv 0) Ã))) á)
   (Â (Ű (Ô Ν (pixT (pv 0) Ã) í (Ý _)) (Å (Î (Ñ (À Ã (À Ã Ä))))) á)
   (Â (É (i:=4) nd rfl (Or.inl rfl) (zK5 (Ô Ν (pixT (pv 0) Ã) í (Ý _)) (pixT (pv 0) Ã) (pfn G_minus hr (À (Õ (Ù hr) (pv 3) (pixT (pv 0) Ã) (fun _ _=>rfl)) (À (Õ (Ù hr) (pv 2) (pixT (pv 0) Ã) (fun _ _=>rfl)) Ä)))))
   (Â (Ű (Ψ (pfn G_under hr (À (Õ (Ù hr) (pv 2) (pixT (pv 0) Ã) (fun _ _=>rfl)) (À (pv 4) Ä)))) (Å yG5) á)
   (Â (Ű (Ô (zM5 (K:=K) rfl hr) (pv 4) (Ñ (À Ã (À Ã Ä))) (Ý _)) (Å (Î (Ñ (À Ã (À Ã Ä))))) á)
   (Å (Î (yY5 G_over hr (by rfl) yQ8 (À (pv 4) (À (Õ (Ù hr) (pv 2) (pixT (pv 0) Ã) (fun _ _=>rfl)) Ä)))))))))),?_⟩
  have P:=PsD.of hI hro hi hp ok go;have fx:=hs.tot (Ó P.x);have bx:=(hI.sz _ (Ó P.x)).bd (by lia);have bg:=P.g.bd (by lia);have g0:=P.g.nn;have gle:=P.le;cases d with
  | br _ _ _=>cases hp
  | yr=>cases hp
  | pt x y q =>
   obtain⟨a,f,rfl,ha,hf⟩:=dv0;refine⟨_,rfl,a,_,_,_,rfl,rfl,SqT.of ha,rfl,rfl,_,rfl,?_⟩;refine ŵ rfl ?_;exact⟨_,rfl,a,_,_,_,rfl,rfl,SqT.of ha,rfl,k _ _ (Same.refl _) hf⟩
  | al x y =>
   obtain⟨a,rfl,ha⟩:=dv0;refine⟨_,rfl,a,_,_,_,rfl,rfl,SqT.of ha,rfl,rfl,_,rfl,?_⟩;refine é (by decide +kernel) ?_;refine⟨_,rfl,a,_,_,_,rfl,rfl,SqT.of ha,rfl,rfl,_,rfl,?_⟩;refine ŵ rfl ?_;exact⟨sz (by simp),fun p hp=>k _ _ (Same.upd hp) (FrV.newOf rfl rfl)⟩
  | fl x y =>
   obtain⟨a,rfl,ha⟩:=dv0;refine⟨_,rfl,a,_,_,_,rfl,rfl,SqT.of ha,rfl,rfl,_,rfl,?_⟩;refine é (by decide +kernel) ?_;refine⟨_,rfl,a,_,_,_,rfl,rfl,SqT.of ha,rfl,rfl,_,rfl,?_⟩;refine é (by decide +kernel) ?_;refine⟨_,rfl,a,_,_,_,rfl,rfl,SqT.of ha,rfl,rfl,_,rfl,?_⟩;refine é (by decide +kernel) ?_;obtain⟨_,m,hm,hsz,_⟩:=hI.rmS hro ok.2.1;obtain⟨w,dg,fm⟩:=hs.room hm;obtain⟨u,dt,fu⟩:=hs.tot (Ó ok.2.1);refine⟨_,rfl,_,rfl,a,_,_,_,rfl,rfl,SqT.of ha,rfl,pr,w,rfl,dg,_,rfl,_,rfl,a,_,_,_,rfl,rfl,SqT.of ha,rfl,pt,u,rfl,dt,_,_,m,t y,rfl,fm,fu,(hsz.bd (by lia)).mono (by decide),((hI.sz y (Ó ok.2.1)).bd (by lia)).mono (by decide),fun v1 H1 s1 f1=>?_⟩;have f1:FrV H1 v1 ((rmF ps y).getD 0 - t y):=by rw[hm];exact f1
   have hs1:=hs.same s1;have ha1:=s1 _ _ ha;obtain⟨ux,dx,fux⟩:=hs1.tot (Ó P.x);refine⟨_,rfl,_,rfl,a,_,_,_,rfl,rfl,SqT.of ha1,rfl,pt,ux,rfl,dx,_,rfl,_,_,t x,(rmF ps y).getD 0 - t y,rfl,fux,f1,bx.mono (by decide),bg.mono (by decide),_,rfl,?_⟩;have nl:¬t x<(rmF ps y).getD 0 - t y:=by
    have:(rmF ps y).getD 0 - t y<=t x:=gle
    grind
   rw[decide_eq_false nl];refine iteF ?_;refine⟨_,rfl,sz (by simp),fun p0 hp0=>?_⟩;have t0:=Same.upd (o:=.tup [.int 0,.int 1]) hp0;refine⟨_,_,(f1.same t0).rep,ν (SqT.of Á),Ż _ _,_,rfl,?_⟩;rw[zN4];refine ite2 (fun h=>?_) (fun h=>?_)
   ·have h0:(rmF ps y).getD 0 - t y=0:=of_decide_eq_true ((ο _ 0).symm.trans h);refine⟨sz (by simp),fun p hp=>k _ _ (s1.trans (t0.trans (Same.upd hp))) ?_⟩;show FrV _ _ (((rmF ps y).getD 0 - t y) / t x);rw[h0,Rat.div_def,ň];exact FrV.newOf rfl rfl
   ·have h0:¬(rmF ps y).getD 0 - t y=0:=fun e=>h ((ο _ 0).trans (decide_eq_true e));have tx0:t x≠0:=fun e=>h0 (by
     have h1:0<=(rmF ps y).getD 0 - t y:=g0;have h2:(rmF ps y).getD 0 - t y<=t x:=gle
     grind)
    have hs2:=hs1.same t0;obtain⟨ux,dx,fux⟩:=hs2.tot (Ó P.x);refine⟨_,rfl,_,rfl,_,rfl,a,_,_,_,rfl,rfl,SqT.of (t0 _ _ ha1),rfl,pt,ux,rfl,dx,_,_,(rmF ps y).getD 0 - t y,t x,rfl,f1.same t0,fux,bg.mono (by decide),bx.mono (by decide),(fun _ w2 H2 s2 f2=>k _ _ (s1.trans (t0.trans s2)) f2),fun e=>absurd e tx0⟩
  | mv x y r =>
   obtain⟨a,f,rfl,ha,hf⟩:=dv0;refine⟨_,rfl,a,_,_,_,rfl,rfl,SqT.of ha,rfl,rfl,_,rfl,?_⟩;refine é (by decide +kernel) ?_;refine⟨_,rfl,a,_,_,_,rfl,rfl,SqT.of ha,rfl,rfl,_,rfl,?_⟩;refine é (by decide +kernel) ?_;refine⟨_,rfl,a,_,_,_,rfl,rfl,SqT.of ha,rfl,rfl,_,rfl,?_⟩;refine ŵ rfl ?_;refine⟨_,rfl,a,_,_,_,rfl,rfl,SqT.of ha,rfl,?_⟩;obtain⟨ux,dx,fux⟩:=fx;refine⟨_,rfl,_,rfl,a,_,_,_,rfl,rfl,SqT.of ha,rfl,pt,ux,rfl,dx,_,rfl,_,_,t x,r,rfl,fux,hf,bx.mono (by decide),bg.mono (by decide),_,rfl,?_⟩;have nl:¬t x<r:=by
    have:r<=t x:=gle
    grind
   rw[decide_eq_false nl];refine iteF ?_;refine⟨_,rfl,sz (by simp),fun p0 hp0=>?_⟩;have t0:=Same.upd (o:=.tup [.int 0,.int 1]) hp0;refine⟨_,_,(hf.same t0).rep,ν (SqT.of Á),Ż _ _,_,rfl,?_⟩;rw[zN4];refine ite2 (fun h=>?_) (fun h=>?_)
   ·have h0:r=0:=of_decide_eq_true ((ο _ 0).symm.trans h);refine⟨sz (by simp),fun p hp=>k _ _ (t0.trans (Same.upd hp)) ?_⟩;show FrV _ _ (r / t x);rw[h0,Rat.div_def,ň];exact FrV.newOf rfl rfl
   ·have h0:¬r=0:=fun e=>h ((ο _ 0).trans (decide_eq_true e));have tx0:t x≠0:=fun e=>h0 (by
     have h1:0<=r:=g0;have h2:r<=t x:=gle
     grind)
    have hs2:=hs.same t0;obtain⟨ux,dx,fux⟩:=hs2.tot (Ó P.x);refine⟨_,rfl,_,rfl,_,rfl,a,_,_,_,rfl,rfl,SqT.of (t0 _ _ ha),rfl,pt,ux,rfl,dx,_,_,r,t x,rfl,hf.same t0,fux,bg.mono (by decide),bx.mono (by decide),(fun _ w2 H2 s2 f2=>k _ _ (t0.trans s2) f2),fun e=>absurd e tx0⟩
noncomputable abbrev zL7:Stmt:=top 41
theorem sc_step_of:Ë ["deed","at","year","totals","rooms","share"] ["deed","at","year","totals","rooms"] (Ç zL7):=scF
theorem yK5 {ca:Ca}(D:DefAt K mg "step_of" zL7)(T:Txt K mg ca)(G_check_room:FnAt P w K mg base CX0 3 "check_room" ["name","amount","at","totals","rooms"] (yN6))(G_share_of:FnAt P w K mg base CX0 4 "share_of" ["deed","at","totals","rooms"] (zV1))(G_times:FnAt P w K mg base CX0 2 "times" ["one","other"] (spTimes)):FnAt P w K mg base CX0 5 "step_of" ["deed","at","year","totals","rooms"] (yE9):=by
 refine D.ok sc_step_of (fun vs H Q E h=>?_) (fun _ _ _ _ _ _ us hl=>match us,hl with | [_,_,_,_,_],_=>rfl) (fun f cdv A outer s H vs Q E hr h=>?_)
 all_goals obtain⟨v,d,n,yr,ps,t,pt,pr,kvt,kvr,i,rfl,hs,dv0,hy,ok,go,hI,hi,hro,k⟩:=h
 ·rfl
 ·have nd:=sc_step_of.nd;refine⟨_,(Â (Ű (Ô Ν (pixT (pv 0) Ã) í (Ý _)) (Â (ð (pfn G_check_room hr (À (pixT (pv 0) Ã) (À (pixT (pv 0) Ã) (À (pv 1) (À (pv 3) (À (pv 4) Ä)))))))
   (Å (Î (Ñ (À í (À (Ñ (À (pixT (pv 0) Ã) (À (pv 2) Ä))) (À (pixT (pv 0) Ã) (À (pixT (pv 0) Ã) Ä)))))))) á)
   (Â (É (i:=5) nd rfl (Or.inl rfl) (pfn G_share_of hr (À (pv 0) (À (pv 1) (À (pv 3) (À (pv 4) Ä))))))
   (Â (ð (pfn G_check_room hr (À (pixT (pv 0) Ã) (À (pfn G_times hr (À (Õ (Ù hr) (pv 3) (pixT (pv 0) Ã) (fun _ _=>rfl)) (À (pv 5) Ä))) (À (pv 1) (À (pv 3) (À (pv 4) Ä)))))))
   (Å (Î (Ñ (À í (À (pixT (pv 0) Ã) (À (pixT (pv 0) Ã) (À (pv 5) Ä)))))))))),?_⟩
  have brm:∀{z:Str} {m:Rat},rmF ps z=some m->Bd 2000 m:=fun {z m} e=>((hro z m (Ŷ e).2).bd (by lia)).mono (by decide);cases hp:isP d with
  | false =>
   cases d with
   | br z x r =>
    obtain⟨a,f,rfl,ha,hf⟩:=dv0;have br:Bd 2000 r:=(ok.2.2.bd (by lia)).mono (by decide);have bt:Bd 2000 (t x):=((hI.sz x (Ó ok.1)).bd (by lia)).mono (by decide);refine⟨_,rfl,a,_,_,_,rfl,rfl,SqT.of ha,rfl,rfl,_,rfl,?_⟩;refine ŵ rfl ?_;refine⟨_,rfl,a,_,_,_,rfl,rfl,SqT.of ha,rfl,_,rfl,a,_,_,_,rfl,rfl,SqT.of ha,rfl,_,rfl,_,rfl,_,rfl,x,f,n,ps,t,pt,pr,kvt,kvr,r,rfl,hs,Ó ok.1,hf,br,bt,(fun m e=>⟨brm e,go m e⟩),fun H1 s1=>?_⟩;have ha1:=s1 _ _ ha;refine⟨_,rfl,a,_,_,_,rfl,rfl,SqT.of ha1,rfl,_,rfl,sz (by simp),fun l hl=>?_⟩;have t2:=Same.upd (o:=.tup [V.str z,.int yr]) hl;refine⟨_,rfl,a,_,_,_,rfl,rfl,SqT.of (t2 _ _ ha1),rfl,_,rfl,a,_,_,_,rfl,rfl,SqT.of (t2 _ _ ha1),rfl,sz (by simp),fun l2 hl2=>?_⟩;have t3:=Same.upd (o:=.tup [V.str "bring",.ref l,.str x,f]) hl2;exact k _ _ (.br z yr x r) (s1.trans (t2.trans t3)) ⟨l2,l,f,rfl,Á,t3 _ _ Á,hf.same (s1.trans (t2.trans t3))⟩ rfl
   | yr=>exact absurd rfl hy
   | _=>cases hp
  | true =>
   have P:=PsD.of hI hro hi hp ok go;obtain⟨a,ys,rfl,ha,e0,e1,e2⟩:=dv0.pass hy;have e1:=e1 hp;have nb:¬V.str (kdD d)=V.str "bring":=fun e=>by
    have:=(kd_br.mp e).1;rw[hp]at this;cases this
   refine⟨_,rfl,a,_,_,_,rfl,rfl,SqT.of ha,e0,rfl,_,rfl,?_⟩;refine é nb ?_;refine⟨_,rfl,_,rfl,_,rfl,_,rfl,.ref a,d,n,ps,t,pt,pr,kvt,kvr,i,rfl,hs,dv0,hp,ok,go,hI,hi,hro,fun w H1 s1 f1=>?_⟩;have hs1:=hs.same s1;have ha1:=s1 _ _ ha;obtain⟨ux,dx,fux⟩:=hs1.tot (Ó P.x);have bx:Bd 2000 (t (frD d)):=((hI.sz _ (Ó P.x)).bd (by lia)).mono (by decide);have by':Bd 2000 (t (toD d)):=((hI.sz _ P.y).bd (by lia)).mono (by decide)
   refine⟨_,rfl,a,_,_,_,rfl,rfl,SqT.of ha1,e2,_,rfl,_,rfl,a,_,_,_,rfl,rfl,SqT.of ha1,e1,pt,ux,rfl,dx,_,rfl,spTimes.of (E:=E0) rfl fux f1 (bx.mono (by decide)) (P.b.mono (by decide)) fun v2 H2 s2 f2=>?_⟩;rw[P.sh]at f2;have hs2:=hs1.same s2;refine⟨_,rfl,_,rfl,_,rfl,toD d,v2,n,ps,t,pt,pr,kvt,kvr,gsD ps t d,rfl,hs2,P.y,f2,(P.g.bd (by lia)).mono (by decide),by',(fun m e=>⟨brm e,P.rm m e⟩),fun H3 s3=>?_⟩;have s13:=s2.trans s3;have ha3:=s13 _ _ ha1;refine⟨_,rfl,a,_,_,_,rfl,rfl,SqT.of ha3,e1,_,rfl,a,_,_,_,rfl,rfl,SqT.of ha3,e2,_,rfl,sz (by simp),fun l hl=>?_⟩;have t4:=Same.upd (o:=.tup [V.str "pass",.str (frD d),.str (toD d),w]) hl;exact k _ _ (.ps (frD d) (toD d) (shD ps t d)) (s1.trans (s13.trans t4)) ⟨l,w,rfl,Á,f1.same (s13.trans t4)⟩ (P.st yr)
noncomputable abbrev zH9:Stmt:=top 42
theorem sc_add_step:Ë ["totals","step","amount"] ["totals","step"] (Ç zH9):=scF
theorem yC1 {ca:Ca}(D:DefAt K mg "add_step" zH9)(T:Txt K mg ca)(G_plus:FnAt P w K mg base CX0 2 "plus" ["one","other"] (π))(G_times:FnAt P w K mg base CX0 2 "times" ["one","other"] (spTimes))(G_minus:FnAt P w K mg base CX0 3 "minus" ["one","other"] (zH1)):FnAt P w K mg base CX0 4 "add_step" ["totals","step"] (zV5):=by
 refine D.ok sc_add_step (fun vs H Q E h=>?_) (fun _ _ _ _ _ _ us hl=>match us,hl with | [_,_],_=>rfl) (fun f cdv A outer s H vs Q E hr h=>?_)
 all_goals obtain⟨pt,w,s,kv,L,t,rfl,ht,row,l8,sv,fit,k⟩:=h
 ·rfl
 ·have nd:=sc_add_step.nd;refine⟨_,(Å (Ű (Ô Ν (pixT (pv 1) Ã) í (Ý _)) (Å (ã (Ù hr) (pv 0) (pixT (pv 1) Ã) (pfn G_plus hr (À (Õ (Ù hr) (pv 0) (pixT (pv 1) Ã) (fun _ _=>rfl)) (À (pixT (pv 1) Ã) Ä))) rfl)) (Â (É (i:=2) nd rfl (Or.inl rfl) (pfn G_times hr (À (Õ (Ù hr) (pv 0) (pixT (pv 1) Ã) (fun _ _=>rfl)) (À (pixT (pv 1) Ã) Ä))))
   (Â (ã (Ù hr) (pv 0) (pixT (pv 1) Ã) (pfn G_minus hr (À (Õ (Ù hr) (pv 0) (pixT (pv 1) Ã) (fun _ _=>rfl)) (À (pv 2) Ä))) rfl)
   (Å (ã (Ù hr) (pv 0) (pixT (pv 1) Ã) (pfn G_plus hr (À (Õ (Ù hr) (pv 0) (pixT (pv 1) Ã) (fun _ _=>rfl)) (À (pv 2) Ä))) rfl)))))),?_⟩
  have len:kv.length<=L.length:=row.lenO fun z hz=>yE2 hz;have get:∀{H1:Hp} {kv1:List (Key×V)} {t1:Str->Rat},H1 pt=some (.dK kv1)->RowAt H1 kv1 (all L t1)->∀{z:Str},z∈L->∃v,DGet H1 pt (.str z) (some v) /\ FrV H1 v (t1 z):=fun {H1 kv1 t1} h1 r1 {z} hz=>by
   obtain⟨v,e,f⟩:=r1.get hz;refine⟨v,?_,f⟩;have g:=DGet.k (k:=.inr z) h1;rw[e]at g;exact g
  cases s with
  | br z n x r =>
   obtain⟨a,l,f,rfl,ha,hl,hf⟩:=sv;obtain⟨hx,bt,br⟩:=fit;obtain⟨u,dg,fu⟩:=get ht row hx;refine⟨_,rfl,a,_,_,_,rfl,rfl,SqT.of ha,rfl,rfl,_,rfl,?_⟩;refine ŵ rfl ?_;refine⟨_,rfl,_,rfl,a,_,_,_,rfl,rfl,SqT.of ha,rfl,pt,u,rfl,dg,_,rfl,a,_,_,_,rfl,rfl,SqT.of ha,rfl,_,_,t x,r,rfl,fu,hf,bt.mono (by decide),br.mono (by decide),fun v1 H1 s1 f1=>?_⟩;have ht1:=s1 _ _ ht;refine⟨_,rfl,_,rfl,a,_,_,_,rfl,rfl,SqT.of (s1 _ _ ha),rfl,pt,upd H1 pt (.dK (putK kv (.inr x) v1)),rfl,DPut.k (k:=.inr x) ht1 (sz (by lia)),?_⟩;refine k _ (putK kv (.inr x) v1) (fun c o e n=>by rw[upd_ne n];exact s1 _ _ e) Á ?_;have r1:=((row.same fun _ _ g=>g.same s1).put (z:=x) f1).same fun v r g=>g.tup (Ì (o:=.dK (putK kv (.inr x) v1)) ht1 (fun _ z=>nomatch z));rw[zF2 hx]at r1;exact r1
  | ps x y q =>
   obtain⟨a,f,rfl,ha,hf⟩:=sv;obtain⟨hx,hy,hxy,bx,by',bq,bm⟩:=fit;obtain⟨u,dg,fu⟩:=get ht row hx;refine⟨_,rfl,a,_,_,_,rfl,rfl,SqT.of ha,rfl,rfl,_,rfl,?_⟩;refine é (by decide +kernel) ?_;refine⟨_,rfl,_,rfl,a,_,_,_,rfl,rfl,SqT.of ha,rfl,pt,u,rfl,dg,_,rfl,a,_,_,_,rfl,rfl,SqT.of ha,rfl,spTimes.of (E:=E0) rfl fu hf (bx.mono (by decide)) (bq.mono (by decide)) fun v1 H1 s1 f1=>?_⟩;have ht1:=s1 _ _ ht;have row1:=row.same fun _ _ g=>g.same s1;have ha1:=s1 _ _ ha;obtain⟨u1,dg1,fu1⟩:=get ht1 row1 hx;refine⟨_,rfl,_,rfl,a,_,_,_,rfl,rfl,SqT.of ha1,rfl,pt,u1,rfl,dg1,_,rfl,_,_,t x,t x*q,rfl,fu1,f1,bx.mono (by decide),bm.mono (by decide),fun v2 H2 s2 f2=>?_⟩;have ht2:=s2 _ _ ht1;have ha2:=s2 _ _ ha1;refine⟨_,rfl,_,rfl,a,_,_,_,rfl,rfl,SqT.of ha2,rfl,pt,upd H2 pt (.dK (putK kv (.inr x) v2)),rfl,DPut.k (k:=.inr x) ht2 (sz (by lia)),?_⟩;have tu3:∀b ys,H2 b=some (.tup ys)->upd H2 pt (.dK (putK kv (.inr x) v2)) b=some (.tup ys):=Ì ht2 (fun _ z=>nomatch z);have row3:=((row1.same fun _ _ g=>g.same s2).put (z:=x) f2).same fun v r g=>g.tup tu3;rw[zF2 hx]at row3;have f13:=(f1.same s2).tup tu3;have ha3:=tu3 _ _ ha2;have ht3:=Á (H:=H2) (a:=pt) (o:=.dK (putK kv (.inr x) v2));have k3:∀c o,H c=some o->c≠pt->upd H2 pt (.dK (putK kv (.inr x) v2)) c=some o:=fun c o e n=>by rw[upd_ne n];exact s2 _ _ (s1 _ _ e)
   have len3:=zA1 kv (.inr x) v2;generalize upd H2 pt (.dK (putK kv (.inr x) v2))=H3 at *;generalize putK kv (.inr x) v2=kv3 at *;obtain⟨u3,dg3,fu3⟩:=get ht3 row3 hy;have ey:(if y=x then t x - t x*q else t y)=t y:=if_neg fun e=>hxy e.symm;rw[ey]at fu3;refine⟨_,rfl,_,rfl,a,_,_,_,rfl,rfl,SqT.of ha3,rfl,pt,u3,rfl,dg3,_,rfl,_,_,t y,t x*q,rfl,fu3,f13,by'.mono (by decide),bm.mono (by decide),fun v4 H4 s4 f4=>?_⟩;have ht4:=s4 _ _ ht3;refine⟨_,rfl,_,rfl,a,_,_,_,rfl,rfl,SqT.of (s4 _ _ ha3),rfl,pt,upd H4 pt (.dK (putK kv3 (.inr y) v4)),rfl,DPut.k (k:=.inr y) ht4 (sz (by lia)),?_⟩;refine k _ (putK kv3 (.inr y) v4) (fun c o e n=>by rw[upd_ne n];exact s4 _ _ (k3 c o e n)) Á ?_;have row5:=((row3.same fun _ _ g=>g.same s4).put (z:=y) f4).same fun v r g=>g.tup (Ì (o:=.dK (putK kv3 (.inr y) v4)) ht4 (fun _ z=>nomatch z));rw[zF2 hy]at row5;have ef:(fun z=>if z=y then t y+t x*q else if z=x then t x - t x*q else t z)=adS t (.ps x y q):=by
    funext z
    show _=if z=x then t x - t x*q else if z=y then t y+t x*q else t z
    by_cases h1:z=x
    ·rw[if_pos h1,if_neg (fun h2=>hxy (h1.symm.trans h2)),if_pos h1]
    ·rw[if_neg h1,if_neg h1]
   rw[<- ef];exact row5
noncomputable abbrev zH2:Stmt:=top 43
theorem sc_steps_of:Ë ["house","totals","year","deeds","rooms","now","steps","at","deed","step"] ["house","totals","year","deeds"] (Ç zH2):=scF
theorem yB4 {ca:Ca}(D:DefAt K mg "steps_of" zH2)(T:Txt K mg ca)(G_rooms_of:FnAt P w K mg base CX0 1 "rooms_of" ["house"] (yN1 K))(G_step_of:FnAt P w K mg base CX0 5 "step_of" ["deed","at","year","totals","rooms"] (yE9))(G_add_step:FnAt P w K mg base CX0 4 "add_step" ["totals","step"] (zV5)):FnAt P w K mg base CX0 6 "steps_of" ["house","totals","year","deeds"] (zV0 K):=by
 refine D.ok sc_steps_of (fun vs H Q E h=>?_) (fun _ _ _ _ _ _ us hl=>match us,hl with | [_,_,_,_],_=>rfl) (fun f cdv A outer s H vs Q E hr h=>?_)
 all_goals obtain⟨ah,pt,n,ad,xs,ps,kvt,ys,ds,t0,rfl,hS,hP,hH,hro,ht,rt,hD,hPd,hG,hI0,h42,k⟩:=h
 ·rfl
 ·have nd:=sc_steps_of.nd;refine⟨_,(Â (É (i:=4) nd rfl (Or.inl rfl) (pfn G_rooms_of hr (À (pv 0) Ä)))
   (Â (É (i:=5) nd rfl (Or.inl rfl) (ö zE1 (by rfl) T.z_dict zN9 (À (pv 1) Ä)))
   (Â (É (i:=6) nd rfl (Or.inl rfl) (Γ Ä))
   (Â (Ú PassesOwn.never rfl (yQ2 (K:=K) rfl (by rfl) T.z_enumerate (À (pv 3) Ä)) (Η rfl (Ï (È (i:=7) nd rfl (Or.inl rfl)) (Ï (È (i:=8) nd rfl (Or.inl rfl)) ŭ))) (Å (Ű (Ô Ν (pixT (pv 8) Ã) í (Ý _)) (Å (yP7 (i:=2) nd rfl (Or.inl rfl) Ã yT7)) (Â (É (i:=9) nd rfl (Or.inl rfl) (pfn G_step_of hr (À (pv 8) (À (pv 7) (À (pv 2) (À (pv 5) (À (pv 4) Ä)))))))
   (Â (ð (pfn G_add_step hr (À (pv 5) (À (pv 9) Ä))))
   (Å (ð (θ PySem.F.plainAttrs_list PySem.F.slot_list_append PySem.F.type_list_append è (pv 6) (À (pv 9) Ä)))))))))
   (Å (Î (Ñ (À (pv 6) (À (pv 5) Ä))))))))),?_⟩
  have hlen:ys.length=ds.length:=hPd.length;refine⟨_,rfl,ah,xs,ps,rfl,hS,hP,hH,fun pr H1 kvr hpr s1 h1 rr=>?_⟩;refine⟨_,rfl,pt,kvt,rfl,s1 _ _ ht,fun pn hpn=>?_⟩;have t2:=Same.upd (o:=.dK kvt) hpn;refine⟨sz (by simp),fun pl hpl=>?_⟩;have t3:=t2.trans (Same.upd (o:=.lst []) hpl);have s3:=s1.trans t3;have hn3:upd (upd H1 pn (.dK kvt)) pl (.lst []) pn=some (.dK kvt):=(Same.upd (o:=.lst []) hpl) _ _ Á;have hl3:=Á (H:=upd H1 pn (.dK kvt)) (a:=pl) (o:=.lst []);have hr3:=t3 _ _ h1;have rt3:=rt.same fun _ _ g=>g.same s3;have rr3:=rr.same fun _ _ g=>g.same t3;have npn0:H pn=none:=s1.free hpn;have npl0:H pl=none:=s1.free (t2.free hpl);have nln:pl≠pn:=fun e=>by rw[e,Á]at hpl;cases hpl
  have nrn:pr≠pn:=Æ h1 hpn;have nrl:pr≠pl:=Æ (t2 _ _ h1) hpl;generalize upd (upd H1 pn (.dK kvt)) pl (.lst [])=H3 at *;refine⟨_,rfl,ad,_,rfl,s3.seq hD,?_⟩;refine yH9 (xs:=ys) (fun j σ H4=>∃(v7 v8 v9:Option V) (ws:List V) (kv:List (Key×V)),σ=[some (.ref ah),some (.ref pt),some (.int (run ps t0 n (ds.take j)).n),some (.ref ad),some (.ref pr),some (.ref pn),some (.ref pl),v7,v8,v9] /\ Same H H4 /\ H4 pl=some (.lst ws) /\ Paired (StV H4) ws (run ps t0 n (ds.take j)).ss /\ ws.length<=j /\ H4 pn=some (.dK kv) /\ RowAt H4 kv (all (allN ps) (run ps t0 n (ds.take j)).t) /\ H4 pr=some (.dK kvr) /\ RowAt H4 kvr (rmF ps)) ⟨none,none,none,[],kvt,rfl,s3,hl3,.nil,ą _,hn3,rt3,hr3,rr3⟩ ?_ ?_ ?_
  ·rintro j σ H4 hj ⟨v7,v8,v9,ws,kv,rfl,s4,hl4,hW,lw,hn4,rt4,hr4,rr4⟩;exact s4.seq hD
  ·rintro j x T σ H4 hx ⟨v7,v8,v9,ws,kv,rfl,s4,hl4,hW,lw,hn4,rt4,hr4,rr4⟩ hT;obtain⟨d,hd,dv0⟩:=Ü hPd hx;have hj:j<ds.length:=(Ą.mp hd).1;have tT:=Same.upd (o:=.tup [.int (j:Nat),x]) hT;refine⟨T,_,rfl,SqT.of Á,rfl,_,_,rfl,_,_,rfl,rfl,?_⟩;have s5:=s4.trans tT;have hl5:=tT _ _ hl4;have hW5:=õ hW tT;have hn5:=tT _ _ hn4;have rt5:=rt4.same fun _ _ g=>g.same tT;have hr5:=tT _ _ hr4;have rr5:=rr4.same fun _ _ g=>g.same tT;have dv5:=dv0.same s5;generalize upd H4 T (.tup [.int (j:Nat),x])=H5 at *;obtain⟨ok,go⟩:=hG j d hd;have hI:=Goes.inT hro hI0 hG j (by lia);have en:=Ø hd;have er:=yF8 ps t0 n (ds.take j) d;rw[<- en]at er;rw[er];let R:=run ps t0 n (ds.take j);obtain⟨a,zs,rfl,ha,e0⟩:=dv5.kd;refine⟨_,rfl,a,_,_,_,rfl,rfl,SqT.of ha,e0,rfl,_,rfl,?_⟩
   by_cases hy:d = .yr
   ·subst hy;refine ŵ rfl ?_;refine⟨_,rfl,_,_,rfl,rfl,?_⟩;refine⟨_,_,_,ws,kv,rfl,s5,hl5,?_,by lia,hn5,rt5,hr5,rr5⟩;show Paired (StV H5) ws ((run ps t0 n (ds.take j)).ss++[]);rw[ļ];exact hW5
   ·refine é (fun e=>hy (kd_yr.mp e)) ?_;have hs5:Hs H5 ps (run ps t0 n (ds.take j)).t pn pr kv kvr:=⟨hn5,rt5,hr5,rr5⟩;refine⟨_,rfl,_,rfl,_,rfl,_,rfl,_,rfl,.ref a,d,(j:Nat),(run ps t0 n (ds.take j)).n,ps,(run ps t0 n (ds.take j)).t,pn,pr,kv,kvr,2*j,rfl,hs5,dv5,hy,ok,go,hI,by lia,hro,fun w H6 s s6 sv es=>?_⟩;have hs6:=hs5.same s6;have eyr:yrD d=0:=by cases d<;>first | rfl | exact absurd rfl hy
    have fit:FitS (allN ps) (run ps t0 n (ds.take j)).t s /\ adS (run ps t0 n (ds.take j)).t s=ptT ps (run ps t0 n (ds.take j)).t d:=by
     cases hp:isP d with
     | true =>
      have P:=PsD.of hI hro (by lia) hp ok go;rw[P.st]at es;have es:=(List.cons.inj es).1;subst es;refine⟨⟨Ó P.x,P.y,P.ne,((hI.sz _ (Ó P.x)).bd (by lia)).mono (by decide),((hI.sz _ P.y).bd (by lia)).mono (by decide),P.b.mono (by decide),?_⟩,?_⟩
      ·rw[P.sh];exact(P.g.bd (by lia)).mono (by decide)
      ·show mvT (frD d) (toD d) ((run ps t0 n (ds.take j)).t (frD d)*shD ps (run ps t0 n (ds.take j)).t d) _=_;rw[P.sh,P.pt]
     | false =>
      cases d with
      | br z x r =>
       have es:=(List.cons.inj es).1;subst es;exact⟨⟨Ó ok.1,((hI.sz _ (Ó ok.1)).bd (by lia)).mono (by decide),(ok.2.2.bd (by lia)).mono (by decide)⟩,rfl⟩
      | yr=>exact absurd rfl hy
      | _=>cases hp
    refine⟨_,rfl,_,rfl,pn,w,s,kv,allN ps,(run ps t0 n (ds.take j)).t,rfl,hs6.dt,hs6.rt,(by unfold allN;rw[ā];exact hH.len),sv,fit.1,fun H7 kv7 k7 hn7 r7=>?_⟩;rw[fit.2]at r7;have tu7:∀b zs,H6 b=some (.tup zs)->H7 b=some (.tup zs):=fun b zs e=>k7 b _ e (å e hs6.dt (by intro z;cases z));have hl7:=k7 _ _ (s6 _ _ hl5) nln;have hr7:=k7 _ _ hs6.dr nrn;have s07:Same H H7:=fun c o e=>k7 _ _ (s6 _ _ (s5 _ _ e)) (Æ e npn0);refine⟨_,rfl,.inl ⟨rfl,_,SqL.of hl7⟩,_,rfl,pl,_,_,rfl,rfl,hl7,sz (by lia),?_⟩;have tu8:∀b zs,H7 b=some (.tup zs)->upd H7 pl (.lst (ws++[w])) b=some (.tup zs):=Ì hl7 (fun _ z=>nomatch z);refine⟨some (.int (j:Nat)),some (.ref a),some w,ws++[w],kv7,?_,s07.updD npl0,Á,?_,by rw[Ď];show ws.length+1<=j+1;lia,by rw[upd_ne nln.symm];exact hn7,r7.same fun _ _ g=>g.tup tu8,by rw[upd_ne nrl];exact hr7,(hs6.rr.same fun _ _ g=>g.tup tu7).same fun _ _ g=>g.tup tu8⟩
    ·have en2:(advD ps (run ps t0 n (ds.take j)) d).n=(run ps t0 n (ds.take j)).n:=by
      show (run ps t0 n (ds.take j)).n+yrD d=_;rw[eyr,Int.add_zero]
     rw[en2];rfl
    ·show Paired _ _ ((run ps t0 n (ds.take j)).ss++stD ps (run ps t0 n (ds.take j)).t (run ps t0 n (ds.take j)).n d);rw[es];exact Paired.snoc (Paired.mapP hW5 fun _ _ f=>((f.same s6).tup tu7).tup tu8) ((sv.tup tu7).tup tu8)
  ·rintro σ H4 ⟨v7,v8,v9,ws,kv,rfl,s4,hl4,hW,lw,hn4,rt4,hr4,rr4⟩;rw[hlen,đ]at hW rt4;refine⟨_,rfl,_,rfl,sz (by simp),fun l hl=>?_⟩;have t5:=Same.upd (o:=.tup [V.ref pl,.ref pn]) hl;exact k l pl pn _ ws kv (s4.trans t5) Á npl0 npn0 (t5 _ _ hl4) (õ hW t5) (t5 _ _ hn4) (rt4.same fun _ _ g=>g.same t5)
noncomputable abbrev zB6:Stmt:=top 45
theorem sc__law_cell_at:Ë ["_law_script","_law_k"] ["_law_script","_law_k"] (Ç zB6):=scF
theorem zM8 {ca:Ca}(D:DefAt K mg "_law_cell_at" zB6)(T:Txt K mg ca):FnAt P w K mg base CX0 1 "_law_cell_at" ["_law_script","_law_k"] (xC9 K):=by
 refine D.ok sc__law_cell_at (fun vs H Q E h=>?_) (fun _ _ _ _ _ _ us hl=>match us,hl with | [_,_],_=>rfl) (fun f cdv A outer s H vs Q E hr h=>?_)
 all_goals obtain⟨a,ns,j,rfl,hS,hj,k⟩:=h
 ·rfl
 ·have nd:=sc__law_cell_at.nd;refine⟨_,(Â (Ű (Ô xH3 (pv 1) (ß (ê (K:=K) rfl) (by rfl) T.z_len PySem.boot_len (À (pv 0) Ä)) (Ý _)) (Å (Î (pixL (pv 0) (pv 1)))) á)
   (Å (Î Ã))),?_⟩
  refine⟨_,rfl,_,rfl,_,_,rfl,.inl ⟨_,hS,rfl⟩,_,_,rfl,rfl,_,rfl,?_⟩;refine ite2 (fun h1=>?_) (fun h1=>?_)
  ·obtain⟨c,hc⟩:=xO1 hj (of_decide_eq_true h1);refine⟨_,rfl,_,rfl,a,_,j,_,rfl,rfl,hS,hc,k c⟩
  ·exact k 0
noncomputable abbrev zD7:Stmt:=top 46
theorem sc__law_mixed:Ë ["_law_cell","_law_k"] ["_law_cell","_law_k"] (Ç zD7):=scF
theorem zS1 {ca:Ca}(D:DefAt K mg "_law_mixed" zD7)(T:Txt K mg ca):FnAt P w K mg base CX0 1 "_law_mixed" ["_law_cell","_law_k"] (zQ4):=by
 refine D.ok sc__law_mixed (fun vs H Q E h=>?_) (fun _ _ _ _ _ _ us hl=>match us,hl with | [_,_],_=>rfl) (fun f cdv A outer s H vs Q E hr h=>?_)
 all_goals obtain⟨c,j,rfl,⟨j0,j4⟩,k⟩:=h
 ·rfl
 ·have nd:=sc__law_mixed.nd;refine⟨_,(Å (Î (Í æ (Í û (Í æ (pv 0) Ã) (pixL (Γ (À Ã (À Ã (À Ã (À Ã Ä))))) (pv 1))) (pixL (Γ (À Ã (À Ã (À Ã (À Ã Ä))))) (pv 1))))),?_⟩;have at4:∀(a b c d:Int),∃v:Int,v∈[a,b,c,d] /\ atI [V.int a,.int b,.int c,.int d] j=some (V.int v):=by
   intro a b c d;have:j=0 \/ j=1 \/ j=2 \/ j=3:=by lia
   rcases this with rfl | rfl | rfl | rfl
   ·exact⟨a,by simp,rfl⟩
   ·exact⟨b,by simp,rfl⟩
   ·exact⟨c,by simp,rfl⟩
   ·exact⟨d,by simp,rfl⟩
  obtain⟨u,hu,eu⟩:=at4 48271 69621 16807 39373;obtain⟨w1,hw,ew⟩:=at4 65537 65539 65543 65551;refine⟨_,rfl,_,_,rfl,rfl,(show (1000003:Int)≠0 by decide),sz (by simp),fun p hp=>?_⟩;refine⟨_,rfl,p,_,_,_,rfl,rfl,SqL.of Á,eu,_,_,rfl,rfl,?_,sz (by simp),fun p2 hp2=>?_⟩
  ·have q:=ù (c:=c) (m:=1000003) (by decide);refine ì 64 (ď (m:=1000003) (by lia) (by decide)) (ď (m:=100000) ?_ (by decide)) (by decide);simp at hu;lia
  have hw:0<w1 /\ w1<=65551:=by
   simp at hw;lia
  have q2:=ù (c:=c.fmod 1000003*u) (m:=w1) hw.1;refine⟨_,rfl,p2,_,_,_,rfl,rfl,SqL.of Á,ew,_,_,rfl,rfl,(by lia),?_⟩;exact k _ _ q2.1 (by lia) ((Same.upd hp).trans (Same.upd hp2))
noncomputable abbrev zB5:Stmt:=top 47
theorem sc__law_divisor:Ë ["_law_one","_law_other"] ["_law_one","_law_other"] (Ç zB5):=scF
theorem zM7 {ca:Ca}(D:DefAt K mg "_law_divisor" zB5)(T:Txt K mg ca):FnAt P w K mg base CX0 1 "_law_divisor" ["_law_one","_law_other"] (zV3):=by
 refine D.ok sc__law_divisor (fun vs H Q E h=>?_) (fun _ _ _ _ _ _ us hl=>match us,hl with | [_,_],_=>rfl) (fun f cdv A outer s H vs Q E hr h=>?_)
 all_goals obtain⟨a,b,rfl,k⟩:=h
 ·rfl
 ·have nd:=sc__law_divisor.nd;refine⟨_,(Â (zK4 PassesOwn.never (Ô yY6 (pv 1) Ã (Ý _)) (Å (xM3 (i:=0) (j:=1) rfl nd rfl rfl (by decide) rfl rfl (À (pv 1) (À (Í æ (pv 0) (pv 1)) Ä)) rfl)))
   (Å (Î (ß xB2 (by rfl) T.z_abs xR2 (À (pv 0) Ä))))),?_⟩
  refine zJ8 (fun σ H1=>∃x y:Int,σ=[some (.int x),some (.int y)] /\ H1=H /\ ĭ x y=ĭ a b)
   (fun σ _=>match σ with | [_,some (.int y)]=>y.natAbs | _=>0) ⟨a,b,rfl,rfl,rfl⟩ ?_ ?_
  ·rintro σ H1 ⟨x,y,rfl,rfl,d⟩;refine⟨_,rfl,rfl,_,rfl,?_⟩;refine ite2 (fun h1=>?_) (fun h1=>?_)
   ·have hy:y≠0:=by
     intro e;subst e;simp at h1
    refine⟨_,rfl,_,rfl,_,rfl,_,_,rfl,rfl,hy,_,_,rfl,?_⟩;exact⟨⟨_,_,rfl,rfl,(yH7 x y).trans d⟩,Dv.less hy⟩
   ·have hy:y=0:=by
     by_cases e:y=0
     ·exact e
     ·exact absurd (by simp[e]) h1
    subst hy;refine⟨_,rfl,x,rfl,?_⟩;rw[Int.gcd_zero_right]at d;have e:(if x<0 then -x else x)=((ĭ a b:Nat):Int):=by
     rw[<- d];split<;>lia
    rw[e];exact k
  ·intro σ H1 Q1 Q2 hq h1;obtain⟨v,e,h2,c,e2,h3⟩:=h1;exact⟨v,e,h2,c,e2,hq _ _ h3⟩
noncomputable abbrev zC3:Stmt:=top 48
theorem sc__law_lowest:Ë ["_law_top","_law_bottom","_law_share"] ["_law_top","_law_bottom"] (Ç zC3):=scF
theorem zO4 {ca:Ca}(D:DefAt K mg "_law_lowest" zC3)(T:Txt K mg ca)(G__law_divisor:FnAt P w K mg base CX0 1 "_law_divisor" ["_law_one","_law_other"] (zV3)):FnAt P w K mg base CX0 2 "_law_lowest" ["_law_top","_law_bottom"] (zC8):=by
 refine D.ok sc__law_lowest (fun vs H Q E h=>?_) (fun _ _ _ _ _ _ us hl=>match us,hl with | [_,_],_=>rfl) (fun f cdv A outer s H vs Q E hr h=>?_)
 all_goals obtain⟨t,b,rfl,hb,hbb,k⟩:=h
 ·rfl
 ·have nd:=sc__law_lowest.nd;refine⟨_,(Â (É (i:=2) nd rfl (Or.inl rfl) (pfn G__law_divisor hr (À (pv 0) (À (pv 1) Ä))))
   (Å (Î (Ñ (À (Í ä (pv 0) (pv 2)) (À (Í ä (pv 1) (pv 2)) Ä)))))),?_⟩
  have hb':b≠0:=by lia
  have e:((ĭ t b:Nat):Int)=dv t b:=by
   unfold dv;rw[if_neg (by lia)]
  have hd:∀i,υ i ((ĭ t b:Nat):Int):=fun i=>by rw[e];exact zI8 (χ hb') (ď (yU6 hb') hbb)
  refine⟨_,rfl,_,rfl,t,b,rfl,?_⟩;refine⟨_,rfl,_,rfl,_,_,rfl,rfl,hd _,_,rfl,_,rfl,_,_,rfl,rfl,hd _,sz (by simp),fun p hp=>?_⟩;rw[e];exact k _ _ (Same.upd hp) (FrV.newOf (zY4 hb') (zY5 hb'))
noncomputable abbrev zE6:Stmt:=top 49
theorem sc__law_plus:Ë ["_law_one","_law_other"] ["_law_one","_law_other"] (Ç zE6):=scF
theorem zX1 {ca:Ca}(D:DefAt K mg "_law_plus" zE6)(T:Txt K mg ca)(G__law_lowest:FnAt P w K mg base CX0 2 "_law_lowest" ["_law_top","_law_bottom"] (zC8)):FnAt P w K mg base CX0 3 "_law_plus" ["_law_one","_law_other"] (sp2 4000 (·+·)):=by
 refine D.ok sc__law_plus (fun vs H Q E h=>?_) (fun _ _ _ _ _ _ us hl=>match us,hl with | [_,_],_=>rfl) (fun f cdv A outer s H vs Q E hr h=>?_)
 all_goals obtain⟨_,_,r,q,rfl,⟨a,rfl,ha⟩,⟨b,rfl,hb⟩,br,bq,k⟩:=h
 ·rfl
 ·have nd:=sc__law_plus.nd;refine⟨_,(Å (Î (pfn G__law_lowest hr (À (Í ŷ (Í û (pixT (pv 0) Ã) (pixT (pv 1) Ã)) (Í û (pixT (pv 1) Ã) (pixT (pv 0) Ã))) (À (Í û (pixT (pv 0) Ã) (pixT (pv 1) Ã)) Ä))))),?_⟩;have d1:=Þ r;have d2:=Þ q;refine⟨_,rfl,a,_,_,_,rfl,rfl,SqT.of ha,rfl,_,rfl,b,_,_,_,rfl,rfl,SqT.of hb,rfl,_,_,rfl,rfl,ì 4000 br.num bq.den (by decide),_,rfl,b,_,_,_,rfl,rfl,SqT.of hb,rfl,_,rfl,a,_,_,_,rfl,rfl,SqT.of ha,rfl,_,_,rfl,rfl,ì 4000 bq.num br.den (by decide),_,_,rfl,rfl,_,rfl,a,_,_,_,rfl,rfl,SqT.of ha,rfl,_,rfl,b,_,_,_,rfl,rfl,SqT.of hb,rfl,_,_,rfl,rfl,ì 4000 br.den bq.den (by decide),_,_,rfl,Int.mul_pos (by lia) (by lia),?_,fun v H' s h=>?_⟩
  ·have n1:((r.den:Int)).natAbs<2^4000:=br.den;have n2:((q.den:Int)).natAbs<2^4000:=bq.den;exact č (zA0 n1 n2) (þ (by decide))
  ·rw[<- xE5]at h;exact k v H' s h
noncomputable abbrev zD4:Stmt:=top 51
theorem sc__law_times:Ë ["_law_one","_law_other"] ["_law_one","_law_other"] (Ç zD4):=scF
theorem zR8 {ca:Ca}(D:DefAt K mg "_law_times" zD4)(T:Txt K mg ca)(G__law_lowest:FnAt P w K mg base CX0 2 "_law_lowest" ["_law_top","_law_bottom"] (zC8)):FnAt P w K mg base CX0 3 "_law_times" ["_law_one","_law_other"] (zK0):=by
 refine D.ok sc__law_times (fun vs H Q E h=>?_) (fun _ _ _ _ _ _ us hl=>match us,hl with | [_,_],_=>rfl) (fun f cdv A outer s H vs Q E hr h=>?_)
 all_goals obtain⟨_,_,r,q,rfl,⟨a,t1,b1,rfl,ha,p1,e1,z1,z2⟩,⟨b,t2,b2,rfl,hb,p2,e2,z3,z4⟩,k⟩:=h
 ·rfl
 ·have nd:=sc__law_times.nd;refine⟨_,(Å (Î (pfn G__law_lowest hr (À (Í û (pixT (pv 0) Ã) (pixT (pv 1) Ã)) (À (Í û (pixT (pv 0) Ã) (pixT (pv 1) Ã)) Ä))))),?_⟩;refine⟨_,rfl,a,_,_,_,rfl,rfl,SqT.of ha,rfl,_,rfl,b,_,_,_,rfl,rfl,SqT.of hb,rfl,_,_,rfl,rfl,ì 4000 z1 z3 (by decide),_,rfl,a,_,_,_,rfl,rfl,SqT.of ha,rfl,_,rfl,b,_,_,_,rfl,rfl,SqT.of hb,rfl,_,_,rfl,rfl,ì 4000 z2 z4 (by decide),_,_,rfl,Int.mul_pos p1 p2,?_,fun v H' s h=>?_⟩
  ·exact č (zA0 z2 z4) (þ (by decide))
  ·rw[<- Rat.divInt_mul_divInt _ _,<- e1,<- e2]at h;exact k v H' s h
noncomputable abbrev zD3:Stmt:=top 52
theorem sc__law_under:Ë ["_law_one","_law_other"] ["_law_one","_law_other"] (Ç zD3):=scF
theorem zR7 {ca:Ca}(D:DefAt K mg "_law_under" zD3)(T:Txt K mg ca):FnAt P w K mg base CX0 1 "_law_under" ["_law_one","_law_other"] (zE4):=by
 refine D.ok sc__law_under (fun vs H Q E h=>?_) (fun _ _ _ _ _ _ us hl=>match us,hl with | [_,_],_=>rfl) (fun f cdv A outer s H vs Q E hr h=>?_)
 all_goals obtain⟨_,_,r,q,rfl,⟨a,rfl,ha⟩,⟨b,rfl,hb⟩,br,bq,k⟩:=h
 ·rfl
 ·have nd:=sc__law_under.nd;refine⟨_,(Å (Î (Ω xH3 (Í û (pixT (pv 0) Ã) (pixT (pv 1) Ã)) (Í û (pixT (pv 1) Ã) (pixT (pv 0) Ã)) (Ý _)))),?_⟩;refine⟨_,rfl,a,_,_,_,rfl,rfl,SqT.of ha,rfl,_,rfl,b,_,_,_,rfl,rfl,SqT.of hb,rfl,_,_,rfl,rfl,ì 8000 br.num bq.den (by decide),_,rfl,b,_,_,_,rfl,rfl,SqT.of hb,rfl,_,rfl,a,_,_,_,rfl,rfl,SqT.of ha,rfl,_,_,rfl,rfl,ì 8000 bq.num br.den (by decide),_,_,rfl,rfl,?_⟩;rw[<- _root_.Tc.lt_ok]at k;exact k
noncomputable abbrev zD6:Stmt:=top 53
theorem sc__law_names:Ë ["_law_cell","_law_letters","_law_base","_law_at","_law_names_here","_law_k"] ["_law_cell"] (Ç zD6):=scF
theorem zS0 {ca:Ca}(D:DefAt K mg "_law_names" zD6)(T:Txt K mg ca):FnAt P w K mg base CX0 1 "_law_names" ["_law_cell"] (xL2):=by
 refine D.ok sc__law_names (fun vs H Q E h=>?_) (fun _ _ _ _ _ _ us hl=>match us,hl with | [_],_=>rfl) (fun f cdv A outer s H vs Q E hr h=>?_)
 all_goals obtain⟨c,rfl,k⟩:=h
 ·rfl
 ·have nd:=sc__law_names.nd;refine⟨_,(Â (É (i:=1) nd rfl (Or.inr rfl) í)
   (Â (É (i:=2) nd rfl (Or.inr rfl) (Λ ["_law_k"] ["_law_cell"] [0] rfl (by rfl) (ÿ (by rfl) T.z_range (À (Í ŷ Ã (Í æ (pv 0) Ã)) Ä)) (fun _ _ _ _=>(È (i:=0) (show List.Nodup (["_law_k","_law_cell"]:List Str) from by decide) rfl (Or.inl rfl))) (fun _ _ _ _=>Θ) (fun _ _ _ _=>(Í æ (Í ŷ (Í ä (pv 1) (Í ŷ (pv 0) Ã)) (Í û (pv 0) (pv 0))) Ã))))
   (Â (É (i:=3) nd rfl (Or.inr rfl) (Í æ (Í ä (pv 0) Ã) (ß (ê (K:=K) rfl) (by rfl) T.z_len PySem.boot_len (À (pv 2) Ä))))
   (Â (É (i:=4) nd rfl (Or.inl rfl) (Γ Ä))
   (Â (Ú PassesOwn.never rfl (ÿ (by rfl) T.z_range (À Ã Ä)) (È (i:=5) nd rfl (Or.inr rfl)) (Å (ð (θ PySem.F.plainAttrs_list PySem.F.slot_list_append PySem.F.type_list_append è (pv 4) (À (xD2 (K:=K) rfl PySem.F.plainAttrs_str PySem.F.slot_str_join PySem.F.type_str_join (yZ4 (K:=K) rfl) í (À (Λ ["_law_j"] ["_law_letters","_law_base","_law_k","_law_at"] [1,2,5,3] rfl (by rfl) (ÿ (by rfl) T.z_range (À (ß (ê (K:=K) rfl) (by rfl) T.z_len PySem.boot_len (À (pv 2) Ä)) Ä)) (fun _ _ _ _=>(È (i:=0) (show List.Nodup (["_law_j","_law_letters","_law_base","_law_k","_law_at"]:List Str) from by decide) rfl (Or.inl rfl))) (fun _ _ _ _=>Θ) (fun _ _ _ _=>(xG8 xP1 (pv 1) (Í æ (Í ŷ (pixL (pv 2) (pv 0)) (Í û (pv 3) (ö zG6 (by rfl) T.z_int yI6 (À (Ω Ν (pv 0) (pv 4) (Ý _)) Ä)))) Ã) (fun _ _=>rfl)))) Ä)) Ä)))))
   (Å (Î (pv 4)))))))),?_⟩
  have q8:=ù (c:=c) (m:=8) (by decide);refine⟨_,rfl,_,_,rfl,rfl,(show (8:Int)≠0 by decide),_,_,rfl,rfl,_,rfl,by lia,by lia,fun D hD=>?_⟩;refine zF1 (fun i σ' H'=>∃(v:Option V) (bs:List Int),σ'=[v,some (.int c)] /\ Same H H' /\ H' D=some (.lst (bs.map V.int)) /\ bs.length=i) ⟨none,[],rfl,Same.upd hD,Á,rfl⟩ ?_ ?_
  ·rintro i σ' H' hi ⟨v,bs,rfl,s1,hd,hl⟩;have hi:i<(1+c.fmod 8).toNat:=hi;refine⟨_,rfl,_,rfl,_,_,rfl,rfl,_,_,rfl,rfl,zI8 (by lia) (ď (m:=9) (by lia) (by decide)),_,rfl,_,rfl,_,_,rfl,rfl,ì 64 (ď (m:=9) (by lia) (by decide)) (ď (m:=9) (by lia) (by decide)) (by decide),_,_,rfl,rfl,_,_,rfl,rfl,(show (26:Int)≠0 by decide),?_⟩;refine⟨_,hd,by rw[ā];exact sz (by lia),_,bs++[(c.fdiv (0+(i:Int)+1)+(0+(i:Int))*(0+(i:Int))).fmod 26],rfl,s1.updD hD,?_,by rw[Ď,hl];rfl⟩;rw[Á,Đ]
   rfl
  rintro σ' H1 ⟨v,ds,rfl,s1,hd,hl⟩;have hl:ds.length=(1+c.fmod 8).toNat:=hl;have hlen:(ds.map V.int).length=ds.length:=ā ..;have q7:=ù (c:=c.fdiv 8) (m:=(((ds.map V.int).length:Nat):Int)) (by rw[hlen];lia);refine⟨_,rfl,_,_,rfl,rfl,ddv (by decide) (by decide),_,rfl,_,_,rfl,.inl ⟨_,SqL.of hd,rfl⟩,_,_,rfl,rfl,(show (((ds.map V.int).length:Nat):Int)≠0 by rw[hlen];lia),?_⟩;obtain⟨a0,ea⟩:=Ğ q7.1;have ha0:a0<ds.length:=by have:=q7.2;rw[ea,hlen]at this;lia
  refine⟨sz (by simp),fun p hp=>?_⟩;have sp1:=Same.upd (o:=.lst []) hp;have hp0:=s1.free hp;refine⟨_,rfl,by decide,by decide,?_⟩;refine Δ (fun i σ H2=>∃(v6:Option V),σ=[some (.int c),some (.str LT),some (.ref D),some (.int (a0:Nat)),some (.ref p),v6] /\ Same H1 H2 /\ H2 p=some (.lst (((ę i).map (nmJ ds (a0:Nat))).map V.str))) ⟨none,by rw[<- ea];rfl,sp1,Á⟩ ?_ ?_
  ·rintro i σ H2 hi ⟨v6,rfl,s2,hp2⟩;have hi:i<9:=hi;have hd2:=s2 _ _ hd;refine⟨_,rfl,.inl ⟨rfl,_,SqL.of hp2⟩,rfl,_,rfl,_,_,rfl,.inl ⟨_,SqL.of hd2,rfl⟩,_,rfl,by rw[hlen];lia,by rw[hlen];lia,fun D2 hD2=>?_⟩;refine zF1 (fun j σ' H'=>∃(v:Option V),σ'=[v,some (.str LT),some (.ref D),some (.int (0+(i:Int))),some (.int (a0:Nat))] /\ Same H2 H' /\ H' D2=some (.lst ((((ę j).map fun k=>lt (sg ds (a0:Nat) i k)).map one1).map V.str))) ⟨none,rfl,Same.upd hD2,Á⟩ ?_ ?_
   ·rintro j σ' H' hj ⟨v,rfl,s3,hd3⟩;have hj:j<ds.length:=by
     have hj:j<(((ds.map V.int).length:Nat):Int).toNat:=hj;rw[hlen]at hj;simpa using hj
    have hbj:atI (ds.map V.int) (0+(j:Int))=some (.int (ds.getD j 0)):=by
     rw[ŧ];refine ò ?_;rw[Ĉ,Ā hj,Ļ,Ā hj];rfl
    refine⟨_,rfl,_,rfl,_,rfl,D,_,_,_,rfl,rfl,SqL.of (s3 _ _ hd2),hbj,_,rfl,_,rfl,_,rfl,rfl,.inr ⟨_,rfl,_,_,rfl,rfl,ì 64 (ď (m:=20) (by lia) (by decide)) ?_ (by decide),_,_,rfl,rfl,_,_,rfl,rfl,(show (26:Int)≠0 by decide),?_⟩⟩
    ·refine ď (m:=1) ?_ (by decide);show (if _ then (1:Int) else 0).natAbs<=1
     split<;>decide
    have b:=sg_b ds (a0:Nat) i j;refine⟨_,_,lt (sg ds (a0:Nat) i j),rfl,rfl,sz (by decide),xT8 b.1 b.2,?_⟩;refine⟨_,hd3,by rw[ā,ā,ā,ŀ];exact sz (by lia),_,rfl,s3.updD hD2,?_⟩;rw[Á,ũ,Đ,Đ,Đ];rfl
   ·rintro σ' H3 ⟨v,rfl,s3,hd3⟩;have ej:(((ds.map V.int).length:Nat):Int).toNat=ds.length:=by rw[hlen];simp
    rw[ej]at hd3;have hp3:=s3 _ _ hp2;refine⟨_,D2,(cj ds (a0:Nat) i).map one1,rfl,rfl,SqL.of hd3,yT3 _ (by unfold cj;rw[ā,ŀ];lia),?_⟩;refine⟨p,_,_,rfl,rfl,hp3,by rw[ā,ā,ŀ];exact sz (by lia),?_⟩;refine⟨_,rfl,(s2.trans s3).updD hp,?_⟩;rw[Á,ũ,Đ,Đ];rfl
  ·rintro σ H2 ⟨v6,rfl,s2,hp2⟩;have hp2:H2 p=some (.lst (((ę 9).map (nmJ ds (a0:Nat))).map V.str)):=hp2;refine⟨_,rfl,k p H2 _ (s1.trans s2) ⟨hp2,by rw[ā,ŀ],?_,fun z hz=>?_⟩⟩
   ·unfold List.Nodup;rw[List.pairwise_map];refine List.Pairwise.imp_of_mem (fun {i j} hi hj hij e=>hij ?_) (List.nodup_range (n:=9));exact xI0 ha0 (ŏ.mp hi) (ŏ.mp hj) e
   ·obtain⟨j,_,rfl⟩:=Ė.mp hz;exact xH9 _ _ _
noncomputable abbrev zD8:Stmt:=top 54
theorem sc__law_house:Ë ["_law_cell","_law_names_here","_law_house_here","_law_k","_law_room"] ["_law_cell","_law_names_here"] (Ç zD8):=scF
theorem zS2 {ca:Ca}(D:DefAt K mg "_law_house" zD8)(T:Txt K mg ca)(G__law_lowest:FnAt P w K mg base CX0 2 "_law_lowest" ["_law_top","_law_bottom"] (zC8))(G__law_mixed:FnAt P w K mg base CX0 1 "_law_mixed" ["_law_cell","_law_k"] (zQ4)):FnAt P w K mg base CX0 3 "_law_house" ["_law_cell","_law_names_here"] (zV2):=by
 refine D.ok sc__law_house (fun vs H Q E h=>?_) (fun _ _ _ _ _ _ us hl=>match us,hl with | [_,_],_=>rfl) (fun f cdv A outer s H vs Q E hr h=>?_)
 all_goals obtain⟨c,an,L,rfl,hN,k⟩:=h
 ·rfl
 ·have nd:=sc__law_house.nd;refine⟨_,(Â (É (i:=2) nd rfl (Or.inl rfl) (Γ Ä))
   (Â (Ú PassesOwn.never rfl (ÿ (by rfl) T.z_range (À (Í ŷ Ã (Í æ (pv 0) Ã)) Ä)) (È (i:=3) nd rfl (Or.inl rfl)) (Â (É (i:=4) nd rfl (Or.inl rfl) (pfn G__law_lowest hr (À (Í ŷ Ã (Í æ (pfn G__law_mixed hr (À (pv 0) (À (pv 3) Ä))) Ã)) (À (Í ŷ Ã (Í æ (Í ä (pfn G__law_mixed hr (À (pv 0) (À (pv 3) Ä))) Ã) Ã)) Ä))))
   (Å (ð (θ PySem.F.plainAttrs_list PySem.F.slot_list_append PySem.F.type_list_append è (pv 2) (À (Ñ (À í (À (pixL (pv 1) (pv 3)) (À (pv 4) Ä)))) Ä))))))
   (Â (ð (xD2 (K:=K) rfl PySem.F.plainAttrs_list PySem.F.slot_list_insert PySem.F.type_list_insert yS2 (pv 2) (À (Í æ (Í ä (pv 0) Ã) (ß (ê (K:=K) rfl) (by rfl) T.z_len PySem.boot_len (À (pv 2) Ä))) (À (Ñ (À í (À (pixL (pv 1) Ã) Ä))) Ä))))
   (Â (ð (θ PySem.F.plainAttrs_list PySem.F.slot_list_append PySem.F.type_list_append è (pv 2) (À (Ñ (À í (À (pixL (pv 1) Ã) Ä))) Ä)))
   (Å (Î (pv 2))))))),?_⟩
  obtain⟨hN,L9,nd,lay⟩:=hN;have q3:=ù (c:=c) (m:=3) (by decide);obtain⟨m,em⟩:=Ğ (show 0<=2+c.fmod 3 by lia);have m2:2<=m:=by lia
  have m4:m<=4:=by lia
  refine⟨sz (by simp),fun ph hph=>?_⟩;have tp:=Same.upd (o:=.lst []) hph;refine⟨_,rfl,_,_,rfl,rfl,(show (3:Int)≠0 by decide),_,_,rfl,rfl,_,rfl,by lia,by lia,?_⟩;refine Δ (fun i σ H2=>∃(v3 v4:Option V) (xs:List V) (cs:List Plc),σ=[some (.int c),some (.ref an),some (.ref ph),v3,v4] /\ Same H H2 /\ H2 ph=some (.lst xs) /\ Paired (PlV H2) xs cs /\ xs.length=i /\ allN cs=L.take i /\ (∀p∈cs,isC p=true) /\ RmT cs) ⟨none,none,[],[],rfl,tp,Á,.nil,rfl,rfl,(fun _ z=>nomatch z),(fun _ _ z=>nomatch z)⟩ ?_ ?_
  ·rintro i σ H2 hi ⟨v3,v4,xs,cs,rfl,s2,h2,hP,hl,eL,ic,ro⟩;have hi:i<m:=by
    have hi:i<(2+c.fmod 3).toNat:=hi;lia
   have hiL:i<L.length:=by lia
   have hat:atI (L.map V.str) (0+(i:Int))=some (.str L[i]):=by
    rw[ŧ];refine ò ?_;rw[Ĉ,Ā hiL];rfl
   have et:L.take (i+1)=L.take i++[L[i]]:=Ø (Ā hiL);refine⟨_,rfl,_,rfl,c,0+(i:Int),rfl,⟨by lia,by lia⟩,fun m1 Ha a0 a1 sa=>⟨_,_,rfl,rfl,(show (100:Int)≠0 by decide),_,_,rfl,rfl,_,rfl,_,rfl,c,0+(i:Int),rfl,⟨by lia,by lia⟩,fun m2' Hb b0 b1 sb=>⟨_,_,rfl,rfl,ddv (by decide) (by decide),_,_,rfl,rfl,(show (2:Int)≠0 by decide),_,_,rfl,rfl,?_⟩⟩⟩;have qa:=ù (c:=m1) (m:=100) (by decide);have qb:=ù (c:=m2'.fdiv 100) (m:=2) (by decide);refine⟨20+m1.fmod 100,1+(m2'.fdiv 100).fmod 2,rfl,by lia,ď (m:=10) (by lia) (by decide),fun w3 H3 s3 f3=>?_⟩;have z3:=xL7 (a:=20+m1.fmod 100) (b:=1+(m2'.fdiv 100).fmod 2) (by lia) (by lia) (by lia);generalize Ě (20+m1.fmod 100) (1+(m2'.fdiv 100).fmod 2)=rr at f3 z3;have s23:=sa.trans (sb.trans s3);have h23:=s23 _ _ h2;have hN3:=s23 _ _ (s2 _ _ hN);refine⟨_,rfl,.inl ⟨rfl,_,SqL.of h23⟩,_,rfl,_,rfl,an,_,_,_,rfl,rfl,SqL.of hN3,hat,_,rfl,sz (by simp),fun l5 hl5=>?_⟩;have t5:=Same.upd (o:=.tup [V.str "cask",.str L[i],w3]) hl5;have h25:=t5 _ _ h23;refine⟨ph,_,_,rfl,rfl,h25,sz (by lia),?_⟩;have tu:=Ì (o:=.lst (xs++[.ref l5])) h25 (fun _ z=>nomatch z);refine⟨_,_,xs++[.ref l5],cs++[.ck L[i] rr],rfl,(s2.trans (s23.trans t5)).updD hph,Á,?_,by rw[Ď,hl];rfl,?_,fun p hp=>?_,fun z' r' hz'=>?_⟩
   ·refine Paired.snoc (Paired.mapP hP fun _ _ f=>(f.same (s23.trans t5)).tup tu) ?_;exact⟨l5,_,rfl,tu _ _ Á,(f3.same t5).tup tu⟩
   ·rw[et,<- eL];unfold allN;rw[Đ];rfl
   ·rcases ĝ.mp hp with e | e
    ·exact ic p e
    ·rw[ė.mp e];rfl
   ·rcases ĝ.mp hz' with e | e
    ·exact ro z' r' e
    ·have e:=ė.mp e;injection e with _ e2;rw[e2];exact z3
  ·rintro σ H2 ⟨v3,v4,xs,cs,rfl,s2,h2,hP,hl,eL,ic,ro⟩;have em':(2+c.fmod 3).toNat=m:=by lia
   have hl:xs.length=(2+c.fmod 3).toNat:=hl;have eL:allN cs=L.take (2+c.fmod 3).toNat:=eL;rw[em']at hl eL;have hN2:=s2 _ _ hN;obtain⟨z4,h4⟩:∃z,L[4]?=some z:=⟨_,Ā (by lia)⟩;obtain⟨z5,h5⟩:∃z,L[5]?=some z:=⟨_,Ā (by lia)⟩;have at4:atI (L.map V.str) 4=some (.str z4):=ò (j:=4) (by rw[Ĉ,h4];rfl);have at5:atI (L.map V.str) 5=some (.str z5):=ò (j:=5) (by rw[Ĉ,h5];rfl);have qj:=ù (c:=c.fdiv 3) (m:=((xs.length:Nat):Int)) (by lia);obtain⟨j,ej⟩:=Ğ qj.1;have hj:j<=xs.length:=by have:=qj.2;rw[ej]at this;lia
   refine⟨_,rfl,.inl ⟨rfl,_,SqL.of h2⟩,_,rfl,_,_,rfl,rfl,ddv (by decide) (by decide),_,rfl,_,_,rfl,.inl ⟨_,SqL.of h2,rfl⟩,_,_,rfl,rfl,(show ((xs.length:Nat):Int)≠0 by lia),_,rfl,an,_,_,_,rfl,rfl,SqL.of hN2,at4,sz (by simp),fun l5 hl5=>?_⟩;have t5:=Same.upd (o:=.tup [V.str "sink",.str z4]) hl5;have h25:=t5 _ _ h2;refine⟨ph,xs,j,.ref l5,rfl,by rw[<- ej],h25,hj,by lia,?_⟩;have tu:=Ì (o:=.lst (xs.take j ++ .ref l5::xs.drop j)) h25 (fun _ z=>nomatch z);have s6:Same H (upd (upd H2 l5 (.tup [V.str "sink",.str z4])) ph (.lst (xs.take j ++ .ref l5::xs.drop j))):=(s2.trans t5).updD hph;have hP6:Paired (PlV (upd (upd H2 l5 (.tup [V.str "sink",.str z4])) ph (.lst (xs.take j ++ .ref l5::xs.drop j)))) (xs.take j ++ .ref l5::xs.drop j) (cs.take j ++ .sk z4::cs.drop j):=by
    have hQ:=Paired.mapP hP fun _ _ f=>(f.same t5).tup tu;exact Paired.app (Paired.take hQ j) (.cons ⟨l5,rfl,tu _ _ Á⟩ (Paired.drop hQ j))
   have h6:=Á (H:=upd H2 l5 (.tup [V.str "sink",.str z4])) (a:=ph) (o:=.lst (xs.take j ++ .ref l5::xs.drop j));have l6:(xs.take j++V.ref l5::xs.drop j).length=xs.length+1:=by rw[Ď,ğ,ċ,Ĩ];lia
   generalize upd (upd H2 l5 (.tup [V.str "sink",.str z4])) ph (.lst (xs.take j ++ .ref l5::xs.drop j))=H6 at *;refine⟨_,rfl,.inl ⟨rfl,_,SqL.of h6⟩,_,rfl,an,_,_,_,rfl,rfl,SqL.of (s6 _ _ hN),at5,sz (by simp),fun l7 hl7=>?_⟩;have t7:=Same.upd (o:=.tup [V.str "sink",.str z5]) hl7;have h67:=t7 _ _ h6;refine⟨ph,_,_,rfl,rfl,h67,by rw[l6];exact sz (by lia),?_⟩;have tu7:=Ì (o:=.lst ((xs.take j ++ .ref l5::xs.drop j)++[.ref l7])) h67 (fun _ z=>nomatch z);obtain⟨g1,g2,g3,g4⟩:=xJ0 L9 nd lay m2 m4 eL ic ro j h4 h5;refine⟨_,rfl,k ph _ _ _ m ((s6.trans t7).updD hph) ⟨Á,?_,g1,g2,g3,m2,m4,g4⟩⟩;refine Paired.snoc (Paired.mapP hP6 fun _ _ f=>(f.same t7).tup tu7) ?_;exact⟨l7,rfl,tu7 _ _ Á⟩
noncomputable abbrev zD5:Stmt:=top 55
theorem sc__law_round:Ë ["_law_house_here","_law_names_here","_law_cells","_law_casks","_law_least","_law_place","_law_amount","_law_deeds","_law_k","_law_last","_law_lost","_law_at","_law_more"] ["_law_house_here","_law_names_here","_law_cells"] (Ç zD5):=scF
theorem zR9 {ca:Ca}(D:DefAt K mg "_law_round" zD5)(T:Txt K mg ca)(G__law_under:FnAt P w K mg base CX0 1 "_law_under" ["_law_one","_law_other"] (zE4))(G__law_times:FnAt P w K mg base CX0 3 "_law_times" ["_law_one","_law_other"] (zK0))(G__law_mixed:FnAt P w K mg base CX0 1 "_law_mixed" ["_law_cell","_law_k"] (zQ4))(G__law_lowest:FnAt P w K mg base CX0 2 "_law_lowest" ["_law_top","_law_bottom"] (zC8)):FnAt P w K mg base CX0 4 "_law_round" ["_law_house_here","_law_names_here","_law_cells"] (yN0 K):=by
 refine D.ok sc__law_round (fun vs H Q E h=>?_) (fun _ _ _ _ _ _ us hl=>match us,hl with | [_,_,_],_=>rfl) (fun f cdv A outer s H vs Q E hr h=>?_)
 all_goals obtain⟨ah,an,ac,xs,ps,L,m,cl,rfl,hs,hN,hc,c5,k⟩:=h
 ·rfl
 ·have nd:=sc__law_round.nd;refine⟨_,(Â (zI2 ["_law_place"] [] [] (i:=3) nd rfl rfl rfl (by rfl) (ï (K:=K) rfl (pv 0)) (fun _ _ _ _=>(È (i:=0) (show List.Nodup (["_law_place"]:List Str) from by decide) rfl (Or.inl rfl))) (fun _ _ _ _=>(zR2 (Ô Ν (pixT (pv 0) Ã) í (Ý _)))) (fun _ _ _ _=>(pv 0)))
   (Â (É (i:=4) nd rfl (Or.inl rfl) (pixT (pixL (pv 3) Ã) Ã))
   (Â (Ú PassesOwn.never rfl (ï (K:=K) rfl (pv 3)) (È (i:=5) nd rfl (Or.inl rfl)) (Å (Ű (Ψ (pfn G__law_under hr (À (pixT (pv 5) Ã) (À (pv 4) Ä)))) (Å (É (i:=4) nd rfl (Or.inl rfl) (pixT (pv 5) Ã))) á)))
   (Â (É (i:=6) nd rfl (Or.inl rfl) (pfn G__law_times hr (À (pv 4) (À (Ñ (À (Í ŷ Ã (Í æ (pixL (pv 2) Ã) Ã)) (À Ã Ä))) Ä))))
   (Â (É (i:=7) nd rfl (Or.inl rfl) (Γ (À (Ñ (À í (À (pixT (pixL (pv 3) (xM6 xC2 Ã)) Ã) (À (pixL (pv 1) (Í ŷ Ã (Í æ (Í ä (pixL (pv 2) Ã) Ã) Ã))) (À (pv 6) Ä))))) Ä)))
   (Â (Ú PassesOwn.never rfl (yQ1 (by rfl) T.z_range (À (Í zP2 (ß (ê (K:=K) rfl) (by rfl) T.z_len PySem.boot_len (À (pv 3) Ä)) Ã) (À Ã (À (xM6 xC2 Ã) Ä)))) (È (i:=8) nd rfl (Or.inl rfl)) (Å (Ű (Ô Ν (Í æ (pfn G__law_mixed hr (À (pixL (pv 2) Ã) (À (Í æ (pv 8) Ã) Ä))) Ã) Ã (Ý _)) (Å (ð (θ PySem.F.plainAttrs_list PySem.F.slot_list_append PySem.F.type_list_append è (pv 7) (À (Ñ (À í (À (pixT (pixL (pv 3) (Í zP2 (pv 8) Ã)) Ã) (À (pixT (pixL (pv 3) (pv 8)) Ã) Ä)))) Ä)))) (Å (ð (θ PySem.F.plainAttrs_list PySem.F.slot_list_append PySem.F.type_list_append è (pv 7) (À (Ñ (À í (À (pixT (pixL (pv 3) (Í zP2 (pv 8) Ã)) Ã) (À (pixT (pixL (pv 3) (pv 8)) Ã) (À (pv 6) Ä))))) Ä)))))))
   (Â (ð (θ PySem.F.plainAttrs_list PySem.F.slot_list_append PySem.F.type_list_append è (pv 7) (À (Ñ (À í (À (pixL (pv 1) (Í ŷ Ã (Í æ (pixL (pv 2) Ã) Ã))) (À (pixT (pixL (pv 3) Ã) Ã) (À (pv 6) Ä))))) Ä)))
   (Â (É (i:=9) nd rfl (Or.inl rfl) (Í zP2 (ß (ê (K:=K) rfl) (by rfl) T.z_len PySem.boot_len (À (pv 7) Ä)) Ã))
   (Â (Ű (Ô Ν (Í æ (pixL (pv 2) Ã) Ã) Ã (Ý _)) (Â (É (i:=5) nd rfl (Or.inl rfl) (pixL (pv 3) (Í æ (Í ä (pixL (pv 2) Ã) Ã) (ß (ê (K:=K) rfl) (by rfl) T.z_len PySem.boot_len (À (pv 3) Ä)))))
   (Â (É (i:=10) nd rfl (Or.inl rfl) (pfn G__law_lowest hr (À (Í ŷ Ã (Í æ (Í ä (pixL (pv 2) Ã) Ã) Ã)) (À (Í ŷ Ã (Í æ (Í ä (pixL (pv 2) Ã) Ã) Ã)) Ä))))
   (Â (É (i:=11) nd rfl (Or.inl rfl) (pixL (Γ (À Ã (À (ß (ê (K:=K) rfl) (by rfl) T.z_len PySem.boot_len (À (pv 7) Ä)) Ä))) (Í æ (Í ä (pixL (pv 2) Ã) Ã) Ã)))
   (Â (É (i:=12) nd rfl (Or.inl rfl) (Γ (À (Ñ (À í (À (pixT (pv 5) Ã) (À (pixL (pv 1) Ã) (À (pv 10) Ä))))) (À (Ñ (À í (À (pixL (pv 1) Ã) (À (pixT (pv 5) Ã) (À (pfn G__law_times hr (À (pixT (pv 5) Ã) (À (pv 10) Ä))) Ä))))) Ä))))
   (Â (É (i:=7) nd rfl (Or.inl rfl) (Í zW9 (Í zW9 (zF9 (zK2 (K:=K) rfl) (pv 7) zM3 (zM2 (pv 11))) (pv 12)) (zF9 (zK2 (K:=K) rfl) (pv 7) (zM2 (pv 11)) zM3)))
   (Å (É (i:=9) nd rfl (Or.inl rfl) (Í ŷ (pv 9) (Í û Ã (ö zG6 (by rfl) T.z_int yI6 (À (Ω Ν (pv 11) Ã (Ý _)) Ä))))))))))) á)
   (Â (É (i:=11) nd rfl (Or.inl rfl) (Í æ (Í ä (pixL (pv 2) Ã) Ã) (Í ŷ (ß (ê (K:=K) rfl) (by rfl) T.z_len PySem.boot_len (À (pv 7) Ä)) Ã)))
   (Å (Î (Ñ (À (Í zW9 (Í zW9 (zF9 (zK2 (K:=K) rfl) (pv 7) zM3 (zM2 (pv 11))) (Γ (À (Ñ (À í Ä)) Ä))) (zF9 (zK2 (K:=K) rfl) (pv 7) (zM2 (pv 11)) zM3)) (À (Í ŷ (pv 9) (ö zG6 (by rfl) T.z_int yI6 (À (Ω xT6 (pv 11) (pv 9) (Ý _)) Ä))) Ä))))))))))))))),?_⟩
  obtain⟨hah,hP,hok,rm,eck,m2,m4,sk⟩:=id hs;obtain⟨hN',L9,ndL,lay⟩:=id hN;have hlen:xs.length=ps.length:=hP.length;have p8:=hok.len;have ckl:(ckN ps).length=m:=by rw[eck,ċ];lia
  obtain⟨d2,e2⟩:∃d,cl[2]?=some d:=⟨_,Ā (by lia)⟩;obtain⟨d3,e3⟩:∃d,cl[3]?=some d:=⟨_,Ā (by lia)⟩;obtain⟨d4,e4⟩:∃d,cl[4]?=some d:=⟨_,Ā (by lia)⟩;have at2:atI (cl.map V.int) 2=some (.int d2):=ò (j:=2) (by rw[Ĉ,e2];rfl);have at3:atI (cl.map V.int) 3=some (.int d3):=ò (j:=3) (by rw[Ĉ,e3];rfl);have at4:atI (cl.map V.int) 4=some (.int d4):=ò (j:=4) (by rw[Ĉ,e4];rfl);clear c5;refine cutS fun nX eX=>?_;refine⟨_,rfl,ah,rfl,⟨_,SqL.of hah⟩,fun D hD=>?_⟩;refine zA9 (xs:=xs) (fun j σ' H'=>∃(v:Option V) (us:List V),σ'=[v] /\ Same H H' /\ H' D=some (.lst us) /\ Paired (PlV H) us ((ps.take j).filter isC)) ⟨none,[],rfl,Same.upd hD,Á,.nil⟩ ?_ ?_ ?_
  ·rintro j σ' H' hj ⟨v,us,rfl,s2,hd,hU⟩;exact SqL.of (s2 _ _ hah)
  ·rintro j y σ' H' hy ⟨v,us,rfl,s2,hd,hU⟩;obtain⟨p,hp,pv⟩:=Ü hP hy;obtain⟨b,ys,rfl,hb,e0,e1⟩:=id pv.at;refine⟨_,rfl,hT (s2 _ _ hb) e0 ⟨rfl,_,rfl,?_⟩⟩;cases hc':isC p with
   | true =>
    refine ŵ rfl ?_;have lu:us.length<=8:=by
     rw[hU.length];have:=š isC (ps.take j);rw[ċ]at this;lia
    refine⟨_,rfl,_,hd,sz (by lia),_,us++[.ref b],rfl,s2.updD hD,Á,?_⟩;rw[Ø hp,Ķ];have e:[p].filter isC=[p]:=by rw[List.filter_cons,if_pos hc'];rfl
    rw[e];exact Paired.snoc hU pv
   | false =>
    refine é (by decide +kernel) ?_;refine⟨_,us,rfl,s2,hd,?_⟩;rw[Ø hp,Ķ];have e:[p].filter isC=[]:=by rw[List.filter_cons,if_neg (by rw[hc'];decide)];rfl
    rw[e,ļ];exact hU
  rintro σ' H1 ⟨v,us,rfl,s1,hD1,hU⟩;rw[hlen,đ]at hU;clear hlen p8;have hU1:CkV H1 ps us:=à hU s1;have ul:us.length=m:=by rw[hU1.len];exact ckl
  have hc1:=s1 _ _ hc;have hN1:=s1 _ _ hN';obtain⟨b0,f0,z0,r0',u0,hb0,hf0,hr0,hz0⟩:=hU1.get hok.nd (i:=0) (by lia);refine stpS eX fun nX eX=>?_;refine⟨_,rfl,hL hD1 (ò (j:=0) u0) (hT hb0 rfl ?_)⟩;have rB:∀{z:Str} {r:Rat},rmF ps z=some r->10<=r /\ IsM 2 119 r /\ Bd 8000 r:=fun {z r} e=>by
   have h:=rm z r (Ŷ e).2;exact⟨h.1,h.2,(h.2.bd (n:=10) (by decide) (by decide) (by decide)).mono (by decide)⟩
  refine stpS eX fun nX eX=>?_;refine⟨_,rfl,D,rfl,⟨_,SqL.of hD1⟩,?_⟩;refine Ÿ (xs:=us) (fun j σ H2=>∃(w:V) (v5:Option V) (q:Rat),σ=[some (.ref ah),some (.ref an),some (.ref ac),some (.ref D),some w,v5,none,none,none,none,none,none,none] /\ H2=H1 /\ FrV H1 w q /\ (∃z,rmF ps z=some q) /\ (∀i z r,i<j->(ckN ps)[i]?=some z->rmF ps z=some r->q<=r)) ⟨_,none,r0',rfl,rfl,hf0,⟨z0,hr0⟩,fun i z r hi=>absurd hi (Nat.not_lt_zero _)⟩ ?_ ?_ ?_
  ·rintro j σ H2 hj ⟨w,v5,q,rfl,rfl,fw',hq,hle⟩;exact SqL.of hD1
  ·rintro j y σ H2 hy ⟨w,v5,q,rfl,rfl,fw',⟨zq,hq⟩,hle⟩;have hj:=(Ą.mp hy).1;obtain⟨b,f,z,r,u,hb,hf,hr,hz⟩:=hU1.get hok.nd hj;rw[hy]at u;cases u;refine⟨_,rfl,hT hb rfl ⟨_,rfl,_,_,r,q,rfl,hf,fw',(rB hr).2.2,(rB hq).2.2,_,rfl,?_⟩⟩;refine ite2 (fun h=>?_) (fun h=>?_)
   ·have h:r<q:=of_decide_eq_true h;refine⟨_,rfl,hT hb rfl ?_⟩;refine⟨_,_,r,rfl,rfl,hf,⟨z,hr⟩,fun i z' r' hi hz' hr'=>?_⟩
    by_cases e:i=j
    ·subst e;rw[hz]at hz';cases hz';rw[hr]at hr';cases hr';exact ŋ
    ·exact Rat.le_trans (ĺ h) (hle i z' r' (Nat.lt_of_le_of_ne (Nat.le_of_lt_succ hi) e) hz' hr')
   ·have h:¬r<q:=fun z=>h (decide_eq_true z);refine⟨_,_,q,rfl,rfl,fw',⟨zq,hq⟩,fun i z' r' hi hz' hr'=>?_⟩
    by_cases e:i=j
    ·subst e;rw[hz]at hz';cases hz';rw[hr]at hr';cases hr';exact Rat.not_lt.mp h
    ·exact hle i z' r' (Nat.lt_of_le_of_ne (Nat.le_of_lt_succ hi) e) hz' hr'
  rintro σ H2 ⟨w,v5,q0,rfl,rfl,fw',⟨zq,hq⟩,hle⟩;have hleast:∀z r,rmF ps z=some r->q0<=r:=fun z r e=>by
   obtain⟨i,hi,ei⟩:=ě (Ŷ e).1;exact hle i z r (by lia) (by rw[Ā hi,ei]) e
  have qB:=rB hq;have q4:=ù (c:=d2) (m:=4) (by decide);obtain⟨g0,g1,g2⟩:=xM1 (n:=1+d2.fmod 4) (by lia) (by lia);refine stpS eX fun nX eX=>?_;refine⟨_,rfl,_,rfl,hL hc1 at2 (hI (show (4:Int)≠0 by decide) (gJ ⟨sz (by simp),fun qa hqa=>?_⟩))⟩;have tq:=Same.upd (o:=.tup [.int (1+d2.fmod 4),.int 4]) hqa;refine⟨_,_,q0,Ě (1+d2.fmod 4) 4,rfl,(fw'.same tq).rw ((qB.2.1.bd (n:=10) (by decide) (by decide) (by decide)).mono (by decide)),⟨qa,_,4,rfl,Á,by decide,rfl,ď (m:=4) (by lia) (by decide),by decide⟩,fun va H3 s3 fa=>?_⟩;have s13:=tq.trans s3;have amM:IsM 8 119 (q0*Ě (1+d2.fmod 4) 4):=by
   obtain⟨c,hc⟩:=g2;have g:=(qB.2.1.mulL (ĺ g0) g1).up c;have e2:2*(Ě (1+d2.fmod 4) 4).den*c=8:=by rw[ĵ,<- hc]
   rw[e2]at g;exact g
  have am0:0<q0*Ě (1+d2.fmod 4) 4:=Rat.mul_pos (by have:=qB.1;grind) g0;have amle:q0*Ě (1+d2.fmod 4) 4<=q0:=by
   have h:=Rat.mul_le_mul_of_nonneg_left g1 (show 0<=q0 by have:=qB.1;grind)
   rwa [Rat.mul_one]at h
  generalize q0*Ě (1+d2.fmod 4) 4=am at fa amM am0 amle;clear q4;have hU3:=hU1.same s13;have hD3:=s13 _ _ hD1;have hc3:=s13 _ _ hc1;have hN3:=s13 _ _ hN1;have qs:=ù (c:=d2.fdiv 4) (m:=2) (by decide);obtain⟨s,hsL⟩:∃s,L[(4+(d2.fdiv 4).fmod 2).toNat]?=some s:=⟨_,Ā (by lia)⟩;have ats:atI (L.map V.str) (4+(d2.fdiv 4).fmod 2)=some (.str s):=by
   have e:(4+(d2.fdiv 4).fmod 2)=(((4+(d2.fdiv 4).fmod 2).toNat:Nat):Int):=by lia
   rw[e];refine ò ?_;rw[Ĉ,hsL];rfl
  obtain⟨ss1,ss2⟩:=sk _ s (by lia) hsL;clear qs;let C:List Str:=(ckN ps).reverse;have Cl:C.length=m:=by show (ckN ps).reverse.length=m;rw[List.length_reverse];exact ckl
  have cr:Cr ps C am s:=⟨(List.reverse_perm _).nodup_iff.mpr hok.ck,fun z=>List.mem_reverse,ss1,ss2,am0,fun z r e=>Rat.le_trans amle (hleast z r e),amM⟩;have cnm:∀{i:Nat} {z:Str},(ckN ps)[i]?=some z->nmC (ckN ps) i=z:=fun {i z} e=>by unfold nmC;rw[Ļ,e];rfl
  obtain⟨bl,fl,zl,rl,ul',hbl,hfl,hrl,hzl⟩:=hU3.get hok.nd (i:=m - 1) (by lia);have eC0:nmC C 0=zl:=by
   show nmC (ckN ps).reverse 0=zl;rw[yG0 ckl (by lia)];exact cnm hzl
  refine stpS eX fun nX eX=>?_;refine⟨_,rfl,1,rfl,gL hD3 (xR5 (m:=m - 1) (by lia) ul') (hT hbl rfl ⟨_,rfl,_,rfl,hL hc3 at2 (hI (ddv (by decide) (by decide)) (hI (show (2:Int)≠0 by decide) (gJ (gL hN3 ats ⟨_,rfl,sz (by simp),fun p1 hp1=>⟨sz (by simp),fun pd hpd=>?_⟩⟩))))⟩)⟩;have t4:=Same.upd (o:=.tup [V.str "move",.str zl,.str s,va]) hp1;have t5:=Same.upd (o:=.lst [V.ref p1]) hpd;have s35:=t4.trans t5;have dv5:Paired (DdV (upd (upd H3 p1 (.tup [V.str "move",.str zl,.str s,va])) pd (.lst [V.ref p1]))) [V.ref p1] ((ę 1).map (cd C am s fun _=>false)):=by
   refine .cons ?_ .nil;show DdV _ (V.ref p1) (.mv (nmC C 0) s am);rw[eC0];exact⟨p1,va,rfl,t5 _ _ Á,fa.same s35⟩
  have hpd5:=Á (H:=upd H3 p1 (.tup [V.str "move",.str zl,.str s,va])) (a:=pd) (o:=.lst [V.ref p1]);have s05:=s1.trans (s13.trans s35);have hpd0:H pd=none:=(s1.trans (s13.trans t4)).free hpd;generalize upd (upd H3 p1 (.tup [V.str "move",.str zl,.str s,va])) pd (.lst [V.ref p1])=H5 at *;have hU5:=hU3.same s35;have hD5:=s35 _ _ hD3;have npD:pd≠D:=fun e=>by
   have h1:=t4 _ _ hD3;rw[<- e,hpd]at h1;cases h1
  refine stpS eX fun nX eX=>?_;refine⟨_,rfl,_,_,rfl,.inl ⟨_,SqL.of hD5,rfl⟩,hJ ⟨1,rfl,_,_,rfl,⟨by lia,by lia,by decide,by decide⟩,?_⟩⟩;refine yL3 (fun j σ H6=>∃(v8:Option V) (ys:List V) (b:Nat->Bool),σ=[some (.ref ah),some (.ref an),some (.ref ac),some (.ref D),some w,v5,some va,some (.ref pd),v8,none,none,none,none] /\ (∀c o,H5 c=some o->c≠pd->H6 c=some o) /\ H6 pd=some (.lst ys) /\ ys.length=j+1 /\ Paired (DdV H6) ys ((ę (j+1)).map (cd C am s b))) ⟨none,[V.ref p1],fun _=>false,rfl,fun c o e _=>e,hpd5,rfl,dv5⟩ ?_ ?_
  ·rintro j σ H6 hj ⟨v8,ys,b,rfl,fr,h6,yl,hY⟩;have hj:j<m - 1:=by
    have hj:j<((((us.length:Nat):Int) - 1) - 0).toNat:=hj;lia
   have fr6:Same H H6:=fun c o e=>fr _ _ (s05 _ _ e) (Æ e hpd0);have frD:=fr _ _ hD5 npD.symm;have tk:∀(c:Addr) (l:List V),H5 c=some (.tup l)->H6 c=some (.tup l):=fun c l e=>fr _ _ e (å e hpd5 (by intro z;cases z));have hU6:CkV H6 ps us:=Paired.mapP hU5 fun _ _ f=>f.tup tk;have fa6:FrV H6 va am:=(fa.same s35).tup tk;have hc6:=fr6 _ _ hc;obtain⟨x1,y1,z1,r1,u1,hx1,hy1,hr1,hz1⟩:=hU6.get hok.nd (i:=m - 1 - j) (by lia);obtain⟨x2,y2,z2,r2,u2,hx2,hy2,hr2,hz2⟩:=hU6.get hok.nd (i:=m - 1 - (j+1)) (by lia);have n1:nmC C j=z1:=by show nmC (ckN ps).reverse j=z1;rw[yG0 ckl (by lia)];exact cnm hz1
   have n2:nmC C (j+1)=z2:=by show nmC (ckN ps).reverse (j+1)=z2;rw[yG0 ckl (by lia)];exact cnm hz2
   have eV:((((us.length:Nat):Int) - 1)+(j:Int)*(-1))=((m - 1 - j:Nat):Int):=by lia
   have eV1:((((us.length:Nat):Int) - 1)+(j:Int)*(-1)) - 1=((m - 1 - (j+1):Nat):Int):=by lia
   have a1:atI us ((((us.length:Nat):Int) - 1)+(j:Int)*(-1))=some (.ref x1):=by rw[eV];exact ò u1
   have a2:atI us (((((us.length:Nat):Int) - 1)+(j:Int)*(-1)) - 1)=some (.ref x2):=by rw[eV1];exact ò u2
   have qk:=ù (c:=(((us.length:Nat):Int) - 1)+(j:Int)*(-1)) (m:=4) (by decide);refine⟨_,rfl,hL hc6 at3 ⟨_,rfl,hI (show (4:Int)≠0 by decide) ⟨d3,_,rfl,qk,fun mm H7 m0 m1' s7=>(hI (show (2:Int)≠0 by decide) ⟨rfl,_,rfl,?_⟩)⟩⟩⟩;have h67:=s7 _ _ h6;refine ite2 (fun _=>?_) (fun _=>?_)
   ·obtain⟨b',eb⟩:=xE2 C am s b true j;refine⟨_,rfl,.inl ⟨rfl,_,SqL.of h67⟩,_,rfl,_,rfl,hJ (gL (s7 _ _ frD) a2 (hT (s7 _ _ hx2) rfl ⟨_,rfl,_,rfl,gL (s7 _ _ frD) a1 (hT (s7 _ _ hx1) rfl ⟨sz (by simp),fun q8 hq8=>?_⟩)⟩))⟩;have t8:=Same.upd (o:=.tup [V.str "fill",.str z2,.str z1]) hq8;have h68:=t8 _ _ h67;refine⟨pd,_,_,rfl,rfl,h68,sz (by lia),?_⟩;have tu:=Ì (o:=.lst (ys++[.ref q8])) h68 (fun _ z=>nomatch z);refine⟨_,ys++[.ref q8],b',rfl,fun c o e nn=>by rw[upd_ne nn];exact t8 _ _ (s7 _ _ (fr c o e nn)),Á,by rw[Ď,yl];rfl,?_⟩;rw[eb,n1,n2];exact Paired.snoc (Paired.mapP hY fun _ _ f=>((f.same s7).same t8).tup tu) ⟨q8,rfl,tu _ _ Á⟩
   ·obtain⟨b',eb⟩:=xE2 C am s b false j;refine⟨_,rfl,.inl ⟨rfl,_,SqL.of h67⟩,_,rfl,_,rfl,hJ (gL (s7 _ _ frD) a2 (hT (s7 _ _ hx2) rfl ⟨_,rfl,_,rfl,gL (s7 _ _ frD) a1 (hT (s7 _ _ hx1) rfl ⟨_,rfl,sz (by simp),fun q8 hq8=>?_⟩)⟩))⟩;have t8:=Same.upd (o:=.tup [V.str "move",.str z2,.str z1,va]) hq8;have h68:=t8 _ _ h67;refine⟨pd,_,_,rfl,rfl,h68,sz (by lia),?_⟩;have tu:=Ì (o:=.lst (ys++[.ref q8])) h68 (fun _ z=>nomatch z);refine⟨_,ys++[.ref q8],b',rfl,fun c o e nn=>by rw[upd_ne nn];exact t8 _ _ (s7 _ _ (fr c o e nn)),Á,by rw[Ď,yl];rfl,?_⟩;rw[eb,n1,n2];exact Paired.snoc (Paired.mapP hY fun _ _ f=>((f.same s7).same t8).tup tu) ⟨q8,va,rfl,tu _ _ Á,((fa6.same s7).same t8).tup tu⟩
  rintro σ H6 ⟨v8,ys,b,rfl,fr,h6,yl,hY⟩;have er:((((us.length:Nat):Int) - 1) - 0).toNat+1=m:=by lia
  have yl:ys.length=((((us.length:Nat):Int) - 1) - 0).toNat+1:=yl;have hY:Paired (DdV H6) ys ((ę (((((us.length:Nat):Int) - 1) - 0).toNat+1)).map (cd C am s b)):=hY;rw[er]at yl hY;have fr6:Same H H6:=fun c o e=>fr _ _ (s05 _ _ e) (Æ e hpd0);have frD:=fr _ _ hD5 npD.symm;have tk:∀(c:Addr) (l:List V),H5 c=some (.tup l)->H6 c=some (.tup l):=fun c l e=>fr _ _ e (å e hpd5 (by intro z;cases z));have hU6:CkV H6 ps us:=Paired.mapP hU5 fun _ _ f=>f.tup tk;have fa6:FrV H6 va am:=(fa.same s35).tup tk;have hc6:=fr6 _ _ hc;have hN6:=fr6 _ _ hN';have q3:=ù (c:=d3) (m:=3) (by decide);obtain⟨zz,hzz,atz⟩:=xK9 (zs:=L) (k:=6+d3.fmod 3) (by lia) (by lia);clear q3;obtain⟨x0,y0,z0',r0,u0',hx0,hy0,hr0',hz0'⟩:=hU6.get hok.nd (i:=0) (by lia);have n0:nmC C (m - 1)=z0':=by
   show nmC (ckN ps).reverse (m - 1)=z0';rw[yG0 ckl (by lia)];have:m - 1 - (m - 1)=0:=by lia
   rw[this];exact cnm hz0'
  refine stpS eX fun nX eX=>?_;refine⟨_,rfl,.inl ⟨rfl,_,SqL.of h6⟩,_,rfl,_,rfl,hL hc6 at3 (hI (show (3:Int)≠0 by decide) (gJ (gL hN6 atz ⟨_,rfl,hL frD (ò (j:=0) u0') (hT hx0 rfl ⟨_,rfl,sz (by simp),fun q8 hq8=>?_⟩)⟩)))⟩;have t8:=Same.upd (o:=.tup [V.str "bring",.str zz,.str z0',va]) hq8;have h68:=t8 _ _ h6;refine⟨pd,_,_,rfl,rfl,h68,sz (by lia),?_⟩;have tu:=Ì (o:=.lst (ys++[.ref q8])) h68 (fun _ z=>nomatch z);have fr9:∀c o,H6 c=some o->c≠pd->upd (upd H6 q8 (.tup [V.str "bring",.str zz,.str z0',va])) pd (.lst (ys++[.ref q8])) c=some o:=fun c o e nn=>by rw[upd_ne nn];exact t8 _ _ e
  have s09:Same H (upd (upd H6 q8 (.tup [V.str "bring",.str zz,.str z0',va])) pd (.lst (ys++[.ref q8]))):=fun c o e=>fr9 _ _ (fr6 _ _ e) (Æ e hpd0);have hpd9:=Á (H:=upd H6 q8 (.tup [V.str "bring",.str zz,.str z0',va])) (a:=pd) (o:=.lst (ys++[.ref q8]));have frD9:=fr9 _ _ frD npD.symm;have c1:1<=C.length:=by lia
  have hY9:Paired (DdV (upd (upd H6 q8 (.tup [V.str "bring",.str zz,.str z0',va])) pd (.lst (ys++[.ref q8])))) (ys++[.ref q8]) ((ę C.length).map (cd C am s b)++[.br zz (nmC C (C.length - 1)) am]):=by
   rw[Cl,n0];exact Paired.snoc (Paired.mapP hY fun _ _ f=>(f.same t8).tup tu) ⟨q8,va,rfl,tu _ _ Á,(fa6.same t8).tup tu⟩
  have hU9:CkV (upd (upd H6 q8 (.tup [V.str "bring",.str zz,.str z0',va])) pd (.lst (ys++[.ref q8]))) ps us:=Paired.mapP hU6 fun _ _ f=>(f.same t8).tup tu;have yl9:(ys++[V.ref q8]).length=m+1:=by rw[Ď,yl];rfl
  have core:=xJ7 cr b c1 (lay zz hzz);have csok:=yF6 hok rm cr (by lia) c1 (lay zz hzz);generalize hDe:(ę C.length).map (cd C am s b)++[.br zz (nmC C (C.length - 1)) am]=De at hY9 core;have dl9:De.length=m+1:=by rw[<- hDe,Ď,ā,ŀ,Cl];rfl
  generalize upd (upd H6 q8 (.tup [V.str "bring",.str zz,.str z0',va])) pd (.lst (ys++[.ref q8]))=H9 at *;generalize ys++[V.ref q8]=ys9 at *;have hc9:=s09 _ _ hc;have hN9:=s09 _ _ hN';refine stpS eX fun nX eX=>?_;refine⟨_,rfl,_,_,rfl,.inl ⟨_,SqL.of hpd9,rfl⟩,hJ ?_⟩;refine stpS eX fun nX eX=>?_;refine⟨_,rfl,hL hc9 at4 (hI (show (2:Int)≠0 by decide) ⟨rfl,_,rfl,?_⟩)⟩;refine ite2 (fun _=>?A) (fun _=>?B)
  case' A =>
   have qu:=ù (c:=d4.fdiv 2) (m:=((us.length:Nat):Int)) (by lia);obtain⟨iu,eu⟩:=Ğ qu.1;obtain⟨xp,fp,zp,rp,up,hxp,hfp,hrp,hzp⟩:=hU9.get hok.nd (i:=iu) (by have:=qu.2;lia);have atp:atI us ((d4.fdiv 2).fmod ((us.length:Nat):Int))=some (.ref xp):=by rw[eu];exact ò up
   refine⟨_,rfl,_,rfl,hL hc9 at4 (hI (ddv (by decide) (by decide)) ⟨_,rfl,_,_,rfl,.inl ⟨_,SqL.of frD9,rfl⟩,gI (show ((us.length:Nat):Int)≠0 by lia) (gL frD9 atp ?_)⟩)⟩;have ql1:=ù (c:=d4.fdiv 8) (m:=3) (by decide);have ql2:=ù (c:=d4.fdiv 24) (m:=3) (by decide);refine⟨_,rfl,hL hc9 at4 (hI (ddv (by decide) (by decide)) (hI (show (3:Int)≠0 by decide) (gJ ⟨_,rfl,hL hc9 at4 (hI (ddv (by decide) (by decide)) (hI (show (3:Int)≠0 by decide) (gJ ⟨1+(d4.fdiv 8).fmod 3,4+(d4.fdiv 24).fmod 3,rfl,by lia,ď (m:=10) (by lia) (by decide),fun vl H10 s10 fvl=>?_⟩)))⟩)))⟩;obtain⟨lo0,lo1,lod⟩:=xI4 (n:=1+(d4.fdiv 8).fmod 3) (d:=4+(d4.fdiv 24).fmod 3) (by lia) (by lia) (by lia) (by lia);generalize Ě (1+(d4.fdiv 8).fmod 3) (4+(d4.fdiv 24).fmod 3)=lo at fvl lo0 lo1 lod;have s010:=s09.trans s10;have hpd10:=s10 _ _ hpd9;have hc10:=s10 _ _ hc9;have hN10:=s10 _ _ hN9;have qat:=ù (c:=d4.fdiv 72) (m:=2) (by decide);refine⟨_,rfl,_,_,rfl,.inl ⟨_,SqL.of hpd10,rfl⟩,sz (by simp),fun q11 hq11=>?_⟩;have t11:=Same.upd (o:=.lst [V.int 0,V.int ((ys9.length:Nat):Int)]) hq11;obtain⟨ka,hka,eka⟩:∃ka:Nat,(ka=0 \/ ka=ys9.length) /\ atI [V.int 0,V.int ((ys9.length:Nat):Int)] ((d4.fdiv 72).fmod 2)=some (.int (ka:Nat)):=by
    have:(d4.fdiv 72).fmod 2=0 \/ (d4.fdiv 72).fmod 2=1:=by lia
    rcases this with e | e
    ·exact⟨0,.inl rfl,by rw[e];rfl⟩
    ·exact⟨ys9.length,.inr rfl,by rw[e];rfl⟩
   refine⟨_,rfl,hL (t11 _ _ hc10) at4 (hI (ddv (by decide) (by decide)) (hI (show (2:Int)≠0 by decide) (gL Á eka ?_)))⟩;have hka2:ka<=ys9.length:=by rcases hka with e | e<;>lia
   obtain⟨z4,h4'⟩:∃z,L[4]?=some z:=⟨_,Ā (by lia)⟩;obtain⟨z7,h7'⟩:∃z,L[7]?=some z:=⟨_,Ā (by lia)⟩;have a4:atI (L.map V.str) 4=some (.str z4):=ò (j:=4) (by rw[Ĉ,h4'];rfl);have a7:atI (L.map V.str) 7=some (.str z7):=ò (j:=7) (by rw[Ĉ,h7'];rfl);obtain⟨k41,k42⟩:=sk 4 z4 (.inl rfl) h4';have s911:=s10.trans t11;have hxp11:=s911 _ _ hxp;refine⟨_,rfl,hT hxp11 rfl ⟨_,rfl,hL (s911 _ _ hN9) a4 ⟨_,rfl,sz (by simp),fun q12 hq12=>?_⟩⟩⟩;have t12:=Same.upd (o:=.tup [V.str "part",.str zp,.str z4,vl]) hq12;have s912:=s911.trans t12;have fvl12:=(fvl.same t11).same t12;have bl12:Bd 4000 lo:=((Bd.share (ĺ lo0) (ĺ lo1) (ď (Nat.le_of_dvd (by decide) lod) (by decide))).1).mono (by decide);refine⟨_,rfl,hL (s912 _ _ hN9) a7 ⟨_,rfl,hT (s912 _ _ hxp) rfl ⟨_,rfl,hT (s912 _ _ hxp) rfl ⟨_,rfl,_,_,rp,lo,rfl,(hfp.same s912).rw (((rB hrp).2.1.bd (n:=10) (by decide) (by decide) (by decide)).mono (by decide)),fvl12.rw bl12,fun vm H13 s13' fvm=>⟨sz (by simp),fun q14 hq14=>⟨sz (by simp),fun q15 hq15=>?_⟩⟩⟩⟩⟩⟩;have t14:=Same.upd (o:=.tup [V.str "bring",.str z7,.str zp,vm]) hq14;have t15:=Same.upd (o:=.lst [V.ref q12,V.ref q14]) hq15;have s1215:=s13'.trans (t14.trans t15);have s915:=s912.trans s1215;have dvm:Paired (DdV (upd (upd H13 q14 (.tup [V.str "bring",.str z7,.str zp,vm])) q15 (.lst [V.ref q12,V.ref q14]))) [V.ref q12,V.ref q14] [.pt zp z4 lo,.br z7 zp (rp*lo)]:=.cons ⟨q12,vl,rfl,s1215 _ _ Á,fvl12.same s1215⟩ (.cons ⟨q14,vm,rfl,t15 _ _ Á,fvm.same (t14.trans t15)⟩ .nil);have hpd15:=s915 _ _ hpd9;have hY15:=zA8 hY9 s915;have s015:=s09.trans s915;have h15:=Á (H:=upd H13 q14 (.tup [V.str "bring",.str z7,.str zp,vm])) (a:=q15) (o:=.lst [V.ref q12,V.ref q14]);generalize upd (upd H13 q14 (.tup [V.str "bring",.str z7,.str zp,vm])) q15 (.lst [V.ref q12,V.ref q14])=H15 at *;refine⟨_,rfl,_,rfl,_,rfl,pd,_,rfl,SqL.of hpd15,fun l1 hl1=>?_⟩;have u1:=Same.upd (o:=.lst (cutV ys9 none (some ((ka:Nat):Int)))) hl1;refine⟨_,rfl,l1,q15,_,_,rfl,rfl,Á,u1 _ _ h15,?_,fun l2 hl2=>?_⟩
   ·rw[zG4 ys9 hka2,ċ];exact sz (by show min ka ys9.length+2<=1000;lia)
   have u2:=Same.upd (o:=.lst (cutV ys9 none (some ((ka:Nat):Int))++[V.ref q12,V.ref q14])) hl2;refine⟨_,rfl,_,rfl,_,rfl,pd,_,rfl,SqL.of ((u1.trans u2) _ _ hpd15),fun l3 hl3=>?_⟩;have u3:=Same.upd (o:=.lst (cutV ys9 (some ((ka:Nat):Int)) none)) hl3;refine⟨l2,l3,_,_,rfl,rfl,u3 _ _ Á,Á,?_,fun l4 hl4=>?_⟩
   ·rw[zG4 ys9 hka2,zN5 ys9 hka2,Ď,ċ,Ĩ];exact sz (by show min ka ys9.length+2+(ys9.length - ka)<=1000;lia)
   have u4:=Same.upd (o:=.lst (cutV ys9 none (some ((ka:Nat):Int))++[V.ref q12,V.ref q14]++cutV ys9 (some ((ka:Nat):Int)) none)) hl4;have u14:=u1.trans (u2.trans (u3.trans u4));have e4':=Á (H:=upd (upd (upd H15 l1 (.lst (cutV ys9 none (some ((ka:Nat):Int))))) l2 (.lst (cutV ys9 none (some ((ka:Nat):Int))++[V.ref q12,V.ref q14]))) l3 (.lst (cutV ys9 (some ((ka:Nat):Int)) none))) (a:=l4) (o:=.lst (cutV ys9 none (some ((ka:Nat):Int))++[V.ref q12,V.ref q14]++cutV ys9 (some ((ka:Nat):Int)) none));rw[zG4 ys9 hka2,zN5 ys9 hka2]at u14 e4' ⊢;generalize upd (upd (upd (upd H15 l1 (.lst (ys9.take ka))) l2 (.lst (ys9.take ka++[V.ref q12,V.ref q14]))) l3 (.lst (ys9.drop ka))) l4 (.lst (ys9.take ka++[V.ref q12,V.ref q14]++ys9.drop ka))=HZ at *;refine⟨_,rfl,_,rfl,rfl,.inr ⟨_,rfl,gI ?_ (gJ ?_)⟩⟩
   ·refine ì 64 (by decide) ?_ (by decide);show (if _ then (1:Int) else 0).natAbs<2^64
    split<;>decide
   let pz:Addr:=l4;let yz:List V:=ys9.take ka++[V.ref q12,V.ref q14]++ys9.drop ka;have sZ:Same H HZ:=s015.trans u14;have hZ:HZ pz=some (.lst yz):=e4';have hcZ:=sZ _ _ hc;have pr:=xH1 rm hrp k41 k42 (lay z7 (Ċ h7')) (ĺ lo0) (ĺ lo1) lod;obtain⟨sp1,sp2⟩:=yX5 hok rm cr (by lia) c1 (lay zz hzz) hrp k41 k42 (lay z7 (Ċ h7')) lo0 lo1 lod;have fin:∃dz S,Paired (DdV HZ) yz dz /\ dz.length<=7 /\ RW ps dz S /\ SOk ps S:=by
    have hYZ:=zA8 hY15 u14;have dvZ:=zA8 dvm u14;rcases hka with e | e
    ·subst e;refine⟨[.pt zp z4 lo,.br z7 zp (rp*lo)]++De,_,?_,?_,pr.app core,sp1⟩
     ·exact Paired.app dvZ hYZ
     ·rw[Ď,dl9];show 2+(m+1)<=7;lia
    ·refine⟨De++[.pt zp z4 lo,.br z7 zp (rp*lo)],_,?_,?_,core.app pr,sp2⟩
     ·show Paired _ (ys9.take ka++[V.ref q12,V.ref q14]++ys9.drop ka) _;rw[e,đ,List.drop_length,ļ];exact Paired.app hYZ dvZ
     ·rw[Ď,dl9];show m+1+2<=7;lia
  case' B =>
   let HZ:Hp:=H9;let pz:Addr:=pd;let yz:List V:=ys9;have sZ:Same H HZ:=s09;have hZ:HZ pz=some (.lst yz):=hpd9;have hcZ:=sZ _ _ hc;have fin:∃dz S,Paired (DdV HZ) yz dz /\ dz.length<=7 /\ RW ps dz S /\ SOk ps S:=⟨De,_,hY9,by lia,core,csok⟩
  all_goals
   refine stpS eX fun nX eX=>?_;obtain⟨dz,S,hYz,dzl,rwz,soz⟩:=fin;have yzl:yz.length=dz.length:=hYz.length;have qz:=ù (c:=d3.fdiv 3) (m:=((yz.length:Nat):Int)+1) (by lia);obtain⟨az,eaz⟩:=Ğ qz.1;have haz:az<=yz.length:=by have:=qz.2;lia
   refine⟨_,rfl,hL hcZ at3 (hI (ddv (by decide) (by decide)) ⟨_,rfl,_,_,rfl,.inl ⟨_,SqL.of hZ,rfl⟩,hJ (gI (show ((yz.length:Nat):Int)+1≠0 by lia) ?_)⟩)⟩;have cu:cutV yz none (some ((d3.fdiv 3).fmod (((yz.length:Nat):Int)+1)))=yz.take az:=by rw[eaz];exact zG4 yz haz
   have cd':cutV yz (some ((d3.fdiv 3).fmod (((yz.length:Nat):Int)+1))) none=yz.drop az:=by rw[eaz];exact zN5 yz haz
   subst eX;refine⟨_,rfl,_,rfl,_,rfl,pz,_,rfl,SqL.of hZ,fun l1 hl1=>?_⟩;rw[cu];have u1:=Same.upd (o:=.lst (yz.take az)) hl1;refine⟨sz (by simp),fun q1 hq1=>⟨sz (by simp),fun q2 hq2=>?_⟩⟩;have u2:=Same.upd (o:=.tup [V.str "year"]) hq1;have u3:=Same.upd (o:=.lst [V.ref q1]) hq2;have u13:=u1.trans (u2.trans u3);refine⟨l1,q2,_,_,rfl,rfl,(u2.trans u3) _ _ Á,Á,?_,fun l2 hl2=>?_⟩
   ·rw[ċ];exact sz (by show min az yz.length+1<=1000;lia)
   have u4:=Same.upd (o:=.lst (yz.take az++[V.ref q1])) hl2;refine⟨_,rfl,_,rfl,_,rfl,pz,_,rfl,SqL.of ((u13.trans u4) _ _ hZ),fun l3 hl3=>?_⟩;rw[cd'];have u5:=Same.upd (o:=.lst (yz.drop az)) hl3;refine⟨l2,l3,_,_,rfl,rfl,u5 _ _ Á,Á,?_,fun l4 hl4=>?_⟩
   ·rw[Ď,ċ,Ĩ];exact sz (by show min az yz.length+1+(yz.length - az)<=1000;lia)
   have u6:=Same.upd (o:=.lst (yz.take az++[V.ref q1]++yz.drop az)) hl4;refine⟨_,rfl,_,rfl,_,rfl,gJ (.inr ⟨_,rfl,_,_,rfl,rfl,sz (by simp),fun r hr=>?_⟩)⟩;have u46:=u4.trans (u5.trans u6);have rwy:RW ps (dz.take az++[.yr]++dz.drop az) S:=by rw[ţ];exact rwz.year az
   refine k r _ l4 _ _ (dz.take az++[.yr]++dz.drop az) S (sZ.trans (u13.trans (u46.trans (Same.upd hr)))) Á (Same.upd hr _ _ Á) ?_ ?_ rwy soz
   ·exact Paired.app (Paired.app (Paired.take (zA8 hYz (u13.trans (u46.trans (Same.upd hr)))) az) (.cons ⟨q1,rfl,(u3.trans (u46.trans (Same.upd hr))) _ _ Á⟩ .nil)) (Paired.drop (zA8 hYz (u13.trans (u46.trans (Same.upd hr)))) az)
   ·rw[Ď,Ď,ċ,Ĩ];show min az dz.length+1+(dz.length - az)<=8;lia
noncomputable abbrev zI0:Stmt:=top 56
theorem sc__law_led:Ë ["_law_tab","_law_totals","_law_found","_law_name","_law_place","_law_share"] ["_law_tab","_law_totals"] (Ç zI0):=scF
theorem yC2 {ca:Ca}(D:DefAt K mg "_law_led" zI0)(T:Txt K mg ca)(G__law_plus:FnAt P w K mg base CX0 3 "_law_plus" ["_law_one","_law_other"] (sp2 4000 (·+·)))(G__law_times:FnAt P w K mg base CX0 3 "_law_times" ["_law_one","_law_other"] (zK0)):FnAt P w K mg base CX0 4 "_law_led" ["_law_tab","_law_totals"] (yF3):=by
 refine D.ok sc__law_led (fun vs H Q E h=>?_) (fun _ _ _ _ _ _ us hl=>match us,hl with | [_,_],_=>rfl) (fun f cdv A outer s H vs Q E hr h=>?_)
 all_goals obtain⟨pr,pt,H0,rows,kt,ad,C,L,R,f,Dn,E1,W1,rfl,hrw,TB,hC,nC,c5,hCL,G,D0,Dd,ht,rt,ntr,nad,E0',EW,We,hcd,k⟩:=h
 ·rfl
 ·have nd:=sc__law_led.nd;refine⟨_,(Â (É (i:=2) nd rfl (Or.inl rfl) ó)
   (Â (ú (Ú PassesOwn.never rfl (Ι (pv 1)) (È (i:=3) nd rfl (Or.inl rfl)) (Å (ã (Ù hr) (pv 2) (pv 3) (Ñ (À Ã (À Ã Ä))) rfl))))
   (Â (ú (Ú PassesOwn.never rfl (Ι (pv 1)) (È (i:=3) nd rfl (Or.inl rfl)) (Å (ú (Ú PassesOwn.never rfl (ż (ź (K:=K) rfl PySem.F.plainAttrs_dict PySem.F.slot_dict_items PySem.F.type_dict_items Ž (Õ (Ù hr) (pv 0) (pv 3) (fun _ _=>rfl)))) (Η rfl (Ï (È (i:=4) nd rfl (Or.inl rfl)) (Ï (È (i:=5) nd rfl (Or.inl rfl)) ŭ))) (Å (ã (Ù hr) (pv 2) (pv 4) (pfn G__law_plus hr (À (Õ (Ù hr) (pv 2) (pv 4) (fun _ _=>rfl)) (À (pfn G__law_times hr (À (Õ (Ù hr) (pv 1) (pv 3) (fun _ _=>rfl)) (À (pv 5) Ä))) Ä))) rfl)))))))
   (Å (Î (pv 2)))))),?_⟩
  obtain⟨uu,hrw,huu⟩:=hrw;intro p hp;have tp:=Same.upd (o:=.dK []) hp;have hr1:=tp _ _ hrw;have ht1:=tp _ _ ht;have hp1:=Á (H:=H) (a:=p) (o:=.dK []);have rt1:=rt.same fun v r g=>g.same tp;have TB1:=TB.same tp;have npr:p≠pr:=fun e=>by rw[e,hrw]at hp;cases hp
  have npt:p≠pt:=fun e=>by rw[e,ht]at hp;cases hp
  have nadp:∀x∈C,ad x≠p:=fun x hx e=>by
   obtain⟨_,_,kv,c,_⟩:=TB.row x hx;rw[e,hp]at c;cases c
  generalize upd H p (.dK [])=H1 at *;have mt:∀z,z∈nms kt↔z∈C:=fun z=>(rt.iff z).trans all_some;have nt:(nms kt).Nodup:=â rt.nodup rt.keys;have lt5:kt.length<=5:=by rw[<- Ò];exact Č (Ö nt fun z hz=>(mt z).mp hz) c5
  refine⟨pt,_,ht1,rfl,?_⟩;refine⟨_,rfl,pt,_,rfl,ht1,rfl,fun o qs hqs=>?_⟩;have hqs:qs=kt.map fun kv=>(kV kv.1,kv.2):=hqs;subst hqs;refine ž (fun i σ H2=>∃(v3:Option V) (kv:List (Key×V)),σ=[some (.ref pr),some (.ref pt),some (.ref p),v3,none,none] /\ H2 pt=some (.frz o (.dK kt)) /\ (∀c ob,H1 c=some ob->c≠p->c≠pt->H2 c=some ob) /\ H2 p=some (.dK kv) /\ RowAt H2 kv (all (nms (kt.take i)) fun _=>0)) ?_ ?_ ?_ ?_
  ·refine⟨none,[],rfl,Á,fun c ob e _ n=>by rw[upd_ne n];exact e,by rw[upd_ne npt];exact hp1,?_⟩;rw[Ň];show RowAt _ [] (all [] _);rw[Τ];exact RowAt.nil _
  ·rintro i σ H2 ⟨_,_,_,h,_⟩;exact h
  ·rintro i k' v σ H2 hk ⟨v3,kv,rfl,hfz,kp,h2,row⟩;obtain⟨kvi,hki,ek⟩:=Κ hk;obtain⟨z,r,hz,hg,fr,hnot,hnms⟩:=rt1.at hki;obtain⟨rfl,rfl⟩:=Prod.mk.inj ek;obtain⟨k0,w0⟩:=kvi;have hz:k0 = .inr z:=hz;subst hz;have lk:kv.length<=5:=by
    have:=row.len' (L:=nms (kt.take i)) fun y hy=>all_some.mp hy;rw[Ò,ċ]at this;lia
   refine⟨sz (by simp),fun p1 hp1'=>?_⟩;have t3:=Same.upd (o:=.tup [.int 0,.int 1]) hp1';have f0:=FrV.newOf (H:=H2) (p:=p1) (t:=0) (b:=1) (r:=0) rfl rfl;have row3:=row.same fun v r f=>f.same t3;have h3:=t3 _ _ h2;have hfz3:=t3 _ _ hfz;have kp3:∀c ob,H1 c=some ob->c≠p->c≠pt->upd H2 p1 (.tup [.int 0,.int 1]) c=some ob:=fun c ob e n1 n2=>t3 _ _ (kp c ob e n1 n2);generalize upd H2 p1 (.tup [.int 0,.int 1])=H3 at *;refine⟨_,rfl,_,rfl,p,_,rfl,DPut.k (k:=.inr z) h3 (sz (by lia)),?_⟩;have tu:=Ì (o:=.dK (putK kv (.inr z) (.ref p1))) h3 (fun _ z=>nomatch z);refine⟨_,putK kv (.inr z) (.ref p1),rfl,by rw[upd_ne npt.symm];exact hfz3,fun c ob e n1 n2=>by rw[upd_ne n1];exact kp3 c ob e n1 n2,Á,?_⟩;rw[hnms,Α];exact(row3.put (z:=z) f0).same fun v r g=>g.tup tu
  rintro σ H2 ⟨v3,kv,rfl,hfz,kp,h2,row⟩;rw[ā,đ]at row;refine⟨o,.dK kt,hfz,?_⟩;have e0:all (nms kt) (fun _=>(0:Rat))=all C fun _=>0:=by
   funext z
   unfold all
   by_cases q:z∈C
   ·rw[if_pos q,if_pos ((mt z).mpr q)]
   ·rw[if_neg q,if_neg fun u=>q ((mt z).mp u)]
  rw[e0]at row;have ht3:=Á (H:=H2) (a:=pt) (o:=.dK kt);have h3:upd H2 pt (.dK kt) p=some (.dK kv):=by rw[upd_ne npt];exact h2
  have kp3:∀c ob,H1 c=some ob->c≠p->upd H2 pt (.dK kt) c=some ob:=fun c ob e n=>by
   by_cases q:c=pt
   ·subst q;rw[ht1]at e;cases e;exact Á
   ·rw[upd_ne q];exact kp c ob e n q
  have row3:=row.same fun v r g=>g.tup (Ì (o:=.dK kt) hfz (fun _ z=>nomatch z));generalize upd H2 pt (.dK kt)=H3 at *;have kT3:∀c m,H1 c=some (.tup m)->H3 c=some (.tup m):=fun c m e=>kp3 c _ e (å e hp1 (by intro z;cases z));have s3:Same H H3:=fun c ob e=>kp3 c ob (tp _ _ e) (Æ e hp);have hr3:=kp3 _ _ hr1 npr.symm;have rt3:=rt1.same fun v r g=>g.tup kT3;show Ends.nx _ [some (.ref pr),some (.ref pt),some (.ref p),v3,none,none] _;let Sm:Nat->Str->Rat:=fun i z=>sumL ((nms kt).take i) fun y=>f y*R y z;have cdP:∀y∈C,∀z,Cd (E1*Dn) (W1*Dn) (f y*R y z):=fun y hy z=>by
   have:=(hcd y hy).mul (Cd.of (G.part y (hCL y hy) z));rw[Ŕ]at this;exact this
  have cdS:∀i z,Cd (E1*Dn) (5*(W1*Dn)) (Sm i z):=fun i z=>by
   have:=zJ1 (l:=(nms kt).take i) (f:=fun y=>f y*R y z) fun y hy=>cdP y ((mt y).mp (List.mem_of_mem_take hy)) z;refine this.mono (Ĕ _ ?_);rw[ċ,Ò];lia
  have ED0:0<E1*Dn:=Ņ E0' D0;have EWD:E1*Dn<=W1*Dn:=Ĕ _ EW;have WD:W1*Dn<=2^3100:=by
   have:=Ġ We Dd;rw[<- ī]at this;exact this
  have WD8:5*(W1*Dn)<=2^3103:=by
   have e:(2:Nat)^3103=8*2^3100:=by rw[show 3103=3+3100 from rfl,ī]
   rw[e];lia
  have bS:∀i z,Bd 3900 (Sm i z):=fun i z=>((cdS i z).bd ED0 (by lia) WD8).mono (by decide);have bP:∀y∈C,∀z,Bd 3900 (f y*R y z):=fun y hy z=>((cdP y hy z).bd ED0 EWD WD).mono (by decide);have bF:∀y∈C,Bd 3900 (f y):=fun y hy=>((hcd y hy).bd E0' EW We).mono (by decide);have bR:∀y∈C,∀z,Bd 3900 (R y z):=fun y hy z=>((Cd.of (G.part y (hCL y hy) z)).bd D0 (by lia) (by rw[Ŕ];exact Dd)).mono (by decide);have krow:∀nm∈C,valV rows (.inr nm)=some (.ref (ad nm)):=fun nm h=>(TB.row nm h).1;refine⟨pt,_,ht3,rfl,?_⟩;refine⟨_,rfl,pt,_,rfl,ht3,rfl,fun o qs hqs=>?_⟩;have hqs:qs=kt.map fun kv=>(kV kv.1,kv.2):=hqs;subst hqs;refine ž (fun i σ H4=>∃(v3 v4 v5:Option V) (kv:List (Key×V)),σ=[some (.ref pr),some (.ref pt),some (.ref p),v3,v4,v5] /\ H4 pt=some (.frz o (.dK kt)) /\ (∀c ob,H3 c=some ob->c≠p->c≠pt->H4 c=some ob) /\ H4 p=some (.dK kv) /\ RowAt H4 kv (all C (Sm i))) ?_ ?_ ?_ ?_
  ·refine⟨_,_,_,kv,rfl,Á,fun c ob e _ n=>by rw[upd_ne n];exact e,by rw[upd_ne npt];exact h3,?_⟩;exact row3.same fun v r g=>g.tup (Ì (o:=.frz o (.dK kt)) ht3 (fun _ z=>nomatch z))
  ·rintro i σ H4 ⟨_,_,_,_,_,h,_⟩;exact h
  ·rintro i k' v σ H5 hk ⟨v3,v4,v5,kv,rfl,hfz5,kp5,h5,row5⟩;obtain⟨kvi,hki,ek⟩:=Κ hk;have hvalf:=ů rt3.nodup hki;obtain⟨nm,rf,hz,hg,ffr,hnotk,hnmk⟩:=rt3.at hki;obtain⟨rfl,rfl⟩:=Prod.mk.inj ek;obtain⟨k0,wf⟩:=kvi;have hz:k0 = .inr nm:=hz;subst hz;have hnC:nm∈C:=all_some.mp (by rw[hg];rfl);have erf:rf=f nm:=by
    unfold all at hg;rw[if_pos hnC]at hg;exact(Option.some.inj hg).symm
   subst erf;have hin:(nms kt)[i]?=some nm:=by
    unfold nms;rw[Ĉ,hki];rfl
   obtain⟨_,_,kvs,hrow0,rr0⟩:=TB1.row nm hnC;have nap:=nadp nm hnC;have nar:=TB.apart nm hnC;have nat':=nad nm hnC;have hrow:=kp5 _ _ (kp3 _ _ hrow0 nap) nap nat';have kT5:∀c m,H3 c=some (.tup m)->H5 c=some (.tup m):=fun c m e=>kp5 c _ e (å e h3 (by intro z;cases z)) (å e ht3 (by intro z;cases z));have rr5:=rr0.same fun v r g=>(g.tup kT3).tup kT5;have hr5:=kp5 _ _ hr3 npr.symm ntr.symm;have fwf:=ffr.tup kT5;have dgr:DGet H5 pr (.str nm) (some (.ref (ad nm))):=by
    rcases huu with e | ⟨o',e⟩
    ·subst e;have g:=DGet.k (k:=.inr nm) hr5;rw[krow nm hnC]at g;exact g
    ·subst e;exact .inl ⟨rows,.inr nm,.inr ⟨o',hr5⟩,rfl,(krow nm hnC).symm⟩
   refine⟨ad nm,_,hrow,rfl,?_⟩;refine⟨_,rfl,_,rfl,pr,_,rfl,dgr,.inr (.inr (.inl ⟨rfl,.inl ⟨_,hrow⟩⟩)),ad nm,_,rfl,rfl,hrow,rfl,fun pv2 hpv2=>?_⟩;have tv2:=Same.upd (o:=Μ pv2 (ad nm)) hpv2;refine⟨pv2,ad nm,_,rfl,Á,tv2 _ _ hrow,rfl,fun o2 qs2 hqs2=>?_⟩;have hqs2:qs2=kvs.map fun kv=>(kV kv.1,kv.2):=hqs2;subst hqs2;let Pt:Nat->Str->Rat:=fun j z=>Sm i z+if z∈nms (kvs.take j) then f nm*R nm z else 0;refine Ź (fun j σ H8=>∃(v5 v6:Option V) (kv':List (Key×V)),σ=[some (.ref pr),some (.ref pt),some (.ref p),some (.str nm),v5,v6] /\ H8 (ad nm)=some (.frz o2 (.dK kvs)) /\ (∀c ob,H5 c=some ob->c≠p->c≠ad nm->H8 c=some ob) /\ H8 p=some (.dK kv') /\ RowAt H8 kv' (all C (Pt j))) ?_ ?_ ?_ ?_
   ·have h8:∀c ob,H5 c=some ob->c≠p->c≠ad nm->upd (upd H5 pv2 (Μ pv2 (ad nm))) (ad nm) (.frz o2 (.dK kvs)) c=some ob:=fun c ob e _ n=>by rw[upd_ne n];exact tv2 _ _ e
    refine⟨_,_,kv,rfl,Á,h8,by rw[upd_ne nap.symm];exact tv2 _ _ h5,?_⟩;have e:all C (Pt 0)=all C (Sm i):=ë fun z _=>by
     show Sm i z+_=_;rw[if_neg (by simp[nms])];grind
    rw[e];exact row5.same fun v r g=>(g.same tv2).tup (Ì (o:=.frz o2 (.dK kvs)) (tv2 _ _ hrow) (fun _ z=>nomatch z))
   ·rintro j σ H8 ⟨_,_,_,_,h,_⟩;exact h
   ·rintro j k' v T2 σ H8 hk ⟨v5,v6,kv',rfl,hfz8,kp8,h8,row8⟩ hT2;obtain⟨kvi,hki,ek⟩:=Κ hk;obtain⟨rfl,rfl⟩:=Prod.mk.inj ek;obtain⟨z,r,hz,hg,fr,hnot,hnms⟩:=rr5.at hki;obtain⟨e1,e2⟩:=yB3 hg;have hzC:z∈C:=by
     by_cases e:z∈C
     ·exact e
     ·unfold resC at e1;rw[if_neg e]at e1;exact absurd e1.symm e2
    unfold resC at e1;rw[if_pos hzC]at e1;have ekv:kV kvi.1 = .str z:=by rw[hz];rfl
    have kT8:∀c m,H5 c=some (.tup m)->H8 c=some (.tup m):=fun c m e=>kp8 c _ e (å e h5 (by intro z;cases z)) (å e hrow (by intro z;cases z));have tT2:=Same.upd (o:=.tup [kV kvi.1,kvi.2]) hT2;refine⟨T2,_,rfl,SqT.of Á,rfl,_,_,rfl,_,_,rfl,rfl,?_⟩;rw[ekv]at tT2 ⊢;have h9:=tT2 _ _ h8;have fw9:=(fwf.tup kT8).same tT2;have fr9:=(fr.tup kT8).same tT2;have row9:=row8.same fun v r g=>g.same tT2;have ht9:=tT2 _ _ (kp8 _ _ hfz5 npt.symm (nad nm hnC).symm);have kp9:∀c ob,H5 c=some ob->c≠p->c≠ad nm->upd H8 T2 (.tup [.str z,kvi.2]) c=some ob:=fun c ob e n1 n2=>tT2 _ _ (kp8 c ob e n1 n2);have hfz9:=tT2 _ _ hfz8;generalize upd H8 T2 (.tup [.str z,kvi.2])=H9 at *;obtain⟨w9,ew9,fp9⟩:=row9.has z (Pt j z) (by unfold all;rw[if_pos hzC]);have ePt:Pt j z=Sm i z:=by show Sm i z+_=_;rw[if_neg hnot];grind
    have b1:Bd 3900 (Pt j z):=by rw[ePt];exact bS i z
    have b2:Bd 3900 r:=by rw[<- e1];exact bR nm hnC z
    have b3:Bd 3900 (f nm*r):=by rw[<- e1];exact bP nm hnC z
    refine⟨_,rfl,_,rfl,p,w9,rfl,?_,_,rfl,_,rfl,pt,wf,rfl,.inl ⟨kt,.inr nm,.inr ⟨o,ht9⟩,rfl,hvalf.symm⟩,_,rfl,_,_,f nm,r,rfl,fw9.rw ((bF nm hnC).mono (by decide)),fr9.rw (b2.mono (by decide)),fun u1 H10 s10 f10=>?_⟩
    ·have g:=DGet.k (k:=.inr z) h9;rw[ew9]at g;exact g
    refine⟨_,_,Pt j z,f nm*r,rfl,fp9.same s10,f10,b1.mono (by decide),b3.mono (by decide),fun u2 H11 s11 f11=>?_⟩;have s911:=s10.trans s11;have h11:=s911 _ _ h9;have lk:kv'.length<=5:=Č (row8.len' fun y hy=>all_some.mp hy) c5;refine⟨_,rfl,_,rfl,p,_,rfl,DPut.k (k:=.inr z) h11 (sz (by lia)),?_⟩;have tu:=Ì (o:=.dK (putK kv' (.inr z) u2)) h11 (fun _ z=>nomatch z);refine⟨_,_,putK kv' (.inr z) u2,rfl,by rw[upd_ne nap];exact s911 _ _ hfz9,fun c ob e n1 n2=>by rw[upd_ne n1];exact s911 _ _ (kp9 c ob e n1 n2),Á,?_⟩;have hrow:=((row9.same fun v r g=>g.same s911).put (z:=z) f11).same fun v r g=>g.tup tu;rw[zF2 hzC]at hrow;have e:all C (Pt (j+1))=all C (fun y=>if y=z then Pt j z+f nm*r else Pt j y):=ë fun y _=>by
     show Sm i y+_=_;rw[hnms]
     by_cases e:y=z
     ·subst e;rw[if_pos rfl,if_pos (by simp),ePt,e1]
     ·rw[if_neg e];show _=Sm i y+_;have:(y∈nms (kvs.take j)++[z])↔y∈nms (kvs.take j):=by simp[e]
      by_cases q:y∈nms (kvs.take j)
      ·rw[if_pos q,if_pos (this.mpr q)]
      ·rw[if_neg q,if_neg fun u=>q (this.mp u)]
    rw[e];exact hrow
   ·rintro σ H8 ⟨v5,v6,kv',rfl,hfz8,kp8,h8,row8⟩;rw[ā]at row8;refine⟨o2,_,hfz8,?_⟩;refine⟨_,_,_,kv',rfl,?_,fun c ob e n1 n2=>?_,by rw[upd_ne nap.symm];exact h8,?_⟩
    ·rw[upd_ne nat'.symm];exact kp8 _ _ hfz5 npt.symm nat'.symm
    ·by_cases q:c=ad nm
     ·subst q;have:=kp5 _ _ e n1 n2;rw[hrow]at this;rw[Á];exact this
     ·rw[upd_ne q];exact kp8 _ _ (kp5 c ob e n1 n2) n1 q
    ·have e:all C (Sm (i+1))=all C (Pt kvs.length):=ë fun z hz=>by
      have e1:Sm (i+1) z=Sm i z+f nm*R nm z:=by
       show sumL ((nms kt).take (i+1)) _=_;rw[Ø hin,zB7]
      rw[e1];show _=Sm i z+_;rw[đ]
      by_cases q:z∈nms kvs
      ·rw[if_pos q]
      ·rw[if_neg q];have:R nm z=0:=by
        by_cases u:R nm z=0
        ·exact u
        ·exact absurd ((rr5.iff z).mpr (op_some.mpr (by unfold resC;rw[if_pos hz];exact u))) q
       rw[this,ś]
     rw[e];exact row8.same fun v r g=>g.tup (Ì (o:=.dK kvs) hfz8 (fun _ z=>nomatch z))
  rintro σ H4 ⟨v3',v4,v5,kv',rfl,hfz4,kp4,h4,row4⟩;rw[ā]at row4;refine⟨o,_,hfz4,_,rfl,k p _ kv' hp (fun c ob e=>?_) (by rw[upd_ne npt];exact h4) ?_⟩
  ·have:=s3 _ _ e
   by_cases q:c=pt
   ·subst q;rw[ht]at e;cases e;exact Á
   ·rw[upd_ne q];exact kp4 _ _ this (Æ e hp) q
  ·have e:Sm kt.length=ldR C R f:=by
    funext z
    show sumL ((nms kt).take kt.length) _=_;rw[<- Ò,đ];exact zB0 nt nC mt _
   rw[e]at row4;exact row4.same fun v r g=>g.tup (Ì (o:=.dK kt) hfz4 (fun _ z=>nomatch z))
noncomputable abbrev zE7:Stmt:=top 57
theorem sc__law_left:Ë ["_law_tab","_law_k","_law_left_here","_law_name","_law_totals","_law_other","_law_turn","_law_share"] ["_law_tab","_law_k"] (Ç zE7):=scF
theorem zX2 {ca:Ca}(D:DefAt K mg "_law_left" zE7)(T:Txt K mg ca)(G__law_led:FnAt P w K mg base CX0 4 "_law_led" ["_law_tab","_law_totals"] (yF3))(G__law_plus:FnAt P w K mg base CX0 3 "_law_plus" ["_law_one","_law_other"] (sp2 4000 (·+·))):FnAt P w K mg base CX0 5 "_law_left" ["_law_tab","_law_k"] (yN3):=by
 refine D.ok sc__law_left (fun vs H Q E h=>?_) (fun _ _ _ _ _ _ us hl=>match us,hl with | [_,_],_=>rfl) (fun f cdv A outer s H vs Q E hr h=>?_)
 all_goals obtain⟨pr,H0,rows,ad,ps,ss,C,D,kk,rfl,hR,hCL,G,D0,D100,k8,k⟩:=h
 ·rfl
 ·have nd:=sc__law_left.nd;refine⟨_,(Â (É (i:=2) nd rfl (Or.inl rfl) (Γ Ä))
   (Â (ú (Ú PassesOwn.never rfl (Ι (pv 0)) (È (i:=3) nd rfl (Or.inl rfl)) (Â (É (i:=4) nd rfl (Or.inl rfl) ó)
   (Â (Ú PassesOwn.never rfl (yY4 (pv 0)) (È (i:=5) nd rfl (Or.inl rfl)) (Å (ã (Ù hr) (pv 4) (pv 5) (Ñ (À (ö zG6 (by rfl) T.z_int yI6 (À (Ω Ν (pv 5) (pv 3) (Ý _)) Ä)) (À Ã Ä))) rfl)))
   (Â (Ú PassesOwn.never rfl (ÿ (by rfl) T.z_range (À (pv 1) Ä)) (È (i:=6) nd rfl (Or.inl rfl)) (Å (É (i:=4) nd rfl (Or.inl rfl) (pfn G__law_led hr (À (pv 0) (À (pv 4) Ä))))))
   (Â (É (i:=7) nd rfl (Or.inl rfl) (Ñ (À Ã (À Ã Ä))))
   (Â (ú (Ú PassesOwn.never rfl (Ι (pv 4)) (È (i:=5) nd rfl (Or.inl rfl)) (Å (É (i:=7) nd rfl (Or.inl rfl) (pfn G__law_plus hr (À (pv 7) (À (Õ (Ù hr) (pv 4) (pv 5) (fun _ _=>rfl)) Ä)))))))
   (Å (ð (θ PySem.F.plainAttrs_list PySem.F.slot_list_append PySem.F.type_list_append è (pv 2) (À (pv 7) Ä)))))))))))
   (Å (Î (pv 2))))),?_⟩
  obtain⟨hrw,TB,hC,nC,c5,CR⟩:=id hR;refine⟨sz (by simp),fun pl hpl=>?_⟩;have tl:=Same.upd (o:=.lst []) hpl;have hr1:=tl _ _ hrw;have npl:pl≠pr:=(Æ hrw hpl).symm;have hpl1:=Á (H:=H) (a:=pl) (o:=.lst []);have TB1:=TB.same tl;have nadl:∀x∈C,ad x≠pl:=fun x hx e=>by
   obtain⟨_,_,kv,c,_⟩:=TB.row x hx;rw[e,hpl]at c;cases c
  generalize upd H pl (.lst [])=H1 at *;have lr:rows.length=C.length:=by rw[<- hC,Ò]
  refine⟨pr,_,hr1,rfl,?_⟩;refine⟨_,rfl,pr,_,rfl,hr1,rfl,fun o qs hqs=>?_⟩;have hqs:qs=rows.map fun kv=>(kV kv.1,kv.2):=hqs;subst hqs;have keyat:∀{i:Nat} {k' v:V},(rows.map fun kv=>(kV kv.1,kv.2))[i]?=some (k',v)->∃z,k' = .str z /\ z∈C /\ C[i]?=some z:=fun {i k' v} hk=>by
   rw[Ĉ]at hk;cases q:rows[i]? with
   | none=>rw[q]at hk;cases hk
   | some kvi =>
    rw[q]at hk;obtain⟨rfl,rfl⟩:=Prod.mk.inj (Option.some.inj hk);obtain⟨z,hz,hzC⟩:=TB.keys kvi (Ċ q);refine⟨z,by rw[hz];rfl,hzC,?_⟩;rw[<- hC];unfold nms;rw[Ĉ,q];show some (nmz kvi.1)=_;rw[hz];rfl
  refine ž (fun i σ H2=>∃(v3 v4 v5 v6 v7:Option V) (ls:List V),σ=[some (.ref pr),some (.int (kk:Nat)),some (.ref pl),v3,v4,v5,v6,v7] /\ H2 pr=some (.frz o (.dK rows)) /\ (∀c ob,H1 c=some ob->c≠pl->c≠pr->H2 c=some ob) /\ H2 pl=some (.lst ls) /\ Paired (FrV H2) ls ((C.take i).map (stay C (back ss) kk))) ?_ ?_ ?_ ?_
  ·exact⟨none,none,none,none,none,[],rfl,Á,fun c ob e _ n=>by rw[upd_ne n];exact e,by rw[upd_ne npl];exact hpl1,.nil⟩
  ·rintro i σ H2 ⟨_,_,_,_,_,_,_,h,_⟩;exact h
  ·rintro i k' v σ H2 hk ⟨v3,v4,v5,v6,v7,ls,rfl,hfz,kp,h2,hLs⟩;obtain⟨nm,rfl,hnC,hin⟩:=keyat hk;have hi:i<C.length:=(Ą.mp hin).1;intro p hp;have tp:=Same.upd (o:=.dK []) hp;have hfz3:=tp _ _ hfz;have hp3:=Á (H:=H2) (a:=p) (o:=.dK []);have npr:p≠pr:=(Æ hfz hp).symm;refine⟨_,rfl,pr,o,_,rfl,hfz3,rfl,fun qs hqs=>?_⟩;have hqs:qs=rows.map fun kv=>(kV kv.1,kv.2):=hqs;subst hqs;refine ž (fun j σ H4=>∃(v5:Option V) (kv:List (Key×V)),σ=[some (.ref pr),some (.int (kk:Nat)),some (.ref pl),some (.str nm),some (.ref p),v5,v6,v7] /\ H4 pr=some (.frz o (.dK rows)) /\ Same H2 H4 /\ H4 p=some (.dK kv) /\ RowAt H4 kv (all (C.take j) (dlt nm))) ?_ ?_ ?_ ?_
   ·refine⟨_,[],rfl,hfz3,tp,hp3,?_⟩;rw[Ň,Τ];exact RowAt.nil _
   ·rintro j σ H4 ⟨_,_,_,h,_⟩;exact h
   ·rintro j k' v σ H4 hk ⟨v5,kv,rfl,hfz4,s4,h4,row⟩;obtain⟨z,rfl,hzC,hjz⟩:=keyat hk;have lk:kv.length<=5:=by
     have:=row.len' (L:=C.take j) fun y hy=>all_some.mp hy;rw[ċ]at this;lia
    refine⟨_,rfl,_,rfl,rfl,.inr ⟨_,rfl,sz (by simp),fun q1 hq1=>?_⟩⟩;have t5:=Same.upd (o:=.tup [.int (if decide (V.str z=V.str nm)=true then 1 else 0),.int 1]) hq1;have f5:FrV (upd H4 q1 (.tup [.int (if decide (V.str z=V.str nm)=true then 1 else 0),.int 1])) (.ref q1) (dlt nm z):=by
     by_cases e:z=nm
     ·have e1:(if decide (V.str z=V.str nm)=true then (1:Int) else 0)=(1:Rat).num:=by rw[if_pos (decide_eq_true (by rw[e]))];rfl
      have e2:dlt nm z=(1:Rat):=by unfold dlt;rw[if_pos e]
      rw[e2];exact FrV.newOf (r:=1) e1 rfl
     ·have e1:(if decide (V.str z=V.str nm)=true then (1:Int) else 0)=(0:Rat).num:=by rw[if_neg (by rw[decide_eq_false fun q=>e (V.str.inj q)];decide)];rfl
      have e2:dlt nm z=(0:Rat):=by unfold dlt;rw[if_neg e]
      rw[e2];exact FrV.newOf (r:=0) e1 rfl
    have h45:=t5 _ _ h4;refine⟨_,rfl,_,rfl,p,_,rfl,DPut.k (k:=.inr z) h45 (sz (by lia)),?_⟩;have tu:=Ì (o:=.dK (putK kv (.inr z) (.ref q1))) h45 (fun _ z=>nomatch z);refine⟨_,putK kv (.inr z) (.ref q1),rfl,by rw[upd_ne npr.symm];exact t5 _ _ hfz4,(s4.trans t5).updD hp,Á,?_⟩;rw[Ø hjz,Α];exact((row.same fun _ _ g=>g.same t5).put (z:=z) f5).same fun v r g=>g.tup tu
   rintro σ H4 ⟨v5',kv,rfl,hfz4,s4,h4,row⟩;rw[ā,lr,đ]at row;have hR4:TabAt H0 H4 pr rows C (resC C (back ss)) ad:=by
    refine⟨TB1.nodup,TB1.keys,fun x hx=>?_,TB1.inj,TB1.apart⟩;obtain⟨a1,a2,kvx,a3,a4⟩:=TB1.row x hx;have kT:∀c m,H1 c=some (.tup m)->H2 c=some (.tup m):=fun c m e=>kp c _ e (å e hpl1 (by intro z;cases z)) (å e hr1 (by intro z;cases z));exact⟨a1,a2,kvx,s4 _ _ (kp _ _ a3 (nadl x hx) (TB1.apart x hx)),a4.same fun _ _ g=>(g.tup kT).same s4⟩
   refine⟨_,rfl,_,rfl,by lia,by lia,?_⟩;refine Δ (fun j σ H5=>∃(v6:Option V) (pT:Addr) (kT:List (Key×V)) (E W:Nat),σ=[some (.ref pr),some (.int (kk:Nat)),some (.ref pl),some (.str nm),some (.ref pT),v5',v6,v7] /\ Same H4 H5 /\ H5 pT=some (.dK kT) /\ RowAt H5 kT (all C (mass C (back ss) (dlt nm) j)) /\ H2 pT=none /\ 0<E /\ E<=W /\ W<=2^(1+103*j) /\ ∀z∈C,Cd E W (mass C (back ss) (dlt nm) j z)) ⟨_,p,kv,1,1,rfl,Same.refl _,h4,row,hp,by decide,by decide,by decide,fun z _=>?_⟩ ?_ ?_
   ·show Cd 1 1 (dlt nm z);unfold dlt
    split
    ·exact Cd.of (IsM.one 1)
    ·exact Cd.zero _ _
   ·rintro j σ H5 hj ⟨v6,pT,kT,E,W,rfl,s5,h5,row5,hpT,E0',EW,We,hcd⟩;have hj:j<kk:=by simpa using hj
    have hfz5:=s5 _ _ hfz4;have We':W<=2^3000:=Č We (þ (by lia));have nT:pT≠pr:=fun e=>by rw[e,hfz]at hpT;cases hpT
    have nA:∀x∈C,ad x≠pT:=fun x hx e=>by
     obtain⟨_,_,kvx,a3,_⟩:=TB1.row x hx;have:=kp _ _ a3 (nadl x hx) (TB1.apart x hx);rw[e,hpT]at this;cases this
    refine⟨_,rfl,_,rfl,pr,pT,H0,rows,kT,ad,C,allN ps,back ss,mass C (back ss) (dlt nm) j,D,E,W,rfl,⟨_,hfz5,.inr ⟨o,rfl⟩⟩,hR4.same s5,hC,nC,c5,hCL,G,D0,D100,h5,row5,nT,nA,E0',EW,We',hcd,fun p6 H6 kv6 hp6 s6 h6 r6=>?_⟩;refine⟨_,p6,kv6,E*D,5*(W*D),rfl,s5.trans s6,h6,r6,(s4.trans s5).free hp6,Ņ E0' D0,?_,?_,fun z hz=>zX9 G hCL c5 hcd z⟩
    ·have:=Ĕ D EW;lia
    ·have:=zU1 We D100;have e:1+103*(j+1)=1+103*j+103:=by lia
     rw[e];exact this
   rintro σ H5 ⟨v6',pT,kT,E,W,rfl,s5,h5,row5,hpT,E0',EW,We,hcd⟩;have ej:(((kk:Nat):Int)).toNat=kk:=by simp
   have row5:RowAt H5 kT (all C (mass C (back ss) (dlt nm) (((kk:Nat):Int)).toNat)):=row5;have We:W<=2^(1+103*(((kk:Nat):Int)).toNat):=We;have hcd:∀z∈C,Cd E W (mass C (back ss) (dlt nm) (((kk:Nat):Int)).toNat z):=hcd;rw[ej]at row5 We hcd;let M:Str->Rat:=mass C (back ss) (dlt nm) kk;have row5:RowAt H5 kT (all C M):=row5;have hcd:∀z∈C,Cd E W (M z):=hcd;have mt:∀z,z∈nms kT↔z∈C:=fun z=>(row5.iff z).trans all_some;have nt:(nms kT).Nodup:=â row5.nodup row5.keys;have lt5:kT.length<=5:=by rw[<- Ò];exact Č (Ö nt fun z hz=>(mt z).mp hz) c5
   have bdS:∀j,Bd 3900 (sumL ((nms kT).take j) M):=fun j=>by
    have h:=zJ1 (l:=(nms kT).take j) (f:=M) fun y hy=>hcd y ((mt y).mp (List.mem_of_mem_take hy));have h5:=h.mono (N':=5*W) (Ĕ _ (by rw[ċ,Ò];lia));refine(h5.bd (s:=900) E0' (by lia) ?_).mono (by decide);have e:(2:Nat)^900=8*2^897:=by rw[show 900=3+897 from rfl,ī]
    have:=Č We (þ (show 1+103*kk<=897 by lia));rw[e];lia
   have bdM:∀z∈C,Bd 3900 (M z):=fun z hz=>((hcd z hz).bd (s:=900) E0' EW (Č We (þ (by lia)))).mono (by decide);refine⟨sz (by simp),fun q6 hq6=>?_⟩;have t6:=Same.upd (o:=.tup [.int 0,.int 1]) hq6;have s06:=s5.trans t6;have h56:=t6 _ _ h5;have row6:=row5.same fun _ _ g=>g.same t6;have f6:FrV (upd H5 q6 (.tup [.int 0,.int 1])) (.ref q6) 0:=FrV.newOf rfl rfl;generalize upd H5 q6 (.tup [.int 0,.int 1])=H6 at *;refine⟨pT,_,h56,rfl,?_⟩;refine⟨_,rfl,pT,_,rfl,h56,rfl,fun o7 qs7 hqs7=>?_⟩;have hqs7:qs7=kT.map fun kv=>(kV kv.1,kv.2):=hqs7;subst hqs7;refine ž (fun j σ H7=>∃(w7:V) (v5:Option V),σ=[some (.ref pr),some (.int (kk:Nat)),some (.ref pl),some (.str nm),some (.ref pT),v5,v6',some w7] /\ H7 pT=some (.frz o7 (.dK kT)) /\ (∀c ob,H6 c=some ob->c≠pT->H7 c=some ob) /\ FrV H7 w7 (sumL ((nms kT).take j) M)) ?_ ?_ ?_ ?_
   ·obtain⟨c,e,hc⟩:=f6;exact⟨_,_,rfl,Á,fun c ob e n=>by rw[upd_ne n];exact e,c,e,by rw[upd_ne (å hc h56 (by intro z;cases z))];exact hc⟩
   ·rintro j σ H7 ⟨_,_,_,h,_⟩;exact h
   ·rintro j k' v σ H7 hk ⟨w7,v5,rfl,hfz7,kp7,f7⟩;obtain⟨kvi,hki,ek⟩:=Κ hk;have hval:=ů row6.nodup hki;obtain⟨z,r,hz,hg,fr,_,hnms⟩:=row6.at hki;obtain⟨rfl,rfl⟩:=Prod.mk.inj ek;obtain⟨k0,w0⟩:=kvi;have hz:k0 = .inr z:=hz;subst hz;have hzC:z∈C:=all_some.mp (by rw[hg];rfl);have er:r=M z:=by
     unfold all at hg;rw[if_pos hzC]at hg;exact(Option.some.inj hg).symm
    subst er;have hjn:(nms kT)[j]?=some z:=by
     unfold nms;rw[Ĉ,hki];rfl
    have kT7:∀c m,H6 c=some (.tup m)->H7 c=some (.tup m):=fun c m e=>kp7 c _ e (å e h56 (by intro z;cases z));refine⟨_,rfl,_,rfl,_,rfl,pT,w0,rfl,.inl ⟨kT,.inr z,.inr ⟨o7,hfz7⟩,rfl,hval.symm⟩,_,_,_,M z,rfl,f7,fr.tup kT7,(bdS j).mono (by decide),(bdM z hzC).mono (by decide),fun v8 H8 s8 f8=>?_⟩;refine⟨v8,_,rfl,s8 _ _ hfz7,fun c ob e n=>s8 _ _ (kp7 c ob e n),?_⟩;rw[Ø hjn,zB7];exact f8
   rintro σ H7 ⟨w7,v5,rfl,hfz7,kp7,f7⟩;rw[ā,<- Ò,đ,zB0 nt nC mt,show sumL C M=stay C (back ss) kk nm from yG9 (back ss) nC hnC kk]at f7;have kp8:Same H6 (upd H7 pT (.dK kT)):=fun c ob e=>by
    by_cases q:c=pT
    ·subst q;rw[h56]at e;cases e;exact Á
    ·rw[upd_ne q];exact kp7 c ob e q
   have f8:FrV (upd H7 pT (.dK kT)) w7 (stay C (back ss) kk nm):=f7.tup (Ì hfz7 (fun _ z=>nomatch z));refine⟨o7,_,hfz7,?_⟩;generalize upd H7 pT (.dK kT)=H8 at *;have s28:Same H2 H8:=s4.trans (s06.trans kp8);have h28:=s28 _ _ h2;have ll:ls.length<=5:=by rw[hLs.length,ā,ċ];lia
   refine⟨_,rfl,.inl ⟨rfl,_,SqL.of h28⟩,_,rfl,pl,_,_,rfl,rfl,h28,sz (by lia),?_⟩;have tu:=Ì (o:=.lst (ls++[w7])) h28 (fun _ z=>nomatch z);refine⟨_,_,_,_,_,ls++[w7],rfl,by rw[upd_ne npl.symm];exact s28 _ _ hfz,fun c ob e n1 n2=>by rw[upd_ne n1];exact s28 _ _ (kp c ob e n1 n2),Á,?_⟩;rw[Ø hin,Đ];exact Paired.snoc (Paired.mapP hLs fun _ _ g=>(g.same s28).tup tu) (f8.tup tu)
  rintro σ H2 ⟨v3,v4,v5,v6,v7,ls,rfl,hfz,kp,h2,hLs⟩;rw[ā,lr,đ]at hLs;refine⟨o,_,hfz,_,rfl,k pl _ ls (fun c ob e=>?_) (by rw[upd_ne npl];exact h2) ?_⟩
  ·by_cases q:c=pr
   ·subst q;rw[hrw]at e;cases e;exact Á
   ·rw[upd_ne q];exact kp _ _ (tl _ _ e) (Æ e hpl) q
  ·exact Paired.mapP hLs fun _ _ g=>g.tup (Ì (o:=.dK rows) hfz (fun _ z=>nomatch z))
noncomputable abbrev zA3:Stmt:=top 58
theorem sc__law_bound_right:Ë ["_law_tab","_law_bound","_law_k","_law_share","_law_found"] ["_law_tab","_law_bound"] (Ç zA3):=scF
theorem zF0 {ca:Ca}(D:DefAt K mg "_law_bound_right" zA3)(T:Txt K mg ca)(G__law_left:FnAt P w K mg base CX0 5 "_law_left" ["_law_tab","_law_k"] (yN3))(G__law_under:FnAt P w K mg base CX0 1 "_law_under" ["_law_one","_law_other"] (zE4)):FnAt P w K mg base CX0 6 "_law_bound_right" ["_law_tab","_law_bound"] (yF5):=by
 refine D.ok sc__law_bound_right (fun vs H Q E h=>?_) (fun _ _ _ _ _ _ us hl=>match us,hl with | [_,_],_=>rfl) (fun f cdv A outer s H vs Q E hr h=>?_)
 all_goals obtain⟨pr,q,H0,rows,ad,ps,ss,C,D,kk,f,r,rfl,hR,hCL,G,D0,D100,hq,hf,k1,k5,h1,h2,h3,h4,k⟩:=h
 ·rfl
 ·have nd:=sc__law_bound_right.nd;refine⟨_,(Â (zW5 (pv 1) (Η rfl (Ï (È (i:=2) nd rfl (Or.inl rfl)) (Ï (È (i:=3) nd rfl (Or.inr rfl)) ŭ))))
   (Â (É (i:=4) nd rfl (Or.inl rfl) (pfn G__law_left hr (À (pv 0) (À (pv 2) Ä))))
   (Â (Ű (PW.pt (yP4 (Ô (yR1 (K:=K) rfl hr) (pv 3) (pv 4) (by rfl)) (yG4 (zW4 (Ψ (pfn G__law_under hr (À (pv 3) (À (Ñ (À Ã (À Ã Ä))) Ä)))))))) (Å (Î ρ)) á)
   (Â (Ű (Ô (zM4 (K:=K) rfl hr) (Λ ["_law_one"] ["_law_share"] [3] rfl (by rfl) (ï (K:=K) rfl (pv 4)) (fun _ _ _ _=>(È (i:=0) (show List.Nodup (["_law_one","_law_share"]:List Str) from by decide) rfl (Or.inl rfl))) (fun _ _ _ _=>(zR2 (Ψ (pfn G__law_under hr (À (pv 1) (À (pv 0) Ä)))))) (fun _ _ _ _=>(pv 0))) (Γ Ä) (Ý _)) (Å (Î ρ)) á)
   (Å (Î (Ω (xN3 (K:=K) rfl hr) (Ñ (À Ã (À Ã Ä))) (pfn G__law_left hr (À (pv 0) (À (Í zP2 (pv 2) Ã) Ä))) (by rfl)))))))),?_⟩
  obtain⟨hrw,TB,hC,nC,c5,CR⟩:=id hR;obtain⟨x0,hx0,ex0⟩:=h2;have br:Bd 3900 r:=by rw[<- ex0];exact yM9 G nC hCL c5 D0 D100 (by lia) hx0
  have b1:Bd 8000 (1:Rat):=⟨ŝ (by decide),ŝ (by decide)⟩;refine⟨_,rfl,q,_,rfl,SqT.of hq,rfl,_,_,rfl,_,_,rfl,rfl,?_⟩;refine⟨_,rfl,_,rfl,pr,H0,rows,ad,ps,ss,C,D,kk,rfl,hR,hCL,G,D0,D100,by lia,fun pl H1 ls s1 h1' hLs=>?_⟩;have hf1:=hf.same s1;have hmem:r∈C.map (stay C (back ss) kk):=Ė.mpr ⟨x0,hx0,ex0⟩;refine⟨_,rfl,_,rfl,pl,ls,_,r,rfl,SqL.of h1',hLs,hf1,_,rfl,?_⟩;rw[decide_eq_true hmem];refine iteF ?_;refine⟨_,rfl,sz (by simp),fun p2 hp2=>?_⟩;have t2:=Same.upd (o:=.tup [.int 1,.int 1]) hp2;refine⟨_,_,r,1,rfl,hf1.same t2,FrV.newOf rfl rfl,br.mono (by decide),b1,_,rfl,?_⟩;rw[decide_eq_true h3];refine iteF ?_;have h12:=t2 _ _ h1';have hLs2:=Paired.mapP hLs fun _ _ g=>g.same t2;have hf2:=hf1.same t2;have s02:=s1.trans t2;generalize upd H1 p2 (.tup [.int 1,.int 1])=H2 at *;refine⟨_,rfl,pl,rfl,⟨_,SqL.of h12⟩,fun Dc hDc=>?_⟩;refine zA9 (xs:=ls) (fun j σ' H'=>∃(v:Option V),σ'=[v,some f] /\ Same H2 H' /\ H' Dc=some (.lst [])) ⟨none,rfl,Same.upd hDc,Á⟩ ?_ ?_ ?_
  ·rintro j σ' H' hj ⟨v,rfl,s3,hd⟩;exact SqL.of (s3 _ _ h12)
  ·rintro j y σ' H' hy ⟨v,rfl,s3,hd⟩;obtain⟨rx,hrx,frx⟩:=Ü hLs2 hy;obtain⟨xx,hxx,exx⟩:=Ė.mp (Ċ hrx);have brx:Bd 3900 rx:=by rw[<- exx];exact yM9 G nC hCL c5 D0 D100 (by lia) hxx
   have hle:rx<=r:=by rw[<- exx];exact h1 xx hxx
   refine⟨_,rfl,_,rfl,_,_,r,rx,rfl,hf2.same s3,frx.same s3,br.mono (by decide),brx.mono (by decide),_,rfl,?_⟩;rw[decide_eq_false (show ¬r<rx from Rat.not_lt.mpr hle)];refine iteF ?_;exact⟨_,rfl,s3,hd⟩
  rintro σ' H3 ⟨v,rfl,s3,hd⟩;refine⟨sz (by simp),fun l4 hl4=>?_⟩;have t4:=Same.upd (o:=.lst []) hl4;refine⟨_,_,repL (SqL.of (t4 _ _ hd)) xF9,repL (SqL.of Á) xF9,by decide,_,rfl,?_⟩;refine iteF ?_;have s04:=s02.trans (s3.trans t4);generalize upd H3 l4 (.lst [])=H4 at *;refine⟨sz (by simp),fun p5 hp5=>?_⟩;have t5:=Same.upd (o:=.tup [.int 1,.int 1]) hp5;have s05:=s04.trans t5;refine⟨_,rfl,_,rfl,_,_,rfl,rfl,pr,H0,rows,ad,ps,ss,C,D,kk - 1,?_,hR.same s05,hCL,G,D0,D100,by lia,fun pl6 H6 ls6 s6 h6 hLs6=>?_⟩
  ·show [V.ref pr,V.int (((kk:Nat):Int) - 1)]=[V.ref pr,V.int ((kk - 1:Nat):Int)];have e:((kk:Nat):Int) - 1=((kk - 1:Nat):Int):=by lia
   rw[e]
  obtain⟨x1,hx1,ex1⟩:=h4 (kk - 1) (by lia);have f1:FrV (upd H4 p5 (.tup [.int 1,.int 1])) (.ref p5) 1:=FrV.newOf rfl rfl;refine⟨pl6,ls6,_,1,rfl,SqL.of h6,hLs6,f1.same s6,?_⟩;rw[decide_eq_true (Ė.mpr ⟨x1,hx1,ex1⟩)];exact k _ (s05.trans s6)
noncomputable abbrev zA4:Stmt:=top 59
theorem sc__law_ages_right:Ë ["_law_house_here","_law_steps","_law_tab","_law_totals","_law_many","_law_found","_law_left_here","_law_turn","_law_age","_law_name"] ["_law_house_here","_law_steps","_law_tab","_law_totals","_law_many"] (Ç zA4):=scF
theorem zG0 {ca:Ca}(D:DefAt K mg "_law_ages_right" zA4)(T:Txt K mg ca)(G_by_age:FnAt P w K mg base CX0 7 "by_age" ["house","steps","many"] (spBy K))(G__law_led:FnAt P w K mg base CX0 4 "_law_led" ["_law_tab","_law_totals"] (yF3))(G__law_plus:FnAt P w K mg base CX0 3 "_law_plus" ["_law_one","_law_other"] (sp2 4000 (·+·))):FnAt P w K mg base CX0 8 "_law_ages_right" ["_law_house_here","_law_steps","_law_tab","_law_totals","_law_many"] (yN7 K):=by
 refine D.ok sc__law_ages_right (fun vs H Q E h=>?_) (fun _ _ _ _ _ _ us hl=>match us,hl with | [_,_,_,_,_],_=>rfl) (fun f cdv A outer s H vs Q E hr h=>?_)
 all_goals obtain⟨ah,as,pr,pt,xs,ps,ys,ss,H0,rows,kt,ad,C,X,n,rfl,hV,hR,ht,rt,ntr,nad,hl,eX,cX,n4,k⟩:=h
 ·rfl
 ·have nd:=sc__law_ages_right.nd;refine⟨_,(Â (É (i:=5) nd rfl (Or.inl rfl) (pfn G_by_age hr (À (pv 0) (À (pv 1) (À (pv 4) Ä)))))
   (Â (Ű (PW.pt (yP4 (zW4 (Ψ (ß (zZ2 (K:=K) rfl) (by rfl) T.z_isinstance zG7 (À (pv 5) (À (yQ5 (v:=.ty "list") (by rfl) T.z_list zJ2 rfl) Ä))))) (yG4 (Ô yY6 (ß (ê (K:=K) rfl) (by rfl) T.z_len PySem.boot_len (À (pv 5) Ä)) (pv 4) (Ý _))))) (Å (Î ρ)) á)
   (Â (É (i:=6) nd rfl (Or.inl rfl) (ö zE1 (by rfl) T.z_dict zN9 (À (pv 3) Ä)))
   (Â (Ú PassesOwn.never rfl (ÿ (by rfl) T.z_range (À (pv 4) Ä)) (È (i:=7) nd rfl (Or.inl rfl)) (Å (É (i:=6) nd rfl (Or.inl rfl) (pfn G__law_led hr (À (pv 2) (À (pv 6) Ä))))))
   (Â (Ú PassesOwn.never rfl (ÿ (by rfl) T.z_range (À (pv 4) Ä)) (È (i:=8) nd rfl (Or.inl rfl)) (Å (ú (Ú PassesOwn.never rfl (Ι (pv 3)) (È (i:=9) nd rfl (Or.inl rfl)) (Å (ã (Ù hr) (pv 6) (pv 9) (pfn G__law_plus hr (À (Õ (Ù hr) (pv 6) (pv 9) (fun _ _=>rfl)) (À (Õ (Ù hr) (pixL (pv 5) (pv 8)) (pv 9) (fun _ _=>rfl)) Ä))) rfl))))))
   (Å (Î (Ω (xN4 (K:=K) rfl hr) (pv 6) (pv 3) (Ý _))))))))),?_⟩
  obtain⟨hrw,TB,hC,nC,c5,CR⟩:=id hR;obtain⟨_,_,ok,c5',_,_,hO,h10⟩:=id hV;have hOs:∀s∈ss,OkS (allN ps) s:=fun s hs=>(hO s hs).1;have hCL:∀x∈C,x∈allN ps:=fun x hx=>Ó ((CR x).mp hx);have G:=ø ok.nd hOs;have D0:=Ų ss;have D100:=zB2 hO h10;have eXC:∀z∈C,X z=ldR C (back ss) X z+bT ss z:=fun z hz=>by
   rw[zE0 nC ok.ck CR];exact eX z ((CR z).mp hz)
  have hW:1200*(120*Ð ss)<=2^118:=twelve D100 (ą _);have cb:∀z∈C,Cd (120*Ð ss) (1200*(120*Ð ss)) (bT ss z):=fun z _=>xB6 ok.nd hO h10 z;have bB:∀i,i<=4->∀z∈C,Bd 540 (mass C (back ss) (bT ss) i z):=fun i hi z hz=>(yS4 G hCL c5 D0 D100 (by lia) (ş _ (by decide)) hW cb i z hz).mono (by lia);have bX:∀i,i<=4->∀z∈C,Bd 540 (mass C (back ss) X i z):=fun i hi z hz=>(yS4 G hCL c5 D0 D100 (by decide) (by decide) (ą (2^10)) cX i z hz).mono (by lia);have bSA:∀a,a<=4->∀z∈C,Bd (540+541*a) (SA C (back ss) X (bT ss) n a z):=fun a=>by
   induction a with
   | zero=>intro _ z hz;exact bX n n4 z hz
   | succ a ih =>
    intro ha z hz;have:=(ih (by lia) z hz).add (bB a (by lia) z hz);exact this.mono (by lia)
  refine⟨_,rfl,_,rfl,_,rfl,ah,as,xs,ps,ys,ss,n,rfl,hV,by lia,(fun⟨x,hx,q⟩=>absurd (hl x hx) q),fun _ pf H1 ds hpf s1 h1 dl dnd hds=>?_⟩;have hds':∀i d,ds[i]?=some d->∃kv,H1 d=some (.dK kv) /\ RowAt H1 kv (all C (mass C (back ss) (bT ss) i)):=fun i d e=>by
   obtain⟨_,_,kv,g1,g2⟩:=hds i d e;rw[<- zX5 nC ok.ck CR,<- zG9 CR]at g2;exact⟨kv,g1,g2⟩
  have dfr:∀i d,ds[i]?=some d->H d=none:=fun i d e=>(hds i d e).1;have dm:(ds.map V.ref).length=n:=by rw[ā];exact dl
  have tyf:tyS H1 (.ref pf)=some "list":=by show tyH (H1 pf)=_;rw[h1];rfl
  refine⟨_,rfl,_,_,_,_,rfl,yL7 tyf,xD5 (by decide) (by decide),_,rfl,?_⟩;refine iteF ?_;refine⟨_,rfl,_,_,rfl,.inl ⟨_,SqL.of h1,rfl⟩,_,rfl,rfl,_,rfl,?_⟩;have e1:(!decide (V.int (((ds.map V.ref).length:Nat):Int)=V.int ((n:Nat):Int)))=false:=by rw[dm];simp
  refine ite2 (fun h=>absurd (e1.symm.trans h) (by decide)) (fun _=>?_);have ht1:=s1 _ _ ht;refine⟨_,rfl,pt,kt,rfl,ht1,fun p hp=>?_⟩;have tp:=Same.upd (o:=.dK kt) hp;have s02:=s1.trans tp;have hp2:=Á (H:=H1) (a:=p) (o:=.dK kt);have rp2:RowAt (upd H1 p (.dK kt)) kt (all C X):=rt.same fun _ _ g=>g.same s02;have hp0:H p=none:=s1.free hp;generalize upd H1 p (.dK kt)=H2 at *;have hr2:=hR.same s02;refine⟨_,rfl,_,rfl,by lia,by lia,?_⟩;refine Δ (fun j σ H3=>∃(v7:Option V) (pT:Addr) (kT:List (Key×V)),σ=[some (.ref ah),some (.ref as),some (.ref pr),some (.ref pt),some (.int (n:Nat)),some (.ref pf),some (.ref pT),v7,none,none] /\ Same H2 H3 /\ H3 pT=some (.dK kT) /\ RowAt H3 kT (all C (mass C (back ss) X j)) /\ H1 pT=none) ⟨none,p,kt,rfl,Same.refl _,hp2,rp2,hp⟩ ?_ ?_
  ·rintro j σ H3 hj ⟨v7,pT,kT,rfl,s3,h3,row3,hpT⟩;have hj:j<n:=by simpa using hj
   obtain⟨E',W',e0,eW,We,hcd⟩:=zS5 G hCL c5 D0 D100 (by decide) (by decide) (ą (2^10)) cX j;have hr3:=hr2.same s3;have nT:=hR.ne (s1.free hpT);refine⟨_,rfl,_,rfl,pr,pT,H0,rows,kT,ad,C,allN ps,back ss,mass C (back ss) X j,Ð ss,E',W',rfl,⟨_,hr3.1,.inl rfl⟩,hr3.2.1,hC,nC,c5,hCL,G,D0,D100,h3,row3,nT.1,nT.2,e0,eW,Č We (þ (by lia)),hcd,fun p4 H4 kv4 hp4 s4 h4 r4=>?_⟩;exact⟨_,p4,kv4,rfl,s3.trans s4,h4,r4,(tp.trans s3).free hp4⟩
  rintro σ H3 ⟨v7,pT,kT,rfl,s3,h3,row3,hpT⟩;have ej:(((n:Nat):Int)).toNat=n:=by simp
  have row3:RowAt H3 kT (all C (mass C (back ss) X (((n:Nat):Int)).toNat)):=row3;rw[ej]at row3;have s03:=s02.trans s3;have ht3:=s03 _ _ ht;have s13:=tp.trans s3;have hpf3:=s13 _ _ h1;have nTt:pT≠pt:=fun e=>by rw[e,ht1]at hpT;cases hpT
  have nTf:pT≠pf:=fun e=>by rw[e,h1]at hpT;cases hpT
  have nTd:∀i d,ds[i]?=some d->pT≠d:=fun i d e q=>by
   obtain⟨kv,g1,_⟩:=hds' i d e;rw[q,g1]at hpT;cases hpT
  have ntd:∀i d,ds[i]?=some d->d≠pt:=fun i d e q=>by
   have:=dfr i d e;rw[q,ht]at this;cases this
  refine⟨_,rfl,_,rfl,by lia,by lia,?_⟩;refine Δ (fun a σ H4=>∃(v8 v9:Option V) (kv:List (Key×V)),σ=[some (.ref ah),some (.ref as),some (.ref pr),some (.ref pt),some (.int (n:Nat)),some (.ref pf),some (.ref pT),v7,v8,v9] /\ (∀c ob,H3 c=some ob->c≠pT->H4 c=some ob) /\ H4 pT=some (.dK kv) /\ RowAt H4 kv (all C (SA C (back ss) X (bT ss) n a))) ⟨none,none,kT,rfl,fun c ob e _=>e,h3,row3⟩ ?_ ?_
  ·rintro a σ H4 ha ⟨v8,v9,kv,rfl,kp,h4,row4⟩;have ha:a<n:=by simpa using ha
   obtain⟨d,hd⟩:∃d,ds[a]?=some d:=⟨_,Ā (by lia)⟩;obtain⟨kvd,hkd,rkd⟩:=hds' a d hd;have kT4:∀c m,H3 c=some (.tup m)->H4 c=some (.tup m):=fun c m e=>kp c _ e (å e h3 (by intro z;cases z));have ht4:=kp _ _ ht3 nTt.symm;have rt4:=rt.same fun _ _ g=>(g.same s03).tup kT4;have hd4:=kp _ _ (s13 _ _ hkd) (nTd a d hd).symm;have rd4:=rkd.same fun _ _ g=>(g.same s13).tup kT4;have hf4:=kp _ _ hpf3 nTf.symm;have hat:atI (ds.map V.ref) (0+(a:Int))=some (.ref d):=by
    rw[ŧ];refine ò ?_;rw[Ĉ,hd];rfl
   have mt:∀z,z∈nms kt↔z∈C:=fun z=>(rt.iff z).trans all_some;refine⟨pt,_,ht4,rfl,?_⟩;refine⟨_,rfl,pt,_,rfl,ht4,rfl,fun o qs hqs=>?_⟩;have hqs:qs=kt.map fun kv=>(kV kv.1,kv.2):=hqs;subst hqs;let Pt:Nat->Str->Rat:=fun j z=>SA C (back ss) X (bT ss) n a z+if z∈nms (kt.take j) then mass C (back ss) (bT ss) a z else 0;refine ž (fun j σ H5=>∃(v9:Option V) (kv':List (Key×V)),σ=[some (.ref ah),some (.ref as),some (.ref pr),some (.ref pt),some (.int (n:Nat)),some (.ref pf),some (.ref pT),v7,some (.int (0+(a:Int))),v9] /\ H5 pt=some (.frz o (.dK kt)) /\ (∀c ob,H4 c=some ob->c≠pT->c≠pt->H5 c=some ob) /\ H5 pT=some (.dK kv') /\ RowAt H5 kv' (all C (Pt j))) ?_ ?_ ?_ ?_
   ·refine⟨_,kv,rfl,Á,fun c ob e _ n=>by rw[upd_ne n];exact e,by rw[upd_ne nTt];exact h4,?_⟩;have e:all C (Pt 0)=all C (SA C (back ss) X (bT ss) n a):=ë fun z _=>by
     show SA C (back ss) X (bT ss) n a z+_=_;rw[if_neg (by simp[nms])];grind
    rw[e];exact row4.same fun v r g=>g.tup (Ì (o:=.frz o (.dK kt)) ht4 (fun _ z=>nomatch z))
   ·rintro j σ H5 ⟨_,_,_,h,_⟩;exact h
   ·rintro j k' v σ H5 hk ⟨v9,kv',rfl,hfz,kp5,h5,row5⟩;obtain⟨kvi,hki,ek⟩:=Κ hk;obtain⟨z,r,hz,hg,fr,hnot,hnms⟩:=rt4.at hki;obtain⟨rfl,rfl⟩:=Prod.mk.inj ek;obtain⟨k0,w0⟩:=kvi;have hz:k0 = .inr z:=hz;subst hz;have hzC:z∈C:=all_some.mp (by rw[hg];rfl);have kT5:∀c m,H4 c=some (.tup m)->H5 c=some (.tup m):=fun c m e=>kp5 c _ e (å e h4 (by intro z;cases z)) (å e ht4 (by intro z;cases z));obtain⟨w1,ew1,f1⟩:=row5.has z (Pt j z) (by unfold all;rw[if_pos hzC]);obtain⟨w2,ew2,f2⟩:=rd4.has z (mass C (back ss) (bT ss) a z) (by unfold all;rw[if_pos hzC]);have ePt:Pt j z=SA C (back ss) X (bT ss) n a z:=by show _+_=_;rw[if_neg hnot];grind
    have b1:Bd 4000 (Pt j z):=by rw[ePt];exact(bSA a (by lia) z hzC).mono (by lia)
    have dg1:DGet H5 pT (.str z) (some w1):=by
     have g:=DGet.k (k:=.inr z) h5;rw[ew1]at g;exact g
    have dg2:DGet H5 d (.str z) (some w2):=by
     have g:=DGet.k (k:=.inr z) (kp5 _ _ hd4 (nTd a d hd).symm (ntd a d hd));rw[ew2]at g;exact g
    have hf5:=kp5 _ _ hf4 nTf.symm (å hf4 ht4 (by intro z;cases z));refine⟨_,rfl,_,rfl,pT,w1,rfl,dg1,_,rfl,_,rfl,pf,_,_,_,rfl,rfl,SqL.of hf5,hat,_,rfl,d,w2,rfl,dg2,_,_,Pt j z,mass C (back ss) (bT ss) a z,rfl,f1,f2.tup kT5,b1,(bB a (by lia) z hzC).mono (by decide),fun u6 H6 s6 f6=>?_⟩;have h56:=s6 _ _ h5;have lk:kv'.length<=5:=Č (row5.len' fun y hy=>all_some.mp hy) c5;refine⟨_,rfl,_,rfl,pT,_,rfl,DPut.k (k:=.inr z) h56 (sz (by lia)),?_⟩;have tu:=Ì (o:=.dK (putK kv' (.inr z) u6)) h56 (fun _ z=>nomatch z);refine⟨_,putK kv' (.inr z) u6,rfl,by rw[upd_ne nTt.symm];exact s6 _ _ hfz,fun c ob e n1 n2=>by rw[upd_ne n1];exact s6 _ _ (kp5 c ob e n1 n2),Á,?_⟩;have hrow:=((row5.same fun v r g=>g.same s6).put (z:=z) f6).same fun v r g=>g.tup tu;rw[zF2 hzC]at hrow;have e:all C (Pt (j+1))=all C (fun y=>if y=z then Pt j z+mass C (back ss) (bT ss) a z else Pt j y):=ë fun y _=>by
     show SA C (back ss) X (bT ss) n a y+_=_;rw[hnms]
     by_cases e:y=z
     ·subst e;rw[if_pos rfl,if_pos (by simp),ePt]
     ·rw[if_neg e];show _=SA C (back ss) X (bT ss) n a y+_;have:(y∈nms (kt.take j)++[z])↔y∈nms (kt.take j):=by simp[e]
      by_cases q:y∈nms (kt.take j)
      ·rw[if_pos q,if_pos (this.mpr q)]
      ·rw[if_neg q,if_neg fun u=>q (this.mp u)]
    rw[e];exact hrow
   rintro σ H5 ⟨v9,kv',rfl,hfz,kp5,h5,row5⟩;rw[ā]at row5;refine⟨o,_,hfz,?_⟩;refine⟨_,_,kv',rfl,fun c ob e nn=>?_,by rw[upd_ne nTt];exact h5,?_⟩
   ·by_cases q:c=pt
    ·subst q;rw[ht3]at e;cases e;exact Á
    ·rw[upd_ne q];exact kp5 _ _ (kp c ob e nn) nn q
   ·have e:all C (SA C (back ss) X (bT ss) n (a+1))=all C (Pt kt.length):=ë fun z hz=>by
     show SA C (back ss) X (bT ss) n a z+mass C (back ss) (bT ss) a z=SA C (back ss) X (bT ss) n a z+_;rw[đ,if_pos ((mt z).mpr hz)]
    rw[e];exact row5.same fun v r g=>g.tup (Ì (o:=.dK kt) hfz (fun _ z=>nomatch z))
  rintro σ H4 ⟨v8,v9,kv,rfl,kp,h4,row4⟩;have row4:RowAt H4 kv (all C (SA C (back ss) X (bT ss) n (((n:Nat):Int)).toNat)):=row4;rw[ej]at row4;have e:all C (SA C (back ss) X (bT ss) n n)=all C X:=ë fun z hz=>xE6 eXC n z hz;rw[e]at row4;have kT4:∀c m,H3 c=some (.tup m)->H4 c=some (.tup m):=fun c m e=>kp c _ e (å e h3 (by intro z;cases z));have ht4:=kp _ _ ht3 nTt.symm;refine⟨_,rfl,_,rfl,xA2 h4 ht4 row4 (rt.same fun _ _ g=>(g.same s03).tup kT4),?_⟩;refine k _ fun c ob e=>kp _ _ (s03 _ _ e) (Æ e (s1.free hpT))
noncomputable abbrev zA2:Stmt:=top 60
theorem sc__law_means_right:Ë ["_law_house_here","_law_steps","_law_tab","_law_totals","_law_mids","_law_older","_law_name","_law_led_here"] ["_law_house_here","_law_steps","_law_tab","_law_totals"] (Ç zA2):=scF
theorem zE9 {ca:Ca}(D:DefAt K mg "_law_means_right" zA2)(T:Txt K mg ca)(G_mean_ages:FnAt P w K mg base CX0 8 "mean_ages" ["house","steps"] (xC6 K))(G__law_plus:FnAt P w K mg base CX0 3 "_law_plus" ["_law_one","_law_other"] (sp2 4000 (·+·)))(G__law_times:FnAt P w K mg base CX0 3 "_law_times" ["_law_one","_law_other"] (zK0))(G__law_led:FnAt P w K mg base CX0 4 "_law_led" ["_law_tab","_law_totals"] (yF3)):FnAt P w K mg base CX0 9 "_law_means_right" ["_law_house_here","_law_steps","_law_tab","_law_totals"] (yF2 K):=by
 refine D.ok sc__law_means_right (fun vs H Q E h=>?_) (fun _ _ _ _ _ _ us hl=>match us,hl with | [_,_,_,_],_=>rfl) (fun f cdv A outer s H vs Q E hr h=>?_)
 all_goals obtain⟨ah,as,pr,pt,xs,ps,ys,ss,H0,rows,kt,ad,C,X,rfl,hV,hR,ht,rt,ntr,nad,hl,eX,cX,k⟩:=h
 ·rfl
 ·have nd:=sc__law_means_right.nd;refine⟨_,(Â (É (i:=4) nd rfl (Or.inl rfl) (pfn G_mean_ages hr (À (pv 0) (À (pv 1) Ä))))
   (Â (É (i:=5) nd rfl (Or.inl rfl) ó)
   (Â (ú (Ú PassesOwn.never rfl (Ι (pv 3)) (È (i:=6) nd rfl (Or.inl rfl)) (Å (ã (Ù hr) (pv 5) (pv 6) (pfn G__law_plus hr (À (pfn G__law_times hr (À (Õ (Ù hr) (pv 4) (pv 6) (fun _ _=>rfl)) (À (Õ (Ù hr) (pv 3) (pv 6) (fun _ _=>rfl)) Ä))) (À (Õ (Ù hr) (pv 3) (pv 6) (fun _ _=>rfl)) Ä))) rfl))))
   (Â (É (i:=7) nd rfl (Or.inl rfl) (pfn G__law_led hr (À (pv 2) (À (pv 5) Ä))))
   (Â (ú (Ú PassesOwn.never rfl (Ι (pv 3)) (È (i:=6) nd rfl (Or.inl rfl)) (Å (Ű (Ô (zM4 (K:=K) rfl hr) (Õ (Ù hr) (pv 7) (pv 6) (fun _ _=>rfl)) (pfn G__law_times hr (À (Õ (Ù hr) (pv 4) (pv 6) (fun _ _=>rfl)) (À (Õ (Ù hr) (pv 3) (pv 6) (fun _ _=>rfl)) Ä))) (Ý _)) (Å (Î ρ)) á))))
   (Å (Î ρ))))))),?_⟩
  obtain⟨hrw,TB,hC,nC,c5,CR⟩:=id hR;obtain⟨_,_,ok,c5',_,_,hO,h10⟩:=id hV;have hOs:∀s∈ss,OkS (allN ps) s:=fun s hs=>(hO s hs).1;have hCL:∀x∈C,x∈allN ps:=fun x hx=>Ó ((CR x).mp hx);have hCL':∀x∈ckN ps,x∈allN ps:=fun x hx=>Ó hx;have G:=ø ok.nd hOs;have SC:=G.sub ok.ck ok.nd hCL';have D0:=Ų ss;have D100:=zB2 hO h10;refine⟨_,rfl,_,rfl,ah,as,xs,ps,ys,ss,rfl,hV,(fun⟨x,hx,q⟩=>absurd (hl x hx) q),fun _ pf H1 kf Cf Xf A hpf s1 hf1 mn1 nCf CRf eXf eA=>?_⟩;have eXX:∀z∈ckN ps,Xf z=X z:=yH2 SC hl eXf eX;have eL:ldR (ckN ps) (back ss) Xf=ldR (ckN ps) (back ss) X:=by
   funext z
   exact Û fun y hy=>by rw[eXX y hy]
  rw[eL]at eA;have cX':∀z∈ckN ps,Cd 2 (2^10) (X z):=fun z hz=>(cX z ((CR z).mpr hz)).1;obtain⟨E3,E30,E3W,c3⟩:=yC7 G ok.ck ok.nd hCL' hl D0 eA (show 0<2*Ð ss by lia) (show 2*Ð ss<=5*(2^10*Ð ss) by lia) fun z _=>zX9 G hCL' c5' cX' z;have W3le:=yL6 (zU1 (ą (2^10)) D100) D100 c5';generalize 5*(2^10*Ð ss)*((ckN ps).length*Ð ss)^(ckN ps).length=W3 at *;have bX:∀z∈ckN ps,Bd 11 (X z):=fun z hz=>(cX' z hz).bd (by decide) (by decide) (ą _);have bA:∀z∈ckN ps,Bd 700 (A z):=fun z hz=>((c3 z hz).bd E30 E3W W3le).mono (by decide);have xne:∀z∈ckN ps,X z≠0:=fun z hz=>(cX z ((CR z).mpr hz)).2;have bQ:∀z∈ckN ps,Bd 4000 (A z / X z):=fun z hz=>(xR4 (bA z hz) (bX z hz) (xne z hz)).mono (by decide);have mid:∀z∈ckN ps,∃w,valV kf (.inr z)=some w /\ FrV H1 w (A z / X z):=fun z hz=>by
   obtain⟨w,e,alt⟩:=mn1.val z ((CRf z).mpr hz);rcases alt with⟨e0,_⟩ | ⟨_,f⟩
   ·rw[eXX z hz]at e0;exact absurd e0 (xne z hz)
   ·rw[eXX z hz]at f;exact⟨w,e,f⟩
  have mt:∀z,z∈nms kt↔z∈C:=fun z=>(rt.iff z).trans all_some;have nt:(nms kt).Nodup:=â rt.nodup rt.keys;have lt5:kt.length<=5:=by rw[<- Ò];exact Č (Ö nt fun z hz=>(mt z).mp hz) c5
  have ht1:=s1 _ _ ht;have npft:pf≠pt:=(Æ ht hpf).symm;intro pg hpg;have tg:=Same.upd (o:=.dK []) hpg;have hg2:=Á (H:=H1) (a:=pg) (o:=.dK []);have ht2:=tg _ _ ht1;have hf2:=tg _ _ hf1;have ngt:pg≠pt:=(Æ ht1 hpg).symm;have ngf:pg≠pf:=(Æ hf1 hpg).symm;have s02:=s1.trans tg;have rt2:=rt.same fun _ _ g=>g.same s02;have mid2:∀z∈ckN ps,∃w,valV kf (.inr z)=some w /\ FrV (upd H1 pg (.dK [])) w (A z / X z):=fun z hz=>by
   obtain⟨w,e,f⟩:=mid z hz;exact⟨w,e,f.same tg⟩
  generalize upd H1 pg (.dK [])=H2 at *;refine⟨pt,_,ht2,rfl,?_⟩;refine⟨_,rfl,pt,_,rfl,ht2,rfl,fun o qs hqs=>?_⟩;have hqs:qs=kt.map fun kv=>(kV kv.1,kv.2):=hqs;subst hqs;refine ž (fun i σ H3=>∃(v6:Option V) (kv:List (Key×V)),σ=[some (.ref ah),some (.ref as),some (.ref pr),some (.ref pt),some (.ref pf),some (.ref pg),v6,none] /\ H3 pt=some (.frz o (.dK kt)) /\ (∀c ob,H2 c=some ob->c≠pg->c≠pt->H3 c=some ob) /\ H3 pg=some (.dK kv) /\ RowAt H3 kv (all (nms (kt.take i)) fun z=>A z+X z)) ?_ ?_ ?_ ?_
  ·refine⟨none,[],rfl,Á,fun c ob e _ n=>by rw[upd_ne n];exact e,by rw[upd_ne ngt];exact hg2,?_⟩;rw[Ň];show RowAt _ [] (all [] _);rw[Τ];exact RowAt.nil _
  ·rintro i σ H3 ⟨_,_,_,h,_⟩;exact h
  ·rintro i k' v σ H3 hk ⟨v6,kv,rfl,hfz,kp,h3,row⟩;obtain⟨kvi,hki,ek⟩:=Κ hk;have hval:=ů rt2.nodup hki;obtain⟨z,r,hz,hg,fr,hnot,hnms⟩:=rt2.at hki;obtain⟨rfl,rfl⟩:=Prod.mk.inj ek;obtain⟨k0,w0⟩:=kvi;have hz:k0 = .inr z:=hz;subst hz;have hzC:z∈C:=all_some.mp (by rw[hg];rfl);have hzK:=(CR z).mp hzC;have er:r=X z:=by
    unfold all at hg;rw[if_pos hzC]at hg;exact(Option.some.inj hg).symm
   subst er;have kT3:∀c m,H2 c=some (.tup m)->H3 c=some (.tup m):=fun c m e=>kp c _ e (å e hg2 (by intro z;cases z)) (å e ht2 (by intro z;cases z));obtain⟨wm,ewm,fwm⟩:=mid2 z hzK;have dgm:DGet H3 pf (.str z) (some wm):=by
    have g:=DGet.k (k:=.inr z) (kp _ _ hf2 ngf.symm npft);rw[ewm]at g;exact g
   have dgt:∀{H':Hp},Same H3 H'->DGet H' pt (.str z) (some w0):=fun {H'} s=>.inl ⟨kt,.inr z,.inr ⟨o,s _ _ hfz⟩,rfl,hval.symm⟩;have fr3:=fr.tup kT3;have lk:kv.length<=5:=by
    have:=row.len' (L:=nms (kt.take i)) fun y hy=>all_some.mp hy;rw[Ò,ċ]at this;lia
   refine⟨_,rfl,_,rfl,pf,wm,rfl,dgm,_,rfl,_,rfl,pt,w0,rfl,dgt (Same.refl _),_,_,A z / X z,X z,rfl,(fwm.tup kT3).rw (bQ z hzK),fr3.rw ((bX z hzK).mono (by decide)),fun u4 H4 s4 f4=>?_⟩;rw[zP4 (xne z hzK)]at f4;refine⟨_,rfl,_,rfl,pt,w0,rfl,dgt s4,_,_,A z,X z,rfl,f4,fr3.same s4,(bA z hzK).mono (by decide),(bX z hzK).mono (by decide),fun u5 H5 s5 f5=>?_⟩;have s35:=s4.trans s5;have h35:=s35 _ _ h3;refine⟨_,rfl,_,rfl,pg,_,rfl,DPut.k (k:=.inr z) h35 (sz (by lia)),?_⟩;have tu:=Ì (o:=.dK (putK kv (.inr z) u5)) h35 (fun _ z=>nomatch z);refine⟨_,putK kv (.inr z) u5,rfl,by rw[upd_ne ngt.symm];exact s35 _ _ hfz,fun c ob e n1 n2=>by rw[upd_ne n1];exact s35 _ _ (kp c ob e n1 n2),Á,?_⟩;rw[hnms,Α];exact((row.same fun _ _ g=>g.same s35).put (z:=z) f5).same fun v r g=>g.tup tu
  rintro σ H3 ⟨v6,kv,rfl,hfz,kp,h3,row⟩;rw[ā,đ]at row;refine⟨o,.dK kt,hfz,?_⟩;have e0:all (nms kt) (fun z=>A z+X z)=all C fun z=>A z+X z:=by
   funext z
   unfold all
   by_cases q:z∈C
   ·rw[if_pos q,if_pos ((mt z).mpr q)]
   ·rw[if_neg q,if_neg fun u=>q ((mt z).mp u)]
  rw[e0]at row;have ht4:=Á (H:=H3) (a:=pt) (o:=.dK kt);have h4:upd H3 pt (.dK kt) pg=some (.dK kv):=by rw[upd_ne ngt];exact h3
  have kp4:∀c ob,H2 c=some ob->c≠pg->upd H3 pt (.dK kt) c=some ob:=fun c ob e n=>by
   by_cases q:c=pt
   ·subst q;rw[ht2]at e;cases e;exact Á
   ·rw[upd_ne q];exact kp c ob e n q
  have row4:=row.same fun v r g=>g.tup (Ì (o:=.dK kt) hfz (fun _ z=>nomatch z));generalize upd H3 pt (.dK kt)=H4 at *;have hpg0:H pg=none:=s1.free hpg;have s04:Same H H4:=fun c ob e=>kp4 c ob (s02 _ _ e) (Æ e hpg0);have kT4:∀c m,H2 c=some (.tup m)->H4 c=some (.tup m):=fun c m e=>kp4 c _ e (å e hg2 (by intro z;cases z));have hR4:=hR.same s04;have nG:=hR.ne hpg0;have cAX:∀z∈C,Cd (E3*2) (W3*2+2^10*E3) (A z+X z):=fun z hz=>by
   have a:=(c3 z ((CR z).mp hz)).up 2;have b:=(cX z hz).1.up E3;rw[Ŏ 2 E3]at b;exact a.add b
  show Ends.nx _ [some (.ref ah),some (.ref as),some (.ref pr),some (.ref pt),some (.ref pf),some (.ref pg),v6,none] _;refine⟨_,rfl,_,rfl,pr,pg,H0,rows,kv,ad,C,allN ps,back ss,fun z=>A z+X z,Ð ss,E3*2,W3*2+2^10*E3,rfl,⟨_,hR4.1,.inl rfl⟩,hR4.2.1,hC,nC,c5,hCL,G,D0,D100,h4,row4,nG.1,nG.2,by lia,by lia,?_,cAX,fun p5 H5 kv5 hp5 s5 h5 r5=>?_⟩
  ·have e:(2:Nat)^3000=2^11*2^2989:=by rw[<- ī]
   have h:=Č W3le (þ (show 10+103+515<=2989 by decide));have e11:(2:Nat)^11=2048:=by decide
   have e10:(2:Nat)^10=1024:=by decide
   rw[e,e11,e10];lia
  have eld:all C (ldR C (back ss) fun z=>A z+X z)=all C A:=ë fun z hz=>by
   rw[zE0 nC ok.ck CR];have hzK:=(CR z).mp hz;rw[eA z hzK];unfold ldR;have e3:∀l:List Str,(sumL l fun y=>(A y+X y)*back ss y z)=(sumL l fun y=>A y*back ss y z)+sumL l fun y=>X y*back ss y z:=fun l=>by
    induction l with
    | nil=>show (0:Rat)=0+0;rw[Ŋ]
    | cons a l ih'=>rw[Ê,Ê,Ê,ih'];grind
   exact e3 _
  rw[eld]at r5;have ht5:=s5 _ _ ht4;have hf5:=s5 _ _ (kp4 _ _ hf2 ngf.symm);have rt5:=rt2.same fun _ _ g=>(g.tup kT4).same s5;refine⟨pt,_,ht5,rfl,?_⟩;refine⟨_,rfl,pt,_,rfl,ht5,rfl,fun o6 qs6 hqs6=>?_⟩;have hqs6:qs6=kt.map fun kv=>(kV kv.1,kv.2):=hqs6;subst hqs6;have n5t:p5≠pt:=(Æ ht4 hp5).symm;refine ž (fun i σ H6=>∃(v6:Option V),σ=[some (.ref ah),some (.ref as),some (.ref pr),some (.ref pt),some (.ref pf),some (.ref pg),v6,some (.ref p5)] /\ H6 pt=some (.frz o6 (.dK kt)) /\ ∀c ob,H5 c=some ob->c≠pt->H6 c=some ob) ?_ ?_ ?_ ?_
  ·exact⟨_,rfl,Á,fun c ob e n=>by rw[upd_ne n];exact e⟩
  ·rintro i σ H6 ⟨_,_,h,_⟩;exact h
  ·rintro i k' v σ H6 hk ⟨v6,rfl,hfz6,kp6⟩;obtain⟨kvi,hki,ek⟩:=Κ hk;have hval:=ů rt5.nodup hki;obtain⟨z,r,hz,hg,fr,hnot,hnms⟩:=rt5.at hki;obtain⟨rfl,rfl⟩:=Prod.mk.inj ek;obtain⟨k0,w0⟩:=kvi;have hz:k0 = .inr z:=hz;subst hz;have hzC:z∈C:=all_some.mp (by rw[hg];rfl);have hzK:=(CR z).mp hzC;have er:r=X z:=by
    unfold all at hg;rw[if_pos hzC]at hg;exact(Option.some.inj hg).symm
   subst er;have kT6:∀c m,H5 c=some (.tup m)->H6 c=some (.tup m):=fun c m e=>kp6 c _ e (å e ht5 (by intro z;cases z));obtain⟨wm,ewm,fwm⟩:=mid2 z hzK;have fwm6:FrV H6 wm (A z / X z):=((fwm.tup kT4).same s5).tup kT6;have dgm:DGet H6 pf (.str z) (some wm):=by
    have g:=DGet.k (k:=.inr z) (kp6 _ _ hf5 npft);rw[ewm]at g;exact g
   obtain⟨wl,ewl,fwl⟩:=r5.has z (A z) (by unfold all;rw[if_pos hzC]);have dgl:DGet H6 p5 (.str z) (some wl):=by
    have g:=DGet.k (k:=.inr z) (kp6 _ _ h5 n5t);rw[ewl]at g;exact g
   refine⟨_,rfl,_,rfl,p5,wl,rfl,dgl,_,rfl,_,rfl,pf,wm,rfl,dgm,_,rfl,_,rfl,pt,w0,rfl,.inl ⟨kt,.inr z,.inr ⟨o6,hfz6⟩,rfl,hval.symm⟩,_,_,A z / X z,X z,rfl,fwm6.rw (bQ z hzK),(fr.tup kT6).rw ((bX z hzK).mono (by decide)),fun u7 H7 s7 f7=>?_⟩;rw[zP4 (xne z hzK)]at f7;refine⟨_,_,((fwl.tup kT6).same s7).rep,f7.rep,Ż _ _,_,rfl,?_⟩;rw[zN4,ο,decide_eq_true rfl];refine iteF ?_;exact⟨_,rfl,s7 _ _ hfz6,fun c ob e n=>s7 _ _ (kp6 c ob e n)⟩
  rintro σ H6 ⟨v6',rfl,hfz6,kp6⟩;refine⟨o6,_,hfz6,?_⟩;refine k _ fun c ob e=>?_;have e5:=s5 _ _ (s04 _ _ e)
  by_cases q:c=pt
  ·subst q;rw[ht]at e;cases e;exact Á
  ·rw[upd_ne q];exact kp6 _ _ e5 q
noncomputable abbrev τ:Stmt:=top 61
theorem sc_law:Ë ["_law_script","_law_names_here","_law_cells","_law_house_here","_law_year","_law_deeds","_law_last","_law_standing","_law_totals","_law_place","_law_steps","_law_after","_law_found","_law_tab"] ["_law_script"] (Ç τ):=scF
theorem xN7 {ca:Ca}{f:Addr}{fd:FuncData}(D:Fun K "law" "law" τ f fd)(T:Txt K mg ca)(G__law_names:FnAt P w K mg base CX0 1 "_law_names" ["_law_cell"] (xL2))(G__law_cell_at:FnAt P w K mg base CX0 1 "_law_cell_at" ["_law_script","_law_k"] (xC9 K))(G__law_house:FnAt P w K mg base CX0 3 "_law_house" ["_law_cell","_law_names_here"] (zV2))(G__law_round:FnAt P w K mg base CX0 4 "_law_round" ["_law_house_here","_law_names_here","_law_cells"] (yN0 K))(G_steps_of:FnAt P w K mg base CX0 6 "steps_of" ["house","totals","year","deeds"] (zV0 K))(G_long_run:FnAt P w K mg base CX0 8 "long_run" ["house","steps"] (xC7 K))(G_casks_table:FnAt P w K mg base CX0 6 "casks_table" ["house","steps"] (zB9 K))(G__law_bound_right:FnAt P w K mg base CX0 6 "_law_bound_right" ["_law_tab","_law_bound"] (yF5))(G__law_ages_right:FnAt P w K mg base CX0 8 "_law_ages_right" ["_law_house_here","_law_steps","_law_tab","_law_totals","_law_many"] (yN7 K))(G__law_means_right:FnAt P w K mg base CX0 9 "_law_means_right" ["_law_house_here","_law_steps","_law_tab","_law_totals"] (yF2 K)):FnOk P w K mg base CX0 10 f fd ["_law_script"] (spLaw K):=by
 refine D.ok sc_law (fun vs H Q E h=>?_) (fun cdv A outer s H vs Q E hr h=>?_)
 all_goals obtain⟨a,ns,rfl,hS,hlen,k⟩:=h
 ·rfl
 ·have nd:=sc_law.nd;refine⟨_,(Â (É (i:=1) nd rfl (Or.inl rfl) (pfn G__law_names hr (À (pfn G__law_cell_at hr (À (pv 0) (À Ã Ä))) Ä)))
   (Â (zI2 ["_law_k"] ["_law_script"] [0] (i:=2) nd rfl rfl rfl (by rfl) (ÿ (by rfl) T.z_range (À Ã Ä)) (fun _ _ _ _=>(È (i:=0) (show List.Nodup (["_law_k","_law_script"]:List Str) from by decide) rfl (Or.inl rfl))) (fun _ _ _ _=>Θ) (fun _ _ _ _=>(pfn G__law_cell_at hr (À (pv 1) (À (Í ŷ Ã (pv 0)) Ä)))))
   (Â (É (i:=3) nd rfl (Or.inl rfl) (pfn G__law_house hr (À (pfn G__law_cell_at hr (À (pv 0) (À Ã Ä))) (À (pv 1) Ä))))
   (Â (É (i:=4) nd rfl (Or.inl rfl) (Í ŷ Ã (Í æ (Í ä (pfn G__law_cell_at hr (À (pv 0) (À Ã Ä))) Ã) Ã)))
   (Â (zW5 (pfn G__law_round hr (À (pv 3) (À (pv 1) (À (pv 2) Ä)))) (Η rfl (Ï (È (i:=5) nd rfl (Or.inl rfl)) (Ï (È (i:=6) nd rfl (Or.inl rfl)) ŭ))))
   (Â (É (i:=7) nd rfl (Or.inl rfl) ó)
   (Â (É (i:=8) nd rfl (Or.inl rfl) ó)
   (Â (Ú PassesOwn.never rfl (ï (K:=K) rfl (pv 3)) (È (i:=9) nd rfl (Or.inl rfl)) (Â (ã (Ù hr) (pv 7) (pixT (pv 9) Ã) (Ñ (À Ã (À Ã Ä))) rfl)
   (Å (Ű (Ô Ν (pixT (pv 9) Ã) í (Ý _)) (Â (ã (Ù hr) (pv 7) (pixT (pv 9) Ã) (pixT (pv 9) Ã) rfl)
   (Å (ã (Ù hr) (pv 8) (pixT (pv 9) Ã) (pixT (pv 9) Ã) rfl))) á))))
   (Â (zW5 (pfn G_steps_of hr (À (pv 3) (À (ö zE1 (by rfl) T.z_dict zN9 (À (pv 7) Ä)) (À (pv 4) (À (pv 5) Ä))))) (Η rfl (Ï (È (i:=10) nd rfl (Or.inl rfl)) (Ï (È (i:=11) nd rfl (Or.inl rfl)) ŭ))))
   (Â (É (i:=12) nd rfl (Or.inl rfl) (pfn G_long_run hr (À (pv 3) (À (ö (zC5 (K:=K) rfl) (by rfl) T.z_list zJ2 (À (pv 10) Ä)) Ä))))
   (Â (Ű (PW.pt (yP4 (zW4 (Ψ (ß (zZ2 (K:=K) rfl) (by rfl) T.z_isinstance zG7 (À (pv 12) (À (yQ5 (v:=.ty "tuple") (by rfl) T.z_tuple xB3 rfl) Ä))))) (yP4 (Ô yY6 (ß (ê (K:=K) rfl) (by rfl) T.z_len PySem.boot_len (À (pv 12) Ä)) Ã (Ý _)) (yG4 (Ô (xN2 (K:=K) rfl hr) (zF9 (xF5 (K:=K) rfl) (pv 12) zM3 (zM2 Ã)) (Ñ (À í (À (pv 8) Ä))) (Ý _)))))) (Å (Î ρ)) á)
   (Â (É (i:=13) nd rfl (Or.inl rfl) (pfn G_casks_table hr (À (pv 3) (À (pv 10) Ä))))
   (Â (Ű (PW.pt (yP4 (Ô (zM4 (K:=K) rfl hr) (ß (zJ4 rfl) (by rfl) T.z_sorted zN8 (À (pv 13) Ä)) (ß (zJ4 rfl) (by rfl) T.z_sorted zN8 (À (pv 8) Ä)) (Ý _)) (yG4 (zW4 (Ψ (pfn G__law_bound_right hr (À (pv 13) (À (pixT (pv 12) Ã) Ä)))))))) (Å (Î ρ)) á)
   (Â (Ű (zW4 (Ψ (pfn G__law_ages_right hr (À (pv 3) (À (pv 10) (À (pv 13) (À (pv 8) (À (Í æ (pfn G__law_cell_at hr (À (pv 0) (À Ã Ä))) Ã) Ä)))))))) (Å (Î ρ)) á)
   (Å (Î (pfn G__law_means_right hr (À (pv 3) (À (pv 10) (À (pv 13) (À (pv 8) Ä))))))))))))))))))))),?_⟩
  refine cutS fun nX eX=>?_;refine⟨_,rfl,a,ns,0,rfl,hS,by decide,fun c0=>⟨c0,rfl,fun an H1 L s1 hN=>?_⟩⟩;refine stpS eX fun nX eX=>?_;refine⟨_,rfl,by decide,by decide,fun D hD=>?_⟩;refine zF1 (fun j σ' H'=>∃(v:Option V) (cl:List Int),σ'=[v,some (.ref a)] /\ Same H1 H' /\ H' D=some (.lst (cl.map V.int)) /\ cl.length=j) ⟨none,[],rfl,Same.upd hD,Á,rfl⟩ ?_ ?_
  ·rintro j σ' H' hj ⟨v,cl,rfl,s2,hd,hcl⟩;have hj:j<5:=hj;refine⟨_,rfl,_,rfl,gJ ⟨a,ns,2+(0+(j:Int)),rfl,(s1.trans s2).seq hS,by lia,fun c=>?_⟩⟩;refine⟨_,hd,by rw[ā];exact sz (by lia),_,cl++[c],rfl,s2.updD hD,?_,by rw[Ď,hcl];rfl⟩;rw[Á,Đ];rfl
  rintro σ' H2 ⟨v,cl,rfl,s2,hD2,hcl⟩;have hcl:cl.length=5:=hcl;have s02:=s1.trans s2;have hN2:NmV H2 an L:=⟨s2 _ _ hN.1,hN.2⟩;refine stpS eX fun nX eX=>?_;refine⟨_,rfl,a,ns,1,rfl,s02.seq hS,by decide,fun c1=>⟨_,rfl,c1,an,L,rfl,hN2,fun ph H3 xs ps m s3 hs=>?_⟩⟩;have s03:=s02.trans s3;refine stpS eX fun nX eX=>?_;refine⟨_,rfl,a,ns,1,rfl,s03.seq hS,by decide,fun c3=>(hI (ddv (by decide) (by decide)) (hI (show (900:Int)≠0 by decide) (gJ ?_)))⟩;let yr:Int:=1000+(c3.fdiv 7).fmod 900;refine stpS eX fun nX eX=>?_;refine⟨_,rfl,_,rfl,_,rfl,ph,an,D,xs,ps,L,m,cl,rfl,hs,⟨s3 _ _ hN2.1,hN.2⟩,s3 _ _ hD2,hcl,fun r H4 pl ys la ds S s4 hr4 hpl4 hY4 dl8 rw0 so=>?_⟩;refine⟨r,_,rfl,SqT.of hr4,rfl,_,_,rfl,_,_,rfl,rfl,?_⟩;have hs4:=hs.same s4;obtain⟨hah,hP,hok,rm,eck,m2,m4,_⟩:=id hs4;have hlen:xs.length=ps.length:=hP.length;have p8:=hok.len;have ckl:(ckN ps).length<=4:=by rw[eck,ċ];lia
  refine stpS eX fun nX eX=>?_;intro pst hpst;have tst:=Same.upd (o:=.dK []) hpst;refine stpS eX fun nX eX=>?_;intro pto hpto;have tto:=Same.upd (o:=.dK []) hpto;have nst:pst≠pto:=fun e=>by rw[<- e,Á]at hpto;cases hpto
  have t45:=tst.trans tto;have hst5:upd (upd H4 pst (.dK [])) pto (.dK []) pst=some (.dK []):=tto _ _ Á;have hto5:=Á (H:=upd H4 pst (.dK [])) (a:=pto) (o:=.dK []);have hpto4:H4 pto=none:=tst.free hpto;generalize upd (upd H4 pst (.dK [])) pto (.dK [])=H5 at *;refine stpS eX fun nX eX=>?_;refine⟨_,rfl,ph,rfl,⟨_,SqL.of (t45 _ _ hah)⟩,?_⟩;refine Ÿ (xs:=xs) (fun i σ H6=>∃(v9:Option V) (ks ko:List (Key×V)),σ=[some (.ref a),some (.ref an),some (.ref D),some (.ref ph),some (.int yr),some (.ref pl),some (.int la),some (.ref pst),some (.ref pto),v9,none,none,none,none] /\ Same H4 H6 /\ H6 pst=some (.dK ks) /\ RowAt H6 ks (all (allN (ps.take i)) (full ps)) /\ H6 pto=some (.dK ko) /\ RowAt H6 ko (all (ckN (ps.take i)) (full ps))) ⟨none,[],[],rfl,t45,hst5,?_,hto5,?_⟩ ?_ ?_ ?_
  ·rw[Ň];exact(Τ _)▸RowAt.nil _
  ·rw[Ň];exact(Τ _)▸RowAt.nil _
  ·rintro i σ H6 hi ⟨v9,ks,ko,rfl,s6,h6,rs6,g6,ro6⟩;exact SqL.of (s6 _ _ hah)
  ·rintro i y σ H6 hy ⟨v9,ks,ko,rfl,s6,h6,rs6,g6,ro6⟩;obtain⟨p,hp,pv⟩:=Ü hP hy;have et:=Ø hp;have lks:ks.length<=8:=by
    have:=rs6.lenO fun z hz=>yE2 hz;unfold allN at this;rw[ā,ċ]at this;lia
   have lko:ko.length<=8:=by
    have:=ro6.lenO fun z hz=>yE2 hz;have h2:=yI4 (ps:=ps.take i);rw[ċ]at h2;lia
   have ea:allN (ps.take (i+1))=allN (ps.take i)++[nmP p]:=by unfold allN;rw[et,Đ];rfl
   refine⟨sz (by simp),fun q7 hq7=>?_⟩;have t7:=Same.upd (o:=.tup [.int 0,.int 1]) hq7;have h67:=t7 _ _ h6;have f7:FrV (upd H6 q7 (.tup [.int 0,.int 1])) (.ref q7) 0:=FrV.newOf rfl rfl;have rs7:=rs6.same fun _ _ g=>g.same t7;have ro7:=ro6.same fun _ _ g=>g.same t7;have g67:=t7 _ _ g6;have s07:=s6.trans t7;have hpst4:H4 pst=none:=hpst;generalize upd H6 q7 (.tup [.int 0,.int 1])=H7 at *;have tu7:=Ì (o:=.dK (putK ks (.inr (nmP p)) (.ref q7))) h67 (fun _ z=>nomatch z);have s08:Same H4 (upd H7 pst (.dK (putK ks (.inr (nmP p)) (.ref q7)))):=s07.updD hpst4;have hst8:=Á (H:=H7) (a:=pst) (o:=.dK (putK ks (.inr (nmP p)) (.ref q7)));have rs8:=(rs7.put (z:=nmP p) f7).same fun v r g=>g.tup tu7;have g8:upd H7 pst (.dK (putK ks (.inr (nmP p)) (.ref q7))) pto=some (.dK ko):=by rw[upd_ne nst.symm];exact g67
   have ro8:=ro7.same fun v r g=>g.tup tu7;have l8:=zA1 ks (.inr (nmP p)) (.ref q7);have dp8:=DPut.k (k:=.inr (nmP p)) (v:=.ref q7) h67 (sz (by lia));generalize putK ks (.inr (nmP p)) (.ref q7)=ks8 at *;cases p with
   | sk z =>
    obtain⟨b,rfl,hb⟩:=pv;refine⟨_,rfl,_,rfl,hT (s07 _ _ hb) rfl ⟨pst,_,rfl,dp8,?_⟩⟩;generalize upd H7 pst (.dK ks8)=H8 at *;refine⟨_,rfl,hT (s08 _ _ hb) rfl ⟨rfl,_,rfl,?_⟩⟩;refine é (by decide +kernel) ?_;have hz:z∉ckN ps:=fun h=>by
     obtain⟨p',hp',e'⟩:=Ė.mp h;have hm:=ĸ.mp hp';cases p' with
     | sk z'=>cases hm.2
     | ck z' r' =>
      have e':z'=z:=e';subst e';obtain⟨i1,hi1,e1⟩:=ě hm.1;have a1:(allN ps)[i1]?=some z':=by unfold allN;rw[Ĉ,Ā hi1,e1];rfl
      have a2:(allN ps)[i]?=some z':=by unfold allN;rw[Ĉ,hp];rfl
      have hil:i1<(allN ps).length:=(Ą.mp a1).1;have:=yK8 hok.nd hil (a1.trans a2.symm);subst this;rw[Ā hi1,e1]at hp;cases hp
    refine⟨_,ks8,ko,rfl,s08,hst8,?_,g8,?_⟩
    ·rw[ea,Α];show RowAt H8 ks8 (fun y=>if y=z then some (full ps z) else all (allN (ps.take i)) (full ps) y);rw[yH8 hz];exact rs8
    ·have e:ckN (ps.take (i+1))=ckN (ps.take i):=by
      unfold ckN;rw[et,Ķ,Đ];show _++[]=_;rw[ļ]
     rw[e];exact ro8
   | ck z rr =>
    obtain⟨b,f,rfl,hb,hf⟩:=pv;have hrz:=yF9 hok.nd (Ċ hp);refine⟨_,rfl,_,rfl,hT (s07 _ _ hb) rfl ⟨pst,_,rfl,dp8,?_⟩⟩;generalize upd H7 pst (.dK ks8)=H8 at *;have hb8:=s08 _ _ hb;have hf8:=hf.same s08;refine⟨_,rfl,hT hb8 rfl ⟨rfl,_,rfl,?_⟩⟩;refine ŵ rfl ?_;refine⟨_,rfl,hT hb8 rfl ⟨_,rfl,_,rfl,hT hb8 rfl ⟨pst,_,rfl,DPut.k (k:=.inr z) hst8 (sz (by lia)),?_⟩⟩⟩;have tu9:=Ì (o:=.dK (putK ks8 (.inr z) f)) hst8 (fun _ z=>nomatch z);have s09:Same H4 (upd H8 pst (.dK (putK ks8 (.inr z) f))):=s08.updD hpst4;have hst9:=Á (H:=H8) (a:=pst) (o:=.dK (putK ks8 (.inr z) f));have rs9:=(rs8.put (z:=z) hf8).same fun v r g=>g.tup tu9;have g9:upd H8 pst (.dK (putK ks8 (.inr z) f)) pto=some (.dK ko):=by rw[upd_ne nst.symm];exact g8
    have ro9:=ro8.same fun v r g=>g.tup tu9;generalize upd H8 pst (.dK (putK ks8 (.inr z) f))=H9 at *;have hb9:=s09 _ _ hb;have hf9:=hf.same s09;refine⟨_,rfl,b,_,_,_,rfl,rfl,SqT.of hb9,rfl,_,rfl,_,rfl,b,_,_,_,rfl,rfl,SqT.of hb9,rfl,pto,_,rfl,DPut.k (k:=.inr z) g9 (sz (by lia)),?_⟩;have tu10:=Ì (o:=.dK (putK ko (.inr z) f)) g9 (fun _ z=>nomatch z);refine⟨_,putK ks8 (.inr z) f,putK ko (.inr z) f,rfl,s09.updD hpto4,by rw[upd_ne nst];exact hst9,?_,Á,?_⟩
    ·rw[ea,Α];have e:(fun y=>if y=z then some rr else if y=z then some 0 else all (allN (ps.take i)) (full ps) y)=fun y=>if y=z then some (full ps z) else all (allN (ps.take i)) (full ps) y:=by
      funext y
      rw[Ο hrz]
      by_cases q:y=z
      ·rw[if_pos q,if_pos q]
      ·rw[if_neg q,if_neg q,if_neg q]
     show RowAt _ _ (fun y=>if y=z then some (full ps z) else all (allN (ps.take i)) (full ps) y);rw[<- e];exact rs9.same fun v r g=>g.tup tu10
    ·have e:ckN (ps.take (i+1))=ckN (ps.take i)++[z]:=by
      unfold ckN;rw[et,Ķ,Đ];rfl
     rw[e,Α,Ο hrz];exact(ro9.put (z:=z) hf9).same fun v r g=>g.tup tu10
  rintro σ H6 ⟨v9,ks,ko,rfl,s6,h6,rs6,g6,ro6⟩;rw[hlen,đ]at rs6 ro6;obtain⟨wg,wf,wsS⟩:=rw0 (full ps) (fun z hz=>rfl);have hI0:=xJ3 rm;have hah6:=s6 _ _ hah;refine stpS eX fun nX eX=>?_;refine⟨_,rfl,_,rfl,pst,ks,rfl,h6,fun pc hpc=>?_⟩;have t7:=Same.upd (o:=.dK ks) hpc;have s67:=s6.trans t7;refine⟨_,rfl,_,rfl,ph,pc,yr,pl,xs,ps,ks,ys,ds,full ps,rfl,SqL.of (s67 _ _ hah),à hP s67,hok,rm.ok,Á,rs6.same (fun _ _ g=>g.same t7),SqL.of (s67 _ _ hpl4),zA8 hY4 s67,xP7 wg,hI0,by lia,fun rr pS pA H8 ws kvA s8 h8 hpS hpA hws hW hkvA rkvA=>?_⟩;refine⟨rr,_,rfl,SqT.of h8,rfl,_,_,rfl,_,_,rfl,rfl,?_⟩;let ss:List Stp:=(run ps (full ps) yr ds).ss;have hW:Paired (StV H8) ws ss:=hW;have essS:ss.map nY=S:=by
   have:=(xF8 ps ds ⟨full ps,yr,[]⟩).2;rw[<- wsS];exact this
  have hO:∀s∈ss,OkT (allN ps) s:=fun s hs=>xN8 (so.1 _ (by rw[<- essS];exact Ė.mpr ⟨s,hs,rfl⟩));have hOs:∀s∈ss,OkS (allN ps) s:=fun s hs=>(hO s hs).1;have sl:ss.length<=7:=by
   have:=congrArg List.length essS;rw[ā]at this;have h2:=so.2.1;lia
  have ebk:back S=back ss:=by rw[<- essS];exact xJ9 ss
  have hlk:∀x∈ckN ps,Leak (ckN ps) (back ss) x:=fun x hx=>by rw[<- ebk];exact so.2.2 x hx
  have hCL':∀x∈ckN ps,x∈allN ps:=fun x hx=>Ó hx;have eF:∀z∈ckN ps,full ps z=ldR (ckN ps) (back ss) (full ps) z+bT ss z:=fun z hz=>by
   have e1:=xO5 hok.nd hok.ck hCL' hOs (f:=full ps) (fun z h=>yH8 h) z hz;have e2:ledB true ss (full ps)=wT ps (full ps) ds:=by
    rw[<- yC6 true ss,essS,<- wsS];exact xC1 rm.ok ds (full ps) 0 hI0 wg (by lia)
   rw[e2,wf z hz]at e1;exact e1
  have G:=ø hok.nd hOs;have SC:=G.sub hok.ck hok.nd hCL';have D0:=Ų ss;have D100:=zB2 hO (show ss.length<=10 by lia);have s68:=t7.trans s8;have s48:=s6.trans s68;have hah8:=s48 _ _ hah;have hP8:=à hP s48;have ho8:=s68 _ _ g6;have ro8:=ro6.same fun _ _ g=>g.same s68;have ckne:ckN ps≠[]:=fun e=>by
   have:=congrArg List.length eck;rw[e,ċ,hN.2.1]at this;have:0=min m 9:=this;lia
  refine stpS eX fun nX eX=>?_;refine⟨_,rfl,_,rfl,pS,ws,rfl,.inl (SqL.of hws),fun l9 hl9=>?_⟩;have t9:=Same.upd (o:=.lst ws) hl9;refine⟨ph,l9,xs,ps,ws,ss,rfl,SqL.of (t9 _ _ hah8),à hP8 t9,hok,ckne,by lia,SqL.of Á,õ hW t9,hO,by lia,?_,fun _ pF H10 qF dF f r kF kvF X hpF s10 hF hdF0 hdF rF eXF _ hqF fF k1 kC st1 st2 r1 st3=>?_⟩
  ·intro p' H' l' zs _ _ _ _ _ _ _ hz _ hne;obtain⟨x,hx⟩:=List.exists_mem_of_ne_nil _ hne;have:=(hz x).mp hx;exact absurd (hlk x this.1) this.2
  have eXX:∀z∈ckN ps,X z=full ps z:=yH2 SC hlk eXF eF;have s810:=t9.trans s10;have rF':RowAt H10 kvF (all (ckN ps) (full ps)):=by
   have e:all (ckN ps) X=all (ckN ps) (full ps):=ë fun z hz=>eXX z hz;rw[<- e];exact rF
  have tyF:tyS H10 (.ref pF)=some "tuple":=by show tyH (H10 pF)=_;rw[hF];rfl
  refine stpS eX fun nX eX=>?_;refine⟨_,rfl,_,_,_,_,rfl,yL7 tyF,xD5 (by decide) (by decide),_,rfl,?_⟩;refine iteF ?_;refine⟨_,rfl,_,_,rfl,.inr ⟨_,SqT.of hF,rfl⟩,rfl,_,rfl,?_⟩;refine iteF ?_;refine⟨_,rfl,2,rfl,pF,_,rfl,SqT.of hF,(by show ¬(HT.sIx 3 0 none=0 /\ HT.sIx 3 3 (some 2)=3);decide),fun p11 hp11=>?_⟩;have ecut:cutV [V.str "lasting",V.ref dF,V.ref qF] none (some 2)=[V.str "lasting",V.ref dF]:=rfl;rw[ecut];have t11:=Same.upd (o:=.tup [V.str "lasting",V.ref dF]) hp11;refine⟨_,rfl,sz (by simp),fun p12 hp12=>?_⟩;have t12:=Same.upd (o:=.tup [V.str "lasting",V.ref pto]) hp12;have t1012:=t11.trans t12;have s812:=s810.trans t1012;have hal:AlU K (upd (upd H10 p11 (.tup [V.str "lasting",V.ref dF])) p12 (.tup [V.str "lasting",V.ref pto])) (.ref p11) (.ref p12):=⟨p11,p12,_,_,rfl,rfl,SqT.of (t12 _ _ Á),SqT.of Á,.cons (yW3 (repS (by decide +kernel)) (repS (by decide +kernel)) (by simp[PyData.depth]) 3) (.cons (xR7 (t1012 _ _ hdF) (s812 _ _ ho8) (rF'.same fun _ _ g=>g.same t1012) (ro8.same fun _ _ g=>g.same s812) 2) .nil)⟩;refine⟨hal,_,rfl,?_⟩;refine iteF ?_;have hF12:=t1012 _ _ hF;have hq12:=t1012 _ _ hqF;have fF12:=fF.same t1012;generalize upd (upd H10 p11 (.tup [V.str "lasting",V.ref dF])) p12 (.tup [V.str "lasting",V.ref pto])=H12 at *;have hah12:=s812 _ _ hah8;have hP12:=à hP8 s812;have hws12:=s812 _ _ hws;have hW12:=õ hW s812;have ho12:=s812 _ _ ho8;have ro12:=ro8.same fun _ _ g=>g.same s812;refine stpS eX fun nX eX=>?_;refine⟨_,rfl,_,rfl,ph,pS,xs,ps,ws,ss,rfl,SqL.of hah12,hP12,hok,SqL.of hws12,hW12,hOs,by lia,fun pr H13 rows ad hpr s13 hr13 TB0=>?_⟩;have hRw:=RwsV.of hok (show (ckN ps).length<=5 by lia) hr13 TB0;have CR:=hRw.2.2.2.2.2;have nC:=hRw.2.2.2.1;have hCL:∀x∈nms rows,x∈allN ps:=fun x hx=>Ó ((CR x).mp hx);have lrw:(nms rows).length<=5:=hRw.2.2.2.2.1;have ho13:=s13 _ _ ho12;have ro13:=ro12.same fun _ _ g=>g.same s13;have mo:∀z,z∈nms ko↔z∈ckN ps:=fun z=>(ro13.iff z).trans all_some;have no:(nms ko).Nodup:=â ro13.nodup ro13.keys;have lo5:(nms ko).length<=5:=Č (Ö no fun z hz=>(mo z).mp hz) (by lia);refine stpS eX fun nX eX=>?_;refine⟨_,rfl,pr,rows,nms rows,rfl,hr13,zK6 (fun kv h=>(let ⟨z,e,_⟩:=TB0.keys kv h;⟨z,e⟩)),by lia,fun z1 pm1 st1' l1 hl1=>?_⟩;have u1:=Same.upd (o:=.lst (z1.map V.str)) hl1;refine⟨_,rfl,pto,ko,nms ko,rfl,u1 _ _ ho13,zK6 ro13.keys,by lia,fun z2 pm2 st2' l2 hl2=>?_⟩;have u2:=Same.upd (o:=.lst (z2.map V.str)) hl2;have e12:z1=z2:=yA5 (pm1.trans (((List.perm_ext_iff_of_nodup nC no).mpr fun z=>(CR z).trans (mo z).symm).trans pm2.symm)) st1' st2';have lay1:∀z∈z1,Lay z:=fun z hz=>hok.lay z (hCL z (pm1.mem_iff.mp hz));have rz1:=yG1 (K:=K) (u2 _ _ (Á (H:=H13) (a:=l1) (o:=.lst (z1.map V.str)))) lay1;refine⟨_,_,rz1,yG1 Á (by rw[<- e12];exact lay1),yJ5 _,_,rfl,?_⟩;rw[<- e12,PySem.SeqAt.eqv_refl _ rz1.lay];refine iteF ?_;have u12:=u1.trans u2;rw[e12]at u12;rw[e12];generalize upd (upd H13 l1 (.lst (z2.map V.str))) l2 (.lst (z2.map V.str))=H14 at *;have s1214:=s13.trans u12;have hR14:=hRw.same u12;have est:=zL1 (R:=back ss) nC hok.ck CR;refine⟨_,rfl,_,rfl,pF,_,_,_,rfl,rfl,SqT.of (s1214 _ _ hF12),rfl,pr,qF,H12,rows,ad,ps,ss,nms rows,Ð ss,kF,f,r,rfl,hR14,hCL,G,D0,D100,s1214 _ _ hq12,fF12.same s1214,k1,by lia,fun x hx=>by rw[est];exact st1 x ((CR x).mp hx),?_,r1,fun j hj=>?_,fun H15 s15=>⟨_,rfl,?_⟩⟩
  ·obtain⟨x,hx,e⟩:=st2;exact⟨x,(CR x).mpr hx,by rw[est];exact e⟩
  ·obtain⟨x,hx,e⟩:=st3 j hj;exact⟨x,(CR x).mpr hx,by rw[est];exact e⟩
  refine iteF ?_;have s1215:=s1214.trans s15;have s815:=s812.trans s1215;have s015:Same H H15:=s03.trans (s4.trans (s48.trans s815));have hR15:=hR14.same s15;have hV15:HsV K H15 ph pS xs ps ws ss:=⟨s815 _ _ hah8,à hP8 s815,hok,by lia,s815 _ _ hws,õ hW s815,hO,by lia⟩;have ho15:=s1215 _ _ ho12;have roC:RowAt H15 ko (all (nms rows) (full ps)):=by
   rw[zG9 CR];exact ro12.same fun _ _ g=>g.same s1215
  have npo:pto≠pr:=(Æ ho12 hpr);have nad:∀x∈nms rows,ad x≠pto:=fun x hx e=>by
   obtain⟨_,h0,_⟩:=TB0.row x ((CR x).mp hx);rw[e,ho12]at h0;cases h0
  have cX:∀z∈nms rows,Cd 2 (2^10) (full ps z) /\ full ps z≠0:=fun z hz=>by
   obtain⟨rz,hrz⟩:=zF7 ((CR z).mp hz);rw[Ο hrz];have R:=rm z rz (Ŷ hrz).2;refine⟨(Cd.of R.2).mono (by decide),fun e=>?_⟩;have:=R.1;rw[e]at this;exact absurd this (by decide)
  refine stpS eX fun nX eX=>?_;refine⟨_,rfl,_,rfl,_,rfl,_,rfl,_,rfl,a,ns,7,rfl,s015.seq hS,by decide,fun c7=>⟨_,_,rfl,rfl,(show (5:Int)≠0 by decide),?_⟩⟩;have q5:=ù (c:=c7) (m:=5) (by decide);obtain⟨n5,e5⟩:=Ğ q5.1;refine⟨ph,pS,pr,pto,xs,ps,ws,ss,H12,rows,ko,ad,nms rows,full ps,n5,?_,hV15,hR15,ho15,roC,npo,nad,hlk,eF,fun z hz=>(cX z hz).1,by lia,fun H16 s16=>⟨_,rfl,?_⟩⟩
  ·show [V.ref ph,V.ref pS,V.ref pr,V.ref pto,V.int (c7.fmod 5)]=_;rw[e5]
  refine iteF ?_;have s1216:=s1215.trans s16;subst eX;refine⟨_,rfl,_,rfl,_,rfl,_,rfl,ph,pS,pr,pto,xs,ps,ws,ss,H12,rows,ko,ad,nms rows,full ps,rfl,?_,hR15.same s16,s16 _ _ ho15,roC.same (fun _ _ g=>g.same s16),npo,nad,hlk,eF,cX,fun H17 _=>k H17⟩;have s816:=s815.trans s16;exact⟨s816 _ _ hah8,à hP8 s816,hok,by lia,s816 _ _ hws,õ hW s816,hO,by lia⟩
end
end T64
namespace T64
open PySem L2 Tc
theorem all_mk {l:PySem.W.OpenLaw}{w:World}{K:Ă}{h:Heap}{mg:Str->Option Value}{fa:Addr}(X:K.In h)(G:h.Ns mainGlobals mg)(hfa:mg "law" = some (.ref fa))
  {k_NoNumber:Addr}
  {f48:Addr}{oc48 kV48 dc48 pm48 cd48 ct48:Value}{od48 an48:Option Addr}{sl48:Array (Option Value)}
  (D_common_divisor:DefAt K mg "common_divisor" zA6)
  (D_plus:DefAt K mg "plus" yO2)
  (D_minus:DefAt K mg "minus" yA9)
  (D_times:DefAt K mg "times" yA7)
  (D_over:DefAt K mg "over" yO3)
  (D_under:DefAt K mg "under" yA6)
  (D_sum_of:DefAt K mg "sum_of" zQ6)
  (D_less_times:DefAt K mg "less_times" zC9)
  (D_pivoted:DefAt K mg "pivoted" zL8)
  (D_solved:DefAt K mg "solved" zQ7)
  (D_unmoved:DefAt K mg "unmoved" zL6)
  (D_add_shares:DefAt K mg "add_shares" zD2)
  (D_passed:DefAt K mg "passed" zQ8)
  (D_table:DefAt K mg "table" yA8)
  (D_brought:DefAt K mg "brought" zL9)
  (D_names_of:DefAt K mg "names_of" zH6)
  (D_casks_of:DefAt K mg "casks_of" zH8)
  (D_only:DefAt K mg "only" yO4)
  (D_casks_table:DefAt K mg "casks_table" zC2)
  (D_brought_totals:DefAt K mg "brought_totals" zA7)
  (D_led:DefAt K mg "led" xF7)
  (D_left_alike:DefAt K mg "left_alike" zD0)
  (D_closed_casks:DefAt K mg "closed_casks" zB4)
  (D_nearness:DefAt K mg "nearness" zH5)
  (D_long_run:DefAt K mg "long_run" zH7)
  (D_by_age:DefAt K mg "by_age" zQ9)
  (D_mean_ages:DefAt K mg "mean_ages" zE5)
  (D_rooms_of:DefAt K mg "rooms_of" zH4)
  (D_check_room:DefAt K mg "check_room" zD1)
  (D_share_of:DefAt K mg "share_of" zH3)
  (D_step_of:DefAt K mg "step_of" zL7)
  (D_add_step:DefAt K mg "add_step" zH9)
  (D_steps_of:DefAt K mg "steps_of" zH2)
  (D__law_cell_at:DefAt K mg "_law_cell_at" zB6)
  (D__law_mixed:DefAt K mg "_law_mixed" zD7)
  (D__law_divisor:DefAt K mg "_law_divisor" zB5)
  (D__law_lowest:DefAt K mg "_law_lowest" zC3)
  (D__law_plus:DefAt K mg "_law_plus" zE6)
  (D__law_times:DefAt K mg "_law_times" zD4)
  (D__law_under:DefAt K mg "_law_under" zD3)
  (D__law_names:DefAt K mg "_law_names" zD6)
  (D__law_house:DefAt K mg "_law_house" zD8)
  (D__law_round:DefAt K mg "_law_round" zD5)
  (D__law_led:DefAt K mg "_law_led" zI0)
  (D__law_left:DefAt K mg "_law_left" zE7)
  (D__law_bound_right:DefAt K mg "_law_bound_right" zA3)
  (D__law_ages_right:DefAt K mg "_law_ages_right" zA4)
  (D__law_means_right:DefAt K mg "_law_means_right" zA2)
  (a48:Ĺ K mainGlobals "law" = some (some (.ref f48)))(l48:K.lookup f48=some ⟨oc48,od48,.func (ő "law" "law" (Ρ τ) (Ζ τ) (Ç τ) .none kV48 dc48 pm48 an48 cd48 ct48),sl48⟩)(c48:PySem.W.codeIn K cd48 "law" = true)(k48:PySem.W.keepIn K (.ref f48)=true)
  (z_abs:Ĺ K mainGlobals "abs" = some none)
  (z_any:Ĺ K mainGlobals "any" = some none)
  (z_dict:Ĺ K mainGlobals "dict" = some none)
  (z_enumerate:Ĺ K mainGlobals "enumerate" = some none)
  (z_int:Ĺ K mainGlobals "int" = some none)
  (z_isinstance:Ĺ K mainGlobals "isinstance" = some none)
  (z_len:Ĺ K mainGlobals "len" = some none)
  (z_list:Ĺ K mainGlobals "list" = some none)
  (z_range:Ĺ K mainGlobals "range" = some none)
  (z_reversed:Ĺ K mainGlobals "reversed" = some none)
  (z_sorted:Ĺ K mainGlobals "sorted" = some none)
  (z_tuple:Ĺ K mainGlobals "tuple" = some none)
  (z_zip:Ĺ K mainGlobals "zip" = some none)
  (y_NoNumber:Ĺ K mainGlobals "NoNumber" = some (some (.ref k_NoNumber)))
  (e_NoNumber:PySem.W.excIn K k_NoNumber [.type "ValueError",.type "Exception",.type "BaseException",.type "object"] "ValueError.__new__" = true)
  (x_NoNumber:ExcK K k_NoNumber)
  (i_NoNumber_NoNumber:PySem.W.kitOne K (.ref k_NoNumber) (.ref k_NoNumber)=some true)
  (m_NoNumber_NoNumber:PySem.W.exmOne K (.ref k_NoNumber) (.ref k_NoNumber)=some true)
 :∃fd:FuncData,(∀(s:Shared) (v:Value),BindsTo s fd ⟨[v],[]⟩ [("_law_script",v)]) /\ ∀base:Heap,K.In base->base.Ns mainGlobals mg->FnOk l.prog w K mg base CX0 10 fa fd ["_law_script"] (spLaw K):=by
 have T:Txt K mg (⟨k_NoNumber⟩:Ca):=⟨Ĭ X G z_abs,Ĭ X G z_any,Ĭ X G z_dict,Ĭ X G z_enumerate,Ĭ X G z_int,Ĭ X G z_isinstance,Ĭ X G z_len,Ĭ X G z_list,Ĭ X G z_range,Ĭ X G z_reversed,Ĭ X G z_sorted,Ĭ X G z_tuple,Ĭ X G z_zip,PySem.W.mg_of X G y_NoNumber,e_NoNumber,x_NoNumber,i_NoNumber_NoNumber,m_NoNumber_NoNumber⟩;have e:=hfa.symm.trans (PySem.W.mg_of X G a48);cases e;refine⟨ő "law" "law" (Ρ τ) (Ζ τ) (Ç τ) .none kV48 dc48 pm48 an48 cd48 ct48,fun s v=>.of_eq rfl,fun base _ _=>?_⟩;have G_common_divisor:=zI4 (P:=l.prog) (w:=w) (base:=base) D_common_divisor T;have G_plus:=xH5 (P:=l.prog) (w:=w) (base:=base) D_plus T G_common_divisor;have G_minus:=yZ0 (P:=l.prog) (w:=w) (base:=base) D_minus T G_plus;have G_times:=yY8 (P:=l.prog) (w:=w) (base:=base) D_times T G_common_divisor;have G_over:=xH6 (P:=l.prog) (w:=w) (base:=base) D_over T G_times;have G_under:=yY7 (P:=l.prog) (w:=w) (base:=base) D_under T;have G_sum_of:=yR2 (P:=l.prog) (w:=w) (base:=base) D_sum_of T G_plus;have G_less_times:=zR3 (P:=l.prog) (w:=w) (base:=base) D_less_times T G_minus G_times;have G_pivoted:=yK6 (P:=l.prog) (w:=w) (base:=base) D_pivoted T G_over G_less_times;have G_solved:=yR3 (P:=l.prog) (w:=w) (base:=base) D_solved T G_pivoted;have G_unmoved:=yK4 (P:=l.prog) (w:=w) (base:=base) D_unmoved T;have G_add_shares:=zR6 (P:=l.prog) (w:=w) (base:=base) D_add_shares T G_plus G_times;have G_passed:=yR4 (P:=l.prog) (w:=w) (base:=base) D_passed T G_add_shares G_minus;have G_table:=yY9 (P:=l.prog) (w:=w) (base:=base) D_table T G_unmoved G_passed;have G_brought:=yK7 (P:=l.prog) (w:=w) (base:=base) D_brought T G_unmoved G_passed;have G_names_of:=yB8 (P:=l.prog) (w:=w) (base:=base) D_names_of T;have G_casks_of:=yC0 (P:=l.prog) (w:=w) (base:=base) D_casks_of T;have G_only:=xH7 (P:=l.prog) (w:=w) (base:=base) D_only T;have G_casks_table:=zO3 (P:=l.prog) (w:=w) (base:=base) D_casks_table T G_casks_of G_table G_names_of G_only;have G_brought_totals:=zI5 (P:=l.prog) (w:=w) (base:=base) D_brought_totals T G_casks_of G_brought G_names_of G_only G_plus G_times;have G_led:=xN6 (P:=l.prog) (w:=w) (base:=base) D_led T G_plus G_times;have G_left_alike:=zR4 (P:=l.prog) (w:=w) (base:=base) D_left_alike T G_minus G_solved;have G_closed_casks:=zM6 (P:=l.prog) (w:=w) (base:=base) D_closed_casks T G_sum_of;have G_nearness:=yB7 (P:=l.prog) (w:=w) (base:=base) D_nearness T G_sum_of G_times G_under;have G_long_run:=yB9 (P:=l.prog) (w:=w) (base:=base) D_long_run T G_casks_table G_closed_casks G_nearness G_left_alike G_brought_totals;have G_by_age:=yR5 (P:=l.prog) (w:=w) (base:=base) D_by_age T G_casks_table G_closed_casks G_brought_totals G_led;have G_mean_ages:=zX0 (P:=l.prog) (w:=w) (base:=base) D_mean_ages T G_casks_table G_closed_casks G_left_alike G_brought_totals G_led G_over;have G_rooms_of:=yB6 (P:=l.prog) (w:=w) (base:=base) D_rooms_of T;have G_check_room:=zR5 (P:=l.prog) (w:=w) (base:=base) D_check_room T G_under G_plus;have G_share_of:=yB5 (P:=l.prog) (w:=w) (base:=base) D_share_of T G_minus G_under G_over;have G_step_of:=yK5 (P:=l.prog) (w:=w) (base:=base) D_step_of T G_check_room G_share_of G_times;have G_add_step:=yC1 (P:=l.prog) (w:=w) (base:=base) D_add_step T G_plus G_times G_minus;have G_steps_of:=yB4 (P:=l.prog) (w:=w) (base:=base) D_steps_of T G_rooms_of G_step_of G_add_step;have G__law_cell_at:=zM8 (P:=l.prog) (w:=w) (base:=base) D__law_cell_at T;have G__law_mixed:=zS1 (P:=l.prog) (w:=w) (base:=base) D__law_mixed T;have G__law_divisor:=zM7 (P:=l.prog) (w:=w) (base:=base) D__law_divisor T;have G__law_lowest:=zO4 (P:=l.prog) (w:=w) (base:=base) D__law_lowest T G__law_divisor;have G__law_plus:=zX1 (P:=l.prog) (w:=w) (base:=base) D__law_plus T G__law_lowest;have G__law_times:=zR8 (P:=l.prog) (w:=w) (base:=base) D__law_times T G__law_lowest;have G__law_under:=zR7 (P:=l.prog) (w:=w) (base:=base) D__law_under T;have G__law_names:=zS0 (P:=l.prog) (w:=w) (base:=base) D__law_names T;have G__law_house:=zS2 (P:=l.prog) (w:=w) (base:=base) D__law_house T G__law_lowest G__law_mixed;have G__law_round:=zR9 (P:=l.prog) (w:=w) (base:=base) D__law_round T G__law_under G__law_times G__law_mixed G__law_lowest;have G__law_led:=yC2 (P:=l.prog) (w:=w) (base:=base) D__law_led T G__law_plus G__law_times;have G__law_left:=zX2 (P:=l.prog) (w:=w) (base:=base) D__law_left T G__law_led G__law_plus;have G__law_bound_right:=zF0 (P:=l.prog) (w:=w) (base:=base) D__law_bound_right T G__law_left G__law_under;have G__law_ages_right:=zG0 (P:=l.prog) (w:=w) (base:=base) D__law_ages_right T G_by_age G__law_led G__law_plus;have G__law_means_right:=zE9 (P:=l.prog) (w:=w) (base:=base) D__law_means_right T G_mean_ages G__law_plus G__law_times G__law_led;exact xN7 (xD7 (st:=τ) l48 c48 k48) T G__law_names G__law_cell_at G__law_house G__law_round G_steps_of G_long_run G_casks_table G__law_bound_right G__law_ages_right G__law_means_right
end T64
namespace PySem.W.Fast
def tw3306711727400136281:=0
def tw15083044809106816814:=0
def tw15971105845980249043:=0
def tw11322878201289000293:=0
def tw8604290250401556858:=0
def tw5877238072984840698:=0
def tw3744921848562545243:=0
def tw4383608160845615821:=0
def tw7837329922594838811:=0
def tw11058718749009316332:=0
def tw11149593759032018816:=0
def tw1033548481233457598:=0
def tw17735968928896973893:=0
def tw17549713874178642454:=0
def tw3377063327396322483:=0
def tw11412396623350402894:=0
def tw16562405157894564494:=0
def tw3839434769701633150:=0
def tw9723102516833012526:=0
def tw11799333343115276958:=0
def tw15564203059544529531:=0
def tw13648390732771960027:=0
def tw7290296941843944234:=0
def tw8134495612930857474:=0
def tw12503388356537527951:=0
def tw11536463857914213049:=0
def tw7690077165787256040:=0
def tw16559235020918206818:=0
def tw12188521943252350931:=0
def tw2288739647828321058:=0
def tw9971774878642765929:=0
def tw14978452519550826938:=0
def tw6737955634750598333:=0
def tw3518933021644304514:=0
def tw7052880934597998698:=0
def tw4507224958786454933:=0
def tw17497085487824641588:=0
def tw5613048899610200428:=0
def tw6522122200815018900:=0
def tw10277207354330421792:=0
def tw6379580899450157772:=0
def tw1109515937496754303:=0
def tw17553752035391889206:=0
def tw14662293480892694901:=0
def tw12222746107583851567:=0
def tw15317739454900091724:=0
def tw3351392947742911692:=0
def tw16162876315328542580:=0
def tw14989481520199432728:=0
def tw10319151141141832930:=0
def tw10997152089573307971:=0
def tw9542284296428686216:=0
def tw5854418974107001571:=0
def tw3580493589515443893:=0
def tw13520100933834010948:=0
def tw8020313120658238644:=0
def tw9514734405732370461:=0
def tw1722235477796354335:=0
def tw6671740337202975892:=0
def tw13504700362642980355:=0
def tw11942416413367716719:=0
def tw15374950444813773796:=0
def tw11957080988710016893:=0
def tw7923541953074717717:=0
def tw2715550929122472867:=0
def tw1903230147494327100:=0
def tw13491029157970832622:=0
def tw16218559953653036767:=0
def tw9722000232838478351:=0
def tw3715154767309029460:=0
def tw16255475780304196376:=0
def tw15942029773314733027:=0
def tw10840778783705148897:=0
def tw14773484826492488975:=0
def tw12320251424280924014:=0
def tw12192394676636087548:=0
def tw498493155998765035:=0
def tw17497975606716181219:=0
def tw8697271753220427332:=0
def tw10733015002763956679:=0
def tw16072897339501484810:=0
def tw12331637470973395506:=0
def tw1835864135204229477:=0
def tw10607872730850373301:=0
def tw3013847719415856943:=0
def tw6223736095253412539:=0
def tw9170691472744439184:=0
def tw8064537333216670517:=0
def tw5419675176317996455:=0
def tw5617840404347415800:=0
def tw11904467185103955445:=0
def tw10128415293893684875:=0
def tw14102343002100985354:=0
def tw10982763295917775555:=0
def tw14525644234967454533:=0
def tw6058456802283568433:=0
def tw4205285612856269847:=0
def tw8601779472738307784:=0
def tw15276475189038701613:=0
def tw14945999474583853517:=0
def tw8634511938137367785:=0
def tw993360211988255655:=0
def tw16267777213886880958:=0
def tw840861781850498360:=0
def tw13136371163977064093:=0
def tw9359783743396052730:=0
def tw10546658732993401643:=0
def tw5758013880080436720:=0
def tw8662203778237973652:=0
def tw3274719453307093585:=0
def tw6799100418499867689:=0
def tw4496876825648540882:=0
def tw15917782648271780284:=0
def tw8246260733488655753:=0
def tw16140188776650318313:=0
def tw15884706700894070390:=0
def tw17408177211678686385:=0
def tw14386019645771036282:=0
def tw8544971596777644229:=0
def tw16456259680355665171:=0
def tw9165550932634665282:=0
def tw14016290773240118222:=0
def tw4224518019623198419:=0
def tw11891955455806869803:=0
def tw18354951359923965706:=0
def tw8723746847041118381:=0
def tw12424476569794267977:=0
def tw16217586545294582831:=0
def tw10420178882648922258:=0
def tw12419368430145468694:=0
def tw12935446143781528732:=0
def tw16660546017409967577:=0
def tw9628686573262726238:=0
def tw6688095967761105285:=0
def tw17971775071561666478:=0
def tw301303810188579159:=0
def tw8906394877675981995:=0
def tw15970807481962489178:=0
def tw16540391263388660683:=0
def tw14400039650255437019:=0
def tw9572913394535099592:=0
def tw1763835929403566616:=0
def tw7710150778389306108:=0
def tw10996233541060169992:=0
def tw3173773510698281397:=0
def tw224803497156726475:=0
def tw8004951752881141312:=0
def tw6796360163631705932:=0
def tw17726136883969755293:=0
def tw7482366294423419783:=0
def tw17887908878521276447:=0
def tw13649556988220510202:=0
def tw10598254682318741363:=0
def tw4181168044037032197:=0
def tw779710542595232623:=0
def tw17154116858941111275:=0
def tw1105994420642990578:=0
def tw2771017051531782594:=0
def tw203975716489336624:=0
def tw130777355562404062:=0
def tw17501892213641325969:=0
def tw11942674407366783232:=0
def tw13444218936078847932:=0
def tw13089226649503641372:=0
def tw14976798117834157091:=0
def tw10792805191354411468:=0
def tw9243974614341621160:=0
def tw16477505468769211607:=0
def tw6943904763639673450:=0
def tw16901359573299991821:=0
def tw13959017891698838299:=0
def tw531875467610477964:=0
def tw3020532354073200146:=0
def tw10105070887298247107:=0
def tw13071005133797232035:=0
def tw15410686512235845972:=0
def tw9331850016617472833:=0
def tw11272971943207203186:=0
def tw7601356288529257205:=0
def tw17268358921652447935:=0
def tw17765280699925817283:=0
def tw11777788450863837237:=0
def tw13546913388860194223:=0
def tw109118930091501595:=0
def tw12457192961946389612:=0
def tw12650428209814453771:=0
def tw17492258799382814606:=0
def tw16573207122378929566:=0
def tw5974543373538137256:=0
def tw7708845677209692199:=0
def tw14893957772278886449:=0
def tw6058607871652572082:=0
def tw10514151715421651800:=0
def tw12835691941986847566:=0
def tw808885655960618125:=0
def tw14045976790485290889:=0
def tw10873449191206142484:=0
def tw10437175470587563232:=0
def tw7230218737394833784:=0
def tw6135112863551049373:=0
def tw10621423541425854338:=0
def tw932330040500030306:=0
def tw16599399114242123740:=0
def tw13202092257667331798:=0
def tw11498813841167230229:=0
def tw13600430952170369071:=0
def tw16676497287019767750:=0
def tw7097906993464776744:=0
def tw11817453923189593874:=0
def tw5149902208713357374:=0
def tw16811803555138000837:=0
def tw2529795626690668222:=0
def tw5542688924133647388:=0
def tw810738920977038010:=0
def tw17185861782704223773:=0
def tw1768591313773464529:=0
def tw14246534729880623436:=0
def tw13395718786398193617:=0
def tw6760153670372809185:=0
def tw7055907230190129659:=0
def tw1690705352399693809:=0
def tw16846313630661259509:=0
def tw14079705105235921475:=0
def tw16790871965356193078:=0
def tw15830689867232913223:=0
def tw2582731577534214331:=0
def tw5624665876483430406:=0
def tw3309610950826662320:=0
def tw6687282696152833862:=0
def tw4826944130864673918:=0
def tw2933998957358041201:=0
def tw18267156757417970278:=0
def tw8846636373355289808:=0
def tw485956417882300784:=0
def tw140614302728552881:=0
def tw9539243109179499798:=0
def tw9984102536361001975:=0
def tw5829264274099098973:=0
def tw16758071539536905935:=0
def tw1574040536462318378:=0
def tw9307705658177286252:=0
def tw12186625719442809947:=0
def tw13800719072384996850:=0
def tw15063578419059719811:=0
def tw13461192726669628011:=0
def tw7980124880631744622:=0
def tw1436995432406198320:=0
def tw13637358569505317068:=0
def tw6795289271419904933:=0
def tw1813619768093158106:=0
def tw10429566652933469122:=0
def tw14741218099372175662:=0
def tw4687410406085677400:=0
def tw15517517090027343268:=0
def tw4178661408458310038:=0
def tw16006389573653913751:=0
def tw1221248544908356280:=0
def tw12998610812669493877:=0
def tw16724470421771789555:=0
def tw15320774188642796800:=0
def tw3084792601407247320:=0
def tw15922004180321819310:=0
def tw2965659541216721595:=0
def tw16829615169337007348:=0
def tw4475839977357127439:=0
def tw13812614030916763446:=0
def tw4229120021483584378:=0
def tw511643456962472892:=0
def tw15974873931726831525:=0
def tw17474415121719730380:=0
def tw3425018578814053118:=0
def tw10277635334906523648:=0
def tw6193825058172259363:=0
def tw14894704841606562203:=0
def tw935655117340266763:=0
def tw15683982589578177005:=0
def tw10714940266593853113:=0
def tw6505286948647500646:=0
def tw12675505137069353044:=0
def tw16681159593279202171:=0
def tw14833486542088867246:=0
def tw9846153734341788925:=0
def tw7174495923803720897:=0
def tw9912426211725812656:=0
def tw9464434920365049434:=0
def tw9876059345868605784:=0
def tw13802431302193897337:=0
def tw11717020832863542665:=0
def tw11774716783420233142:=0
def tw3175119373374855733:=0
def tw17652311427930908899:=0
def tw15950248628034327130:=0
def tw13809194084776023750:=0
def tw11037595900469839343:=0
def tw2772031891667271050:=0
def tw13083099651222276292:=0
def tw103821293143814128:=0
def tw8804895273274687470:=0
def tw6823254687855167662:=0
def tw1474426635571683004:=0
def tw11498915114934352267:=0
def tw8416109176678156814:=0
def tw12305828722348380064:=0
def tw8883890630362858618:=0
def tw4188744819884074608:=0
def tw15867672480852246957:=0
def tw12955546647380336955:=0
def tw11458010014274143667:=0
def tw7782939049704056481:=0
def tw18285818807246905903:=0
def tw7679174092895252792:=0
def tw11382440057746590197:=0
def tw17511280403717252405:=0
def tw17237094595756401587:=0
def tw9195901894488863099:=0
def tw18163522715129080921:=0
def tw5593444155366068062:=0
def tw15816356460633717931:=0
def tw10761493458441140249:=0
def tw5920158809704796367:=0
def tw7825431010100049833:=0
def tw10136960276691635721:=0
def tw16830134455322752656:=0
def tw716420910832619146:=0
def tw3269831959555613730:=0
def tw14354316905019878095:=0
def tw3570404183942510576:=0
def tw18162273433755150282:=0
def tw5910067207881363045:=0
def tw16071964399839393652:=0
def tw13504784577235217075:=0
def tw11238120771671649347:=0
def tw18272490134811196150:=0
def tw11746229144283179527:=0
def tw4927196912790037200:=0
def tw15652974263867801253:=0
def tw3259332598711120737:=0
def tw3325807976194210997:=0
def tw8423025887532271270:=0
def tw3080312855830116456:=0
def tw15537385653114649818:=0
def tw17960392495332187685:=0
def tw5171062983700740477:=0
def tw11366202747162894947:=0
def tw7307984295443297554:=0
def tw12862687245460522793:=0
def tw12591788406415291978:=0
def tw16423173928372683160:=0
def tw15852154383102111466:=0
def tw4135076672236742199:=0
def tw13389372368506670819:=0
def tw787395367342515048:=0
def tw6049747223632297427:=0
def tw1375541433909710737:=0
def tw4777810946996370207:=0
def tw4744686682762786640:=0
def tw12926255282441802001:=0
def tw15178561814254222154:=0
def tw937277091857560465:=0
def tw1444726761165195446:=0
def tw9194980042003664049:=0
def tw18260224486809013114:=0
def tw10201653836631411824:=0
def tw2965682104858914384:=0
def tw9280880487114962610:=0
def tw18409505400728307445:=0
def tw6501173197167639826:=0
def tw16865119295496163843:=0
def tw428316909367242613:=0
def tw5336238799366749969:=0
def tw13251289495190150659:=0
def tw13963290088217403201:=0
def tw9947996384478129680:=0
end PySem.W.Fast
open PySem PySem.W PyProof.Rows
set_option maxRecDepth 100000 in
set_option maxHeartbeats 0 in
theorem PySem.Challenge.cw_tiercask_k64_whole_steady_in_the_long_ru_holds : PySem.Challenge.rw_tiercask_k64_whole_steady_in_the_long_ru.Holds := by
 w_on;o_law;k_head;(case hw=>w_witness2)
 k_fill
 refine L2.walk_ofK (l:=PySem.Challenge.rw_tiercask_k64_whole_steady_in_the_long_ru) (n:=63) (k:=10) (x:="_law_script") (CX:=L2.CX0) (sp:=Tc.spLaw) rfl (by decide) rfl ⟨rfl,by decide,by decide⟩ (fun w h Y=>PySem.W.kIn_of Y) ?F ?S ?C
 case F =>
  intro w mg fa h KX G hmg
  refine' T64.all_mk KX G hmg ?_ ?_ ?_ ?_ ?_ ?_ ?_ ?_ ?_ ?_ ?_ ?_ ?_ ?_ ?_ ?_ ?_ ?_ ?_ ?_ ?_ ?_ ?_ ?_ ?_ ?_ ?_ ?_ ?_ ?_ ?_ ?_ ?_ ?_ ?_ ?_ ?_ ?_ ?_ ?_ ?_ ?_ ?_ ?_ ?_ ?_ ?_ ?_ ?a48 ?l48 ?c48 ?k48 ?z_abs ?z_any ?z_dict ?z_enumerate ?z_int ?z_isinstance ?z_len ?z_list ?z_range ?z_reversed ?z_sorted ?z_tuple ?z_zip ?y_NoNumber ?e_NoNumber ?x_NoNumber ?i_NoNumber_NoNumber ?m_NoNumber_NoNumber
  all_goals (try (refine' L2.DefAt.mk' KX G ?a ?l ?c ?k;(case a=>k_is);(case l=>k_is);(case c=>k_is);(case k=>k_is)))
  (case a48=>k_is);(case l48=>k_is);(case c48=>k_is);(case k48=>k_is);(case z_abs=>k_is);(case z_any=>k_is);(case z_dict=>k_is);(case z_enumerate=>k_is)
  (case z_int=>k_is);(case z_isinstance=>k_is);(case z_len=>k_is);(case z_list=>k_is);(case z_range=>k_is);(case z_reversed=>k_is);(case z_sorted=>k_is);(case z_tuple=>k_is)
  (case z_zip=>k_is);(case y_NoNumber=>k_is)
  (case e_NoNumber=>k_exc)
  (case x_NoNumber=>refine⟨?_,?_,?_,?_,?_⟩<;>k_is)
  (case i_NoNumber_NoNumber=>kit_is)
  (case m_NoNumber_NoNumber=>kts_exm)
 case S=>exact fun K H a ns hl hO hS=>⟨a,ns,rfl,hS,hl,fun _=>rfl⟩
 case C=>exact fun H s e s' z=>z

import PyProof.Rows.All
import Wide.All
import OpenK.AllK
import Wide.FinOn
import Lean
import PyProof.EqAt
import PyProof.EqKinds
import PyProof.TupleCall
import PySem.Challenge.RW_tiercask_k43_papers_let_by
set_option Elab.async false
set_option linter.all false
set_option maxRecDepth 100000
set_option genSizeOf false
set_option maxHeartbeats 4000000
set_option exponentiation.threshold 100000
open PySem.W renaming Frag → Ā, mg_none_of → ģ, nsIn → ĭ, kia_one → Ņ, fnOf → Ś
open List renaming getElem?_eq_getElem → ā, getElem?_eq_some_iff → Ą, length_map → ą, mem_cons_of_mem → ć, mem_cons_self → Ĉ, getElem?_map → č, replicate → ď, range → Đ, mem_of_getElem? → đ, length_range → ē, length_append → Ĕ, mem_cons → Ė, map_append → ė, size_toArray → ĝ, mem_range → ğ, getElem?_eq_none → Ġ, getElem?_range → Ģ, length_take → Ĥ, getElem_mem → ĥ, length_cons → ī, mem_append_right → Į, map_cons → ľ, mem_map → ŀ, take_add_one → Ŋ, flatten_replicate_singleton → ŋ, nodup_cons → ō, take_length → ŏ, not_mem_nil → Ő, mem_singleton → ő, range_succ → Ř, mem_append → ř, replicate_succ → ŝ, getElem?_append_right → ş, map_take → Ţ, lookup_cons → ţ, getElem?_append_left → Ũ, take_range → ũ, mem_filterMap → ū
open Nat renaming lt_of_lt_of_le → Ă, lt_of_le_of_lt → ă, le_refl → Ć, le_trans → ĉ, le_of_lt_succ → ĕ, lt_or_eq_of_le → Ę, mul_le_mul → Ě, le_of_lt → Ĩ, mul_le_mul_right → Ĭ, ne_of_lt → Ķ, lt_succ_self → ķ, lt_irrefl → ĸ, lt_succ_of_lt → ĺ, pow_lt_pow_right → ļ, pow_add → Ľ, pow_succ → ł, zero_le → Ń, not_lt_zero → ņ, mul_pos → ň, mul_le_mul_left → Ō, two_pow_pos → ś, min_eq_left → Ŝ, le_mul_of_pos_left → Ş, gcd → š, mul_comm → ť, ne_of_gt → ŧ
open Rat renaming divInt → Ċ, intCast_mul → Ē, div_def → ę, intCast_natCast → Ĝ, zero_mul → Ğ, num_divInt_den → ġ, divInt_eq_div → Ħ, mul_nonneg → ĩ, natCast_mul → į, not_lt → ĵ, mul_lt_mul_of_pos_right → Ĺ, num_nonneg → Ļ, mul_zero → Ł, mul_one → Ň, le_refl → Ŏ, mul_le_mul_of_nonneg_right → œ, mul_inv_cancel → Ŕ, mul_comm → ŕ, le_of_lt → Ŗ, divInt_mul_divInt → Š, one_mul → Ť
open PySem.Heap renaming lt_size → ċ, get?_push_of_some → Č, get?_push_size → ě
open Bool renaming false_ne_true → Ď, and_eq_true → Œ, eq_false_iff → ŗ, eq_iff_iff → Ŧ
open Int renaming gcd → ħ, eq_ofNat_of_zero_le → Ī, natAbs_mul → Ĵ, fdiv_eq_ediv_of_nonneg → Ŀ, toNat_natCast → ń, mul_fdiv_cancel_left → Ū
namespace L2
open PySem PySem.Spec PyProof.Rows
noncomputable abbrev Key:=Sum Int Str
noncomputable def yI0:Key->Value->Bool
 | .inl k,v=>Value.isInt k v
 | .inr x,v=>Value.isStrOf x v
noncomputable def keyH (w:World):Key->Int
 | .inl k=>hashInt k
 | .inr x=>hashStr w x
theorem ý:∀{k:Key} {v:Value},yI0 k v=true->(∃i t,k=Sum.inl i /\ v=Value.int i t) \/ (∃x t,k=Sum.inr x /\ v=Value.str x t)
 | .inl i,v,h=>by
  obtain⟨t,e⟩:=Value.isInt_shape (k:=i) (v:=v) h;exact .inl ⟨i,t,rfl,e⟩
 | .inr x,v,h=>by
  obtain⟨t,e⟩:=Value.isStrOf_shape (x:=x) (v:=v) h;exact .inr ⟨x,t,rfl,e⟩
theorem yN4 (i:Int)(t:Tok):yI0 (.inl i) (.int i t)=true:=by simp[yI0,Value.isInt]
theorem yN3 (x:Str)(t:Tok):yI0 (.inr x) (.str x t)=true:=by simp[yI0,Value.isStrOf]
theorem xJ4 (a b:Int):decide ((Sum.inl a:Key)=Sum.inl b)=(a==b):=by
 by_cases e:a=b
 ·subst e;simp
 ·have h:¬(Sum.inl a:Key)=Sum.inl b:=fun q=>e (Sum.inl.inj q);rw[decide_eq_false h];exact(beq_eq_false_iff_ne.mpr e).symm
theorem xJ1 (a b:Str):decide ((Sum.inr a:Key)=Sum.inr b)=decide (a=b):=by
 by_cases e:a=b
 ·subst e;simp
 ·have h:¬(Sum.inr a:Key)=Sum.inr b:=fun q=>e (Sum.inr.inj q);rw[decide_eq_false h,decide_eq_false e]
theorem xJ3 (a:Int)(b:Str):decide ((Sum.inl a:Key)=Sum.inr b)=false:=decide_eq_false (fun q=>nomatch q)
theorem xJ2 (a:Str)(b:Int):decide ((Sum.inr a:Key)=Sum.inl b)=false:=decide_eq_false (fun q=>nomatch q)
noncomputable def Ŷ (prog:Program)(w:World):PySem.KeyKind prog w Key where
 is:=yI0
 hash:=keyH w
 inj:=fun v a b ha hb=>by
  rcases ý ha with⟨i,t,rfl,rfl⟩ | ⟨x,t,rfl,rfl⟩
  ·rcases ý hb with⟨j,u,rfl,e⟩ | ⟨y,u,rfl,e⟩
   ·injection e with e1 _;rw[e1]
   ·exact nomatch e
  ·rcases ý hb with⟨j,u,rfl,e⟩ | ⟨y,u,rfl,e⟩
   ·exact nomatch e
   ·injection e with e1 _;rw[e1]
 byValue:=fun k v h=>by
  rcases ý h with⟨i,t,rfl,rfl⟩ | ⟨x,t,rfl,rfl⟩<;>rfl
 pyHash:=fun hv h=>by
  rcases ý hv with⟨i,t,rfl,rfl⟩ | ⟨x,t,rfl,rfl⟩
  ·exact wpAny_pyHash_int h
  ·exact wpAny_pyHash_str h
 eqBool:=fun hu hv h=>by
  rcases ý hu with⟨i,t,rfl,rfl⟩ | ⟨x,t,rfl,rfl⟩
  ·rcases ý hv with⟨j,u,rfl,rfl⟩ | ⟨y,u,rfl,rfl⟩
   ·rw[xJ4]at h;exact wpAny_eqBool_int h
   ·rw[xJ3]at h;exact SeqAt.EqAt.int_str i t y u _ _ _ _ h
  ·rcases ý hv with⟨j,u,rfl,rfl⟩ | ⟨y,u,rfl,rfl⟩
   ·rw[xJ2]at h;exact SeqAt.EqAt.str_int x t j u _ _ _ _ h
   ·rw[xJ1]at h;exact wpAny_eqBool_str h
 «strs»:=fun k x t v h=>by
  rcases ý h with⟨i,u,rfl,e⟩ | ⟨y,u,rfl,e⟩
  ·exact nomatch e
  ·injection e with e1 _;subst e1;cases v<;>rfl
theorem yB9 (prog:Program)(w:World)(i:Int)(t:Tok):(Ŷ prog w).is (.inl i) (.int i t)=true:=yN4 i t
theorem yB8 (prog:Program)(w:World)(x:Str)(t:Tok):(Ŷ prog w).is (.inr x) (.str x t)=true:=yN3 x t
inductive V where
 | non | bl (b:Bool) | int (i:Int) | str (x:Str) | byt (b:Array UInt8) | flt (b:UInt64) | ref (a:Addr) | ty (n:String)
 deriving DecidableEq
noncomputable def RelV:V->Value->Prop
 | .non,u=>u=Value.none
 | .bl b,u=>u=Value.bool b
 | .int i,u=>∃t,u=Value.int i t
 | .str x,u=>∃t,u=Value.str x t
 | .byt b,u=>∃t,u=Value.bytes b t
 | .flt b,u=>∃t,u=Value.float b t
 | .ref a,u=>u=Value.ref a
 | .ty n,u=>u=Value.type n
noncomputable abbrev Vals:List V->List Value->Prop:=Paired RelV
theorem Vals.length {xs:List V}{us:List Value}(r:Vals xs us):xs.length=us.length:=Paired.length r
theorem Vals.get:∀{xs:List V} {us:List Value} {i:Nat} {x:V},Vals xs us->xs[i]?=some x->∃u,us[i]?=some u /\ RelV x u
 | _,_,_,_,.nil,e=>by simp at e
 | _,_,0,_,.cons r _,e=>by simp at e;subst e;exact⟨_,rfl,r⟩
 | _,_,i+1,x,.cons _ t,e=>by
  obtain⟨u,h1,h2⟩:=Vals.get (i:=i) (x:=x) t (by simpa using e);exact⟨u,by simpa using h1,h2⟩
theorem Vals.set {x:V}{u:Value}(r:RelV x u):∀{xs:List V} {us:List Value} (i:Nat),Vals xs us->Vals (xs.set i x) (us.set i u)
 | _,_,_,.nil=>.nil
 | _,_,0,.cons _ t=>.cons r t
 | _,_,i+1,.cons q t=>.cons q (Vals.set r i t)
theorem Vals.append:∀{xs ys:List V} {us ws:List Value},Vals xs us->Vals ys ws->Vals (xs++ys) (us++ws)
 | _,_,_,_,.nil,s=>s
 | _,_,_,_,.cons r t,s=>.cons r (Vals.append t s)
theorem Vals.take:∀{xs:List V} {us:List Value} (n:Nat),Vals xs us->Vals (xs.take n) (us.take n)
 | _,_,0,_=>.nil
 | _,_,_+1,.nil=>.nil
 | _,_,n+1,.cons r t=>.cons r (Vals.take n t)
theorem Vals.drop:∀{xs:List V} {us:List Value} (n:Nat),Vals xs us->Vals (xs.drop n) (us.drop n)
 | _,_,0,r=>r
 | _,_,_+1,.nil=>.nil
 | _,_,n+1,.cons _ t=>Vals.drop n t
noncomputable def RelO:Option V->Option Value->Prop
 | some v,some u=>RelV v u
 | none,none=>True
 | _,_=>False
noncomputable def KV {κ:Type}:List (κ×V)->List (κ×Value)->Prop:=Paired fun (p:κ×V) (q:κ×Value)=>p.1=q.1 /\ RelV p.2 q.2
noncomputable def kV:Key->V
 | .inl i=>.int i
 | .inr x=>.str x
inductive HO where
 | lst (xs:List V)
 | tup (xs:List V)
 | dK (kvs:List (Key×V)) | dT (kvs:List (List Key×V))
 | set (S:Int->Bool) (n:Nat)
 | ins (C dx:Addr) (fs:List (Str×V))
 | own (x:Addr)
 | xd (fs:List (Str×V))
 | met (f x:Addr)
 | rng (lo hi:Int)
 | frz (o:Obj) (u:HO)
 | tbl (ps:Array Value)
 | ext (φ:Heap->Prop)
noncomputable abbrev Hp:=Addr->Option HO
noncomputable def upd (H:Hp)(a:Addr)(o:HO):Hp:=fun b=>if b=a then some o else H b
theorem Ã {H:Hp}{a:Addr}{o:HO}:upd H a o a=some o:=by unfold upd;rw[if_pos rfl]
theorem upd_ne {H:Hp}{a b:Addr}{o:HO}(h:b≠a):upd H a o b=H b:=by unfold upd;rw[if_neg h]
theorem zU2 {H:Hp}{a b:Addr}{o u:HO}(h:H a=some o)(h':H b=some u)(d:o≠u):a≠b:=by
 intro e;subst e;rw[h]at h';exact d (Option.some.inj h')
theorem ê {H:Hp}{a b:Addr}{o:HO}(h:H a=some o)(h':H b=none):a≠b:=by
 intro e;subst e;rw[h]at h';cases h'
section
variable (P:Program)(w:World)
noncomputable def ObjOk (H:Hp)(h:Heap)(a:Addr):HO->Prop
 | .lst xs=>xs.length<=sizeLine /\ ∃(its:List Value) (n:Nat),Vals xs its /\ h.get? a=some { cls:=.type "list",data:=.seq its.toArray n }
 | .tup xs=>xs.length<=sizeLine /\ ∃its:List Value,Vals xs its /\ IsTup h a its.toArray
 | .dK kvs=>kvs.length<=sizeLine /\ (a==sysModules)=false /\ ∃vs,KV kvs vs /\ h.DictOf (Ŷ P w) a vs
 | .dT kvs=>kvs.length<=sizeLine /\ (a==sysModules)=false /\ ∃xs:List (List Key×Addr×Value),
   Paired (fun (p:List Key×V) (q:List Key×Addr×Value)=>p.1=q.1 /\ H q.2.1=some (.tup (p.1.map kV)) /\ RelV p.2 q.2.2) kvs xs /\
   ∃o es ep,h.get? a=some o /\ o.ExactDict /\ o.data = .dict es ep /\ es.toList=xs.map (entryOfKey (tupleKind (Ŷ P w))) /\ (xs.map (·.1)).Nodup
 | .set S n=>h.SetOf (intKind P w) a S n
 | .ins C dx fs=>H dx=some (.own a) /\ fs.length<=1000 /\ dx≠a /\ h.get? a=some (PySem.W.instObj C dx) /\
   ∃mA,h.Ns1 dx mA /\ (∀f,RelO (fs.lookup f) (mA f)) /\ PySem.Within mA (fs.map (·.1))
 | .own _=>∃o,h.get? a=some o
 | .xd fs=>∃mA,h.Ns1 a mA /\ ∀f,RelO (fs.lookup f) (mA f)
 | .rng lo hi=>∃t u v,h.get? a=some { cls:=.type "range",data:=.fields #[.int lo t,.int hi u,.int 1 v] }
 | .frz o u=>h.get? a=some o /\ ObjOk H h a u
 | .tbl ps=>h.get? a=some { cls:=.none,data:=.fields ps }
 | .met f x=>h.get? a=some (PySem.W.methodObj (.ref f) (.ref x))
 | .ext φ=>φ h /\ (∃o,h.get? a=some o) /\ ∀h1 h2:Heap,φ h1->(∀o,h1.get? a=some o->h2.get? a=some o)->φ h2
noncomputable def HOk (H:Hp)(h:Heap):Prop:=∀a o,H a=some o->ObjOk P w H h a o
end
section
variable {P:Program}{w:World}{H H':Hp}{h h':Heap}{a:Addr}{o:HO}
theorem ObjOk.lt (x:ObjOk P w H h a o):a<h.objs.size:=by
 cases o with
 | lst xs=>obtain⟨_,_,_,_,e⟩:=x;exact ċ e
 | tup xs=>obtain⟨_,_,_,p⟩:=x;exact p.lt
 | dK kvs=>obtain⟨_,_,_,_,o,_,_,e,_⟩:=x;exact ċ e
 | dT kvs=>obtain⟨_,_,_,_,o,_,_,e,_⟩:=x;exact ċ e
 | set S n=>obtain⟨o,_,_,_,e,_⟩:=x;exact ċ e
 | ins C dx fs=>obtain⟨_,_,_,e,_⟩:=x;exact ċ e
 | own y=>obtain⟨_,e⟩:=x;exact ċ e
 | xd fs=>obtain⟨_,⟨_,_,_,e,_⟩,_⟩:=x;exact ċ e
 | rng lo hi=>obtain⟨_,_,_,e⟩:=x;exact ċ e
 | frz ob u=>obtain⟨e,_⟩:=x;exact ċ e
 | tbl ps=>exact ċ (show h.get? a=some _ from x)
 | met f y=>exact ċ (show h.get? a=some _ from x)
 | ext φ=>obtain⟨_,⟨_,e⟩,_⟩:=x;exact ċ e
theorem Paired.mapP {α β:Type}{F G:α->β->Prop}:∀{l₁:List α} {l₂:List β},Paired F l₁ l₂->(∀a b,F a b->G a b)->Paired G l₁ l₂
 | _,_,.nil,_=>.nil
 | _,_,.cons r t,f=>.cons (f _ _ r) (Paired.mapP t f)
theorem ObjOk.stay (x:ObjOk P w H h a o)(k:∀b u,(b=a \/ H b=some (.own a))->h.get? b=some u->h'.get? b=some u)
  (ho:∀b,H b=some (.own a)->H' b=some (.own a))(ht:∀b xs,H b=some (.tup xs)->H' b=some (.tup xs)):ObjOk P w H' h' a o:=by
 induction o with
 | lst xs=>obtain⟨z,its,n,r,e⟩:=x;exact⟨z,its,n,r,k _ _ (.inl rfl) e⟩
 | tup xs=>obtain⟨z,its,r,ob,e,c⟩:=x;exact⟨z,its,r,ob,k _ _ (.inl rfl) e,c⟩
 | dK kvs=>obtain⟨z,y,vs,r,ob,es,ep,e,c⟩:=x;exact⟨z,y,vs,r,ob,es,ep,k _ _ (.inl rfl) e,c⟩
 | dT kvs =>
  obtain⟨z,y,xs,r,ob,es,ep,e,c⟩:=x;exact⟨z,y,xs,Paired.mapP r fun p q z=>⟨z.1,ht _ _ z.2.1,z.2.2⟩,ob,es,ep,k _ _ (.inl rfl) e,c⟩
 | set S n=>obtain⟨ob,es,ep,t,e,c⟩:=x;exact⟨ob,es,ep,t,k _ _ (.inl rfl) e,c⟩
 | ins C dx fs =>
  obtain⟨d,z,ne,e,mA,⟨od,es,ep,e2,c⟩,r⟩:=x;exact⟨ho _ d,z,ne,k _ _ (.inl rfl) e,mA,⟨od,es,ep,k _ _ (.inr d) e2,c⟩,r⟩
 | own y=>obtain⟨ob,e⟩:=x;exact⟨ob,k _ _ (.inl rfl) e⟩
 | xd fs=>obtain⟨mA,⟨od,es,ep,e,c⟩,r⟩:=x;exact⟨mA,⟨od,es,ep,k _ _ (.inl rfl) e,c⟩,r⟩
 | rng lo hi=>obtain⟨t,u,v,e⟩:=x;exact⟨t,u,v,k _ _ (.inl rfl) e⟩
 | frz ob u ih=>obtain⟨e,q⟩:=x;exact⟨k _ _ (.inl rfl) e,ih q⟩
 | tbl ps =>
  have e:h.get? a=some { cls:=.none,data:=.fields ps }:=x;show h'.get? a=some { cls:=.none,data:=.fields ps };exact k a _ (.inl rfl) e
 | met f y =>
  have e:h.get? a=some (PySem.W.methodObj (.ref f) (.ref y)):=x;show h'.get? a=some (PySem.W.methodObj (.ref f) (.ref y));exact k a _ (.inl rfl) e
 | ext φ=>obtain⟨p,⟨o,e⟩,st⟩:=x;exact⟨st _ _ p fun o q=>k _ _ (.inl rfl) q,⟨o,k _ _ (.inl rfl) e⟩,st⟩
theorem HOk.lt (x:HOk P w H h)(e:H a=some o):a<h.objs.size:=(x a o e).lt
theorem HOk.fresh (x:HOk P w H h)(e:h.objs.size<=a):H a=none:=by
 cases q:H a with
 | none=>rfl
 | some u=>exact absurd (Ă (x.lt q) e) (ĸ _)
theorem HOk.kept (x:HOk P w H h)(k:∀b u,h.get? b=some u->h'.get? b=some u):HOk P w H h':=fun a o e =>
 (x a o e).stay (fun b u _ q=>k b u q) (fun _ q=>q) fun _ _ q=>q
theorem HOk.laid (x:HOk P w H h)(k:∀b u,h.get? b=some u->h'.get? b=some u)(hp:h.objs.size<=a)(new:ObjOk P w (upd H a o) h' a o):HOk P w (upd H a o) h':=fun b u e=>by
 have hn:=x.fresh hp
 by_cases hb:b=a
 ·subst hb;rw[Ã]at e;cases e;exact new
 ·rw[upd_ne hb]at e;exact(x b u e).stay (fun c v _ q=>k c v q) (fun c q=>by rw[upd_ne (ê q hn)];exact q) fun c xs q=>by rw[upd_ne (ê q hn)];exact q
end
noncomputable def Rd (H:Hp)(a:Addr)(u:HO):Prop:=H a=some u \/ ∃o,H a=some (.frz o u)
theorem Rd.ok {P:Program}{w:World}{H:Hp}{h:Heap}{a:Addr}{u:HO}(r:Rd H a u)(x:HOk P w H h):ObjOk P w H h a u:=by
 rcases r with r | ⟨o,r⟩
 ·exact x a u r
 ·obtain⟨_,q⟩:=x a _ r;exact q
noncomputable def Mut:Option HO->Prop
 | some (.lst _)=>True
 | some (.dK _)=>True
 | some (.dT _)=>True
 | some (.set _ _)=>True
 | some (.ins _ _ _)=>True
 | some (.ext _)=>True
 | _=>False
section
variable {P:Program}{w:World}{H:Hp}{h h':Heap}{x e:Addr}{o':HO}
theorem HOk.write (ok:HOk P w H h)(mu:Mut (H x))(he:e=x \/ H e=some (.own x))(k:∀b u,b≠e->h.get? b=some u->h'.get? b=some u)(heo:∃u,h'.get? e=some u)
  (new:ObjOk P w (upd H x o') h' x o'):HOk P w (upd H x o') h':=fun b u q=>by
 have nown:∀c y,H c=some (.own y)->c≠x:=fun c y r z=>by subst z;rw[r]at mu;exact mu
 have ntup:∀c xs,H c=some (.tup xs)->c≠x:=fun c xs r z=>by subst z;rw[r]at mu;exact mu
 by_cases hb:b=x
 ·subst hb;rw[Ã]at q;cases q;exact new
 ·rw[upd_ne hb]at q
  by_cases hbe:b=e
  ·have q':H b=some (.own x):=by
    rcases he with z | z
    ·exact absurd (hbe.trans z) hb
    ·rw[hbe];exact z
   rw[q]at q';cases q';obtain⟨v,hv⟩:=heo;exact⟨v,by rw[hbe];exact hv⟩
  ·refine(ok b u q).stay (fun c v hc r=>k c v ?_ r) (fun c r=>by rw[upd_ne (nown c b r)];exact r) fun c xs r=>by rw[upd_ne (ntup c xs r)];exact r
   rcases hc with rfl | hc
   ·exact hbe
   ·rintro rfl;rcases he with z | z
    ·exact nown c b hc z
    ·rw[hc]at z;cases z;exact hb rfl
end
structure Un (fs ex:List Addr)(H H':Hp)(h h':Heap):Prop where
 keep:∀b o,h.get? b=some o->H b=none->b∉fs->b∉ex->h'.get? b=some o
 slot:∀b o,h.get? b=some o->H b=none->b∈fs->b∉ex->∃sl,h'.get? b=some { o with slots:=sl }
 free:∀b o,h.get? b=some o->H b=none->b∉ex->H' b=none
 there:∀b o,h.get? b=some o->b∉ex->∃o',h'.get? b=some o'
 tups:∀b xs,H b=some (.tup xs)->H' b=some (.tup xs)
 frzs:∀b o u,H b=some (.frz o u)->H' b=some (.frz o u)
 tbls:∀b ps,H b=some (.tbl ps)->∃more,H' b=some (.tbl (ps++more))
section
variable {fs fs' ex ex':List Addr}{H H1 H2:Hp}{h h1 h2 h':Heap}{a x e:Addr}{o:HO}
theorem Un.any (u:Un fs ex H H1 h h1){b:Addr}{ob:Obj}(q:h.get? b=some ob)(n:H b=none)(hx:b∉ex):∃sl,h1.get? b=some { ob with slots:=sl }:=by
 by_cases hb:b∈fs
 ·exact u.slot b ob q n hb hx
 ·exact⟨ob.slots,u.keep b ob q n hb hx⟩
theorem Un.kept (k:∀b u,h.get? b=some u->h'.get? b=some u):Un fs ex H H h h' :=
 ⟨fun b ob q _ _ _=>k b ob q,fun b ob q _ _ _=>⟨ob.slots,k b ob q⟩,fun _ _ _ n _=>n,fun b ob q _=>⟨ob,k b ob q⟩,fun _ _ q=>q,fun _ _ _ q=>q,fun _ ps q=>⟨#[],by rw[q];simp⟩⟩
theorem Un.refl:Un fs ex H H h h:=Un.kept fun _ _ q=>q
theorem Un.laid (k:∀b u,h.get? b=some u->h'.get? b=some u)(hp:h.objs.size<=a)(hn:H a=none):Un fs ex H (upd H a o) h h' where
 keep:=fun b u q _ _ _=>k b u q
 slot:=fun b u q _ _ _=>⟨u.slots,k b u q⟩
 free:=fun b u q n _=>by rw[upd_ne (Ķ (Ă (ċ q) hp))];exact n
 there:=fun b u q _=>⟨u,k b u q⟩
 tups:=fun b xs q=>by rw[upd_ne (ê q hn)];exact q
 frzs:=fun b u xs q=>by rw[upd_ne (ê q hn)];exact q
 tbls:=fun b ps q=>⟨#[],by rw[upd_ne (ê q hn),q];simp⟩
theorem Un.write (mu:Mut (H x))(he:e=x \/ H e=some (.own x))(k:∀b u,b≠e->h.get? b=some u->h'.get? b=some u)(heo:∃u,h'.get? e=some u):Un fs ex H (upd H x o) h h':=by
 have hx:∀b,H b=none->b≠x:=fun b n z=>by subst z;rw[n]at mu;exact mu
 have hb:∀b,H b=none->b≠e:=fun b n z=>by
  subst z;rcases he with r | r
  ·exact hx b n r
  ·rw[n]at r;cases r
 have hm:∀b u,H b=some u->¬Mut (some u)->b≠x:=fun b u q nm z=>by subst z;rw[q]at mu;exact nm mu
 refine⟨fun b u q n _ _=>k b u (hb b n) q,fun b u q n _ _=>⟨u.slots,k b u (hb b n) q⟩,fun b u q n _=>by rw[upd_ne (hx b n)];exact n,fun b u q _=>?_,
  fun b xs q=>by rw[upd_ne (hm b _ q fun z=>z)];exact q,fun b u xs q=>by rw[upd_ne (hm b _ q fun z=>z)];exact q,fun b ps q=>⟨#[],by rw[upd_ne (hm b _ q fun z=>z),q];simp⟩⟩
 by_cases hbe:b=e
 ·subst hbe;exact heo
 ·exact⟨u,k b u hbe q⟩
end
noncomputable def trk (h:Heap)(H:Hp):List Addr:=(Đ h.objs.size).filter fun a=>(H a).isSome
noncomputable def hidT (h:Heap)(H:Hp):Heap:=PySem.W.hideAll h (trk h H)
theorem yN8 (h:Heap)(H:Hp):(hidT h H).objs.size=h.objs.size:=PySem.W.hideAll_size _ _
theorem yU5 {h:Heap}{H:Hp}{b:Addr}{o:Obj}(e:h.get? b=some o)(n:H b=none):(hidT h H).get? b=some o :=
 PySem.W.hideAll_get _ e fun hm=>by
  have q:(H b).isSome=true:=(List.mem_filter.mp hm).2;rw[n]at q;simp at q
theorem xC3 {h:Heap}{H:Hp}{b:Addr}{o:Obj}(e:(hidT h H).get? b=some o):h.get? b=some o /\ H b=none:=by
 have e':h.get? b=some o:=PySem.W.of_hideAll (trk h H) e;refine⟨e',?_⟩;cases q:H b with
 | none=>rfl
 | some x =>
  have hm:b∈trk h H:=List.mem_filter.mpr ⟨ğ.mpr (ċ e'),by simp[q]⟩;have z:(hidT h H).get? b=none:=PySem.W.hideAll_none (trk h H) hm;rw[z]at e;cases e
noncomputable def zV5 (g h:Heap)(L:Addr):List (Addr×Obj):=(Đ h.objs.size).filterMap fun a=>if a=L \/ (g.get? a).isSome=true then none else (h.get? a).map fun o=>(a,o)
theorem yC0 {g h:Heap}{L a:Addr}{o:Obj}(h1:a≠L)(h2:g.get? a=none)(h3:h.get? a=some o):(a,o)∈zV5 g h L :=
 ū.mpr ⟨a,ğ.mpr (ċ h3),by simp[h1,h2,h3]⟩
theorem zP9 {g h:Heap}{L:Addr}{p:Addr×Obj}(hp:p∈zV5 g h L):p.1≠L /\ g.get? p.1=none /\ h.get? p.1=some p.2:=by
 obtain⟨b,_,e⟩:=ū.mp hp
 split at e
 ·cases e
 ·rename_i hn;cases q:h.get? b with
  | none=>rw[q]at e;simp at e
  | some u =>
   rw[q]at e;simp only[Option.map_some,Option.some.injEq]at e;subst e;refine⟨fun z=>hn (.inl z),?_,q⟩;show g.get? b=none;cases r:g.get? b with
   | none=>rfl
   | some v=>exact(hn (.inr (by simp[r]))).elim
theorem yF1 {g h:Heap}{L:Addr}:News g L h (zV5 g h L):=fun p hp=>let ⟨a,b,c⟩:=zP9 hp;⟨c,a,b⟩
structure Mod (K:Ā)(mg:Str->Option Value)(base:Heap):Prop where
 kin:K.In base
 glob:base.Ns mainGlobals mg
 blt:∃mb,base.Ns builtinsNs mb /\ ∀x:Str,x ≠ "__name__"->mb x=bootBuiltins x
 nolimit:base.NoLimit
set_option genInjectivity false in
structure Cx where
 prog:Program
 w:World
 K:Ā
 mg:Str->Option Value
 base:Heap
 A:Around
 N:List Str
 s₀:Shared
 H₀:Hp
 env:Env
 outer:List Env
 stack:List Env
 ex:List Addr
 fn:Str->Bool
 calm:Bool
 pn:List (Addr×Obj)
 xe:Value->Shared->Prop
noncomputable def frs (l:List Env):List Addr:=l.filterMap (·.frame)
noncomputable abbrev Cx.fs (X:Cx):List Addr:=frs X.outer
noncomputable def Vis (sc:Scope)(x:Str):Prop:=sc.names.lookup x=some .local \/ sc.names.lookup x=some .cell \/ sc.names.lookup x=some .free
noncomputable def Loc (sc:Scope)(x:Str):Prop:=sc.names.lookup x=some .local \/ sc.names.lookup x=some .cell
noncomputable def Look (env:Env)(h:Heap)(m:Str->Option Value)(x:Str)(u:Value):Prop :=
 (env.kindOf x=some .local /\ m x=some u) \/ ((env.kindOf x=some .cell \/ env.kindOf x=some .free) /\ ∃c,env.cells.lookup x=some c /\ h.IsCell c (some u))
structure Cx.Ok (X:Cx):Prop where
 mod:Mod X.K X.mg X.base
 kind:X.env.scope.kind = .function
 glob:X.env.globals=mainGlobals
 blt:X.env.builtins=builtinsNs
 above:X.s₀.heap.objs.size<=X.env.locals
 inj:∀x y c,X.env.cells.lookup x=some c->X.env.cells.lookup y=some c->x=y
 has:∀x,(X.env.kindOf x=some .cell \/ X.env.kindOf x=some .free)->∃c,X.env.cells.lookup x=some c
 cab:∀x c,X.fn x=true->X.env.cells.lookup x=some c->X.s₀.heap.objs.size<=c
 hd:X.calm=true->X.A.handled=none
 frames:X.A.frames=some X.stack
 stk:X.stack=X.outer \/ (X.stack=X.env::X.outer /\ X.env.frame=some X.env.locals)
 exf:∀b∈X.ex,b≠X.env.locals /\ ∀x c,X.env.cells.lookup x=some c->c≠b
 bs:∀b o,X.base.get? b=some o->X.s₀.heap.get? b=some o /\ X.H₀ b=none
 bsz:X.base.objs.size<=X.s₀.heap.objs.size
 noex:∀b o,X.base.get? b=some o->b∉X.ex
 exfs:∀b∈X.ex,b∉X.fs
 funs:X.s₀.heap.FunFrames X.base X.outer
 frf:∀b∈X.fs,X.H₀ b=none
structure Inv (X:Cx)(pins:List (Addr×Obj))(σ:List (Option V))(H:Hp)(s:Shared):Prop where
 ok:X.Ok
 os:s.os=X.s₀.os
 bare:AllBare s.gens
 base:Un X.fs X.ex X.H₀ H X.s₀.heap s.heap
 loc:∃m,s.heap.Ns X.env.locals m /\ ∀(i:Nat) (x:Str) (v:V),X.N[i]?=some x->σ[i]?=some (some v)->Vis X.env.scope x->∃u,RelV v u /\ Look X.env s.heap m x u
 cell:∀x c,X.env.cells.lookup x=some c->∃v,s.heap.IsCell c v
 free:H X.env.locals=none
 freeC:∀x c,X.env.cells.lookup x=some c->H c=none
 pin:∀p∈X.pn++pins,s.heap.get? p.1=some p.2 /\ H p.1=none /\ p.1≠X.env.locals /\ p.1∉X.fs /\ ∀v,p.2.data ≠ .cell v
 hok:HOk X.prog X.w H s.heap
 len:σ.length=X.N.length
section
variable {X:Cx}{pins:List (Addr×Obj)}{σ:List (Option V)}{H H':Hp}{s:Shared}{h':Heap}
theorem Cx.Ok.nofr (ok:X.Ok){b:Addr}{o:Obj}(e:X.base.get? b=some o):b∉X.fs:=fun hb=>by
 have:=(ok.funs.mem hb).1;rw[e]at this;cases this
theorem Inv.bs (I:Inv X pins σ H s):∀b o,X.base.get? b=some o->s.heap.get? b=some o /\ H b=none:=fun b o e =>
 ⟨I.base.keep b o (I.ok.bs b o e).1 (I.ok.bs b o e).2 (I.ok.nofr e) (I.ok.noex b o e),I.base.free b o (I.ok.bs b o e).1 (I.ok.bs b o e).2 (I.ok.noex b o e)⟩
theorem Inv.bk (I:Inv X pins σ H s):∀b o,X.base.get? b=some o->s.heap.get? b=some o:=fun b o e=>(I.bs b o e).1
theorem Inv.mod (I:Inv X pins σ H s):Mod X.K X.mg X.base:=I.ok.mod
theorem Inv.kIn (I:Inv X pins σ H s):X.K.In s.heap:=I.ok.mod.kin.keeps I.bk
theorem Inv.lt (I:Inv X pins σ H s):X.env.locals<s.heap.objs.size:=let ⟨_,hn,_⟩:=I.loc;hn.lt
theorem Inv.sz (I:Inv X pins σ H s):X.s₀.heap.objs.size<=s.heap.objs.size:=ĉ I.ok.above (Ĩ I.lt)
theorem Inv.nofs (I:Inv X pins σ H s){a:Addr}(h:s.heap.objs.size<=a):a∉X.fs:=fun hb=>by
 obtain⟨_,o,ho,_⟩:=I.ok.funs.mem hb;exact absurd (Ă (ċ ho) (ĉ I.sz h)) (ĸ _)
theorem Inv.cne (I:Inv X pins σ H s):∀x c,X.env.cells.lookup x=some c->c≠X.env.locals:=fun x c e z=>by
 obtain⟨v,o,ho,hd⟩:=I.cell x c e;obtain⟨m,⟨o',es,ep,ho',hd',_⟩,_⟩:=I.loc;rw[z,ho']at ho;cases ho;rw[hd']at hd;cases hd
theorem Inv.funs (I:Inv X pins σ H s):s.heap.FunFrames X.base X.outer:=by
 have all:∀(l:List Env),(∀b∈frs l,b∈X.fs)->X.s₀.heap.FunFrames X.base l->s.heap.FunFrames X.base l:=by
  intro l
  induction l with
  | nil=>intro _ _;trivial
  | cons env r ih =>
   intro hs hl;obtain⟨hk,⟨L,o,hf,hn,ho,hd⟩,hr⟩:=hl;have hL:L∈X.fs:=hs L (by unfold frs;rw[List.filterMap_cons,hf];exact Ĉ);obtain⟨sl,e⟩:=I.base.slot L o ho (I.ok.frf L hL) hL fun z=>I.ok.exfs L z hL;exact⟨hk,⟨L,_,hf,hn,e,hd⟩,ih (fun b hb=>hs b (by unfold frs;rw[List.filterMap_cons,hf];exact ć _ hb)) hr⟩
 exact all X.outer (fun _ hb=>hb) I.ok.funs
theorem Inv.stack (I:Inv X pins σ H s):s.heap.FunFrames X.base X.stack:=by
 rcases I.ok.stk with e | ⟨e,hf⟩
 ·rw[e];exact I.funs
 ·rw[e];obtain⟨m,hn,_⟩:=I.loc;refine .cons (by rw[I.ok.kind];decide) hf hn ?_ I.funs;exact Heap.get?_none_of_le (ĉ I.ok.bsz I.ok.above)
theorem Inv.stkSub (I:Inv X pins σ H s):∀b∈frs X.stack,b∈X.env.locals::X.fs:=fun b hb=>by
 rcases I.ok.stk with e | ⟨e,hf⟩
 ·rw[e]at hb;exact ć _ hb
 ·rw[e]at hb;unfold frs at hb;rw[List.filterMap_cons,hf]at hb;exact hb
theorem Inv.stkFree (I:Inv X pins σ H s):∀b∈frs X.stack,H b=none:=fun b hb=>by
 rcases Ė.mp (I.stkSub b hb) with e | hb
 ·rw[e];exact I.free
 ·obtain⟨_,o,ho,_⟩:=I.ok.funs.mem hb;exact I.base.free b o ho (I.ok.frf b hb) fun z=>I.ok.exfs b z hb
theorem Inv.step {g':Array GenState}{t':Nat}{d':Drawn}{ch:List Addr}(I:Inv X pins σ H s)
  (hch:∀b∈ch,(b∈X.ex \/ X.s₀.heap.objs.size<=b) /\ b≠X.env.locals /\ (∀x c,X.env.cells.lookup x=some c->c≠b) /\ ∀p∈X.pn++pins,p.1≠b)
  (keep:∀b o,b≠X.env.locals->b∉X.fs->b∉ch->s.heap.get? b=some o->H b=none->h'.get? b=some o)
  (slot:∀b o,b≠X.env.locals->b∈X.fs->b∉ch->s.heap.get? b=some o->H b=none->∃sl,h'.get? b=some { o with slots:=sl })(free:∀b o,b∉ch->s.heap.get? b=some o->H b=none->H' b=none)
  (there:∀b o,b∉ch->s.heap.get? b=some o->∃o',h'.get? b=some o')
  (tups:∀b xs,H b=some (.tup xs)->H' b=some (.tup xs))(frzs:∀b o u,H b=some (.frz o u)->H' b=some (.frz o u))(tbls:∀b ps,H b=some (.tbl ps)->∃more,H' b=some (.tbl (ps++more)))
  (ns:∀m,s.heap.Ns X.env.locals m->h'.Ns X.env.locals m)(hok:HOk X.prog X.w H' h')(hg:AllBare g') :
  Inv X pins σ H' { s with heap:=h',gens:=g',drawn:=d',toks:=t' }:=by
 have neL:∀b o,X.s₀.heap.get? b=some o->b≠X.env.locals:=fun b o e=>Ķ (Ă (ċ e) I.ok.above);have neC:∀b o,X.s₀.heap.get? b=some o->b∉X.ex->b∉ch:=fun b o e hx hb=>by
  rcases (hch b hb).1 with z | z
  ·exact hx z
  ·exact absurd (Ă (ċ e) z) (ĸ _)
 have cellK:∀x c,X.env.cells.lookup x=some c->∀v,s.heap.IsCell c v->h'.IsCell c v:=fun x c e v ⟨o,ho,hd⟩=>by
  have nch:c∉ch:=fun z=>(hch c z).2.2.1 x c e rfl
  by_cases hc:c∈X.fs
  ·obtain⟨sl,q⟩:=slot c o (I.cne x c e) hc nch ho (I.freeC x c e);exact⟨_,q,hd⟩
  ·exact⟨o,keep c o (I.cne x c e) hc nch ho (I.freeC x c e),hd⟩
 refine⟨I.ok,I.os,hg,⟨fun b o e n hb hx=>?_,fun b o e n hb hx=>?_,fun b o e n hx=>?_,fun b o e hx=>?_,fun b xs e=>tups b xs (I.base.tups b xs e),fun b o xs e=>frzs b o xs (I.base.frzs b o xs e),fun b ps e=>?_⟩,?_,fun x c e=>?_,?_,fun x c e=>?_,fun p hp=>?_,hok,I.len⟩
 ·exact keep b o (neL b o e) hb (neC b o e hx) (I.base.keep b o e n hb hx) (I.base.free b o e n hx)
 ·obtain⟨sl,e1⟩:=I.base.slot b o e n hb hx;obtain⟨sl',e2⟩:=slot b _ (neL b o e) hb (neC b o e hx) e1 (I.base.free b o e n hx);exact⟨sl',e2⟩
 ·obtain⟨o',e1⟩:=I.base.there b o e hx;exact free b o' (neC b o e hx) e1 (I.base.free b o e n hx)
 ·obtain⟨o',e1⟩:=I.base.there b o e hx;exact there b o' (neC b o e hx) e1
 ·obtain⟨m1,e1⟩:=I.base.tbls b ps e;obtain⟨m2,e2⟩:=tbls b _ e1;exact⟨m1++m2,by rw[e2,Array.append_assoc]⟩
 ·obtain⟨m,hn,hl⟩:=I.loc;refine⟨m,ns m hn,fun i x v e1 e2 e3=>?_⟩;obtain⟨u,r,l⟩:=hl i x v e1 e2 e3;refine⟨u,r,?_⟩;rcases l with l | ⟨k,c,e,z⟩
  ·exact .inl l
  ·exact .inr ⟨k,c,e,cellK x c e _ z⟩
 ·obtain⟨v,z⟩:=I.cell x c e;exact⟨v,cellK x c e v z⟩
 ·obtain⟨m,⟨o,_,_,ho,_⟩,_⟩:=I.loc;exact free _ o (fun z=>(hch _ z).2.1 rfl) ho I.free
 ·obtain⟨v,o,ho,hd⟩:=I.cell x c e;exact free c o (fun z=>(hch c z).2.2.1 x c e rfl) ho (I.freeC x c e)
 ·obtain⟨e,n,ne,nf,d⟩:=I.pin p hp;have nch:p.1∉ch:=fun z=>(hch p.1 z).2.2.2 p hp rfl;exact⟨keep p.1 p.2 ne nf nch e n,free p.1 p.2 nch e n,ne,nf,d⟩
theorem Inv.un {t':Nat}(I:Inv X pins σ H s)(u:Un X.fs [] H H' s.heap h')(hok:HOk X.prog X.w H' h'):Inv X pins σ H' { s with heap:=h',toks:=t' }:=by
 obtain⟨m,⟨o,es,ep,ho,r⟩,_⟩:=id I.loc;obtain⟨sl,hL⟩:=u.any ho I.free (by simp);exact I.step (g':=s.gens) (d':=s.drawn) (ch:=[]) (fun _ z=>nomatch z) (fun b o _ hb _ e n=>u.keep b o e n hb (by simp)) (fun b o _ hb _ e n=>u.slot b o e n hb (by simp)) (fun b o _ e n=>u.free b o e n (by simp)) (fun b o _ e=>u.there b o e (by simp)) u.tups u.frzs u.tbls (fun m' hm=>by
  obtain⟨o',es',ep',ho',r'⟩:=hm;rw[ho]at ho';cases ho';exact⟨_,es',ep',hL,r'⟩) hok I.bare
theorem Inv.call {g':Array GenState}{t':Nat}{d':Drawn}{ch:List Addr}(I:Inv X pins σ H s)(u:Un (frs X.stack) ch H H' s.heap h')(hok:HOk X.prog X.w H' h')(hg:AllBare g')
  (hch:∀b∈ch,(b∈X.ex \/ X.s₀.heap.objs.size<=b) /\ b≠X.env.locals /\ (∀x c,X.env.cells.lookup x=some c->c≠b) /\ ∀p∈X.pn++pins,p.1≠b) :
  Inv X pins σ H' { s with heap:=h',gens:=g',drawn:=d',toks:=t' }:=by
 obtain⟨m,⟨o,es,ep,ho,r⟩,_⟩:=id I.loc;obtain⟨sl,hL⟩:=u.any ho I.free fun z=>(hch _ z).2.1 rfl;exact I.step (ch:=ch) hch (fun b o hL hb hc e n=>u.keep b o e n (fun z=>(Ė.mp (I.stkSub b z)).elim hL hb) hc) (fun b o _ _ hc e n=>u.any e n hc) (fun b o hc e n=>u.free b o e n hc) (fun b o hc e=>u.there b o e hc) u.tups u.frzs u.tbls (fun m' hm=>by
  obtain⟨o',es',ep',ho',r'⟩:=hm;rw[ho]at ho';cases ho';exact⟨_,es',ep',hL,r'⟩) hok hg
theorem Inv.turned {t':Nat}{it:Addr}(I:Inv X pins σ H s)(k:∀b o,b≠it->s.heap.get? b=some o->h'.get? b=some o)(hn:H it=none)(hL:it≠X.env.locals)
  (h1:it∈X.ex \/ X.s₀.heap.objs.size<=it)(h2:∀x c,X.env.cells.lookup x=some c->c≠it)(h3:∀p∈X.pn++pins,p.1≠it):Inv X pins σ H { s with heap:=h',toks:=t' }:=by
 have nit:∀b u,H b=some u->b≠it:=fun b u e z=>by rw[z,hn]at e;cases e
 refine I.step (g':=s.gens) (d':=s.drawn) (ch:=[it]) (fun b hb=>?_) (fun b o _ _ hc e _=>k b o (fun z=>hc (by simp[z])) e) (fun b o _ _ hc e _=>⟨o.slots,k b o (fun z=>hc (by simp[z])) e⟩) (fun _ _ _ _ n=>n)
  (fun b o hc e=>⟨o,k b o (fun z=>hc (by simp[z])) e⟩) (fun _ _ e=>e) (fun _ _ _ e=>e) (fun b ps e=>⟨#[],by rw[e];simp⟩) (fun m hm=>?_) (fun b u e=>?_) I.bare
 ·have e:b=it:=by simpa using hb
  subst e;exact⟨h1,hL,h2,h3⟩
 ·obtain⟨o,es,ep,ho,r⟩:=hm;exact⟨o,es,ep,k _ o (Ne.symm hL) ho,r⟩
 ·refine(I.hok b u e).stay (fun c v hc q=>k c v ?_ q) (fun _ q=>q) fun _ _ q=>q;rcases hc with z | z
  ·rw[z];exact nit b u e
  ·exact nit c _ z
theorem Inv.tok (I:Inv X pins σ H s)(t:Nat):Inv X pins σ H { s with toks:=t }:=I.un (h':=s.heap) (t':=t) Un.refl I.hok
theorem Inv.kept {t':Nat}(I:Inv X pins σ H s)(k:∀b u,s.heap.get? b=some u->h'.get? b=some u):Inv X pins σ H { s with heap:=h',toks:=t' }:=I.un (Un.kept k) (I.hok.kept k)
theorem Inv.laid {a:Addr}{o:HO}{t':Nat}(I:Inv X pins σ H s)(k:∀b u,s.heap.get? b=some u->h'.get? b=some u)(hp:s.heap.objs.size<=a)(new:ObjOk X.prog X.w (upd H a o) h' a o) :
  Inv X pins σ (upd H a o) { s with heap:=h',toks:=t' }:=I.un (Un.laid k hp (I.hok.fresh hp)) (I.hok.laid k hp new)
theorem Inv.write {x e:Addr}{o:HO}{t':Nat}(I:Inv X pins σ H s)(mu:Mut (H x))(he:e=x \/ H e=some (.own x))(k:∀b u,b≠e->s.heap.get? b=some u->h'.get? b=some u)(heo:∃u,h'.get? e=some u)
  (new:ObjOk X.prog X.w (upd H x o) h' x o):Inv X pins σ (upd H x o) { s with heap:=h',toks:=t' }:=I.un (Un.write mu he k heo) (I.hok.write mu he k heo new)
theorem Inv.pins_of {pins':List (Addr×Obj)}(I:Inv X pins σ H s)(h:∀p∈pins',s.heap.get? p.1=some p.2 /\ H p.1=none /\ p.1≠X.env.locals /\ p.1∉X.fs /\ ∀v,p.2.data ≠ .cell v):Inv X pins' σ H s :=
 ⟨I.ok,I.os,I.bare,I.base,I.loc,I.cell,I.free,I.freeC,fun p hp=>(ř.mp hp).elim (fun z=>I.pin p (List.mem_append_left _ z)) (h p),I.hok,I.len⟩
theorem yF0 {N:List Str}(hN:N.Nodup){i j:Nat}{x:Str}(a:N[i]?=some x)(b:N[j]?=some x):i=j:=by
 obtain⟨h1,e1⟩:=Ą.mp a;obtain⟨h2,e2⟩:=Ą.mp b;exact(List.getElem_inj hN).mp (e1.trans e2.symm)
theorem zW2 {M:Model}{A:Around}{E:Value->Shared->Prop}{i:Nat}{x:Str}{v:V}{u:Value}{Q:Unit->Shared->Prop}(I:Inv X pins σ H s)(hN:X.N.Nodup)(hi:X.N[i]?=some x)(hx:Loc X.env.scope x)(r:RelV v u)
  (h:∀s',Inv X pins (σ.set i (some v)) H s'->(∃a,Heap.SameBut a s.heap s'.heap /\ (a=X.env.locals \/ X.env.cells.lookup x=some a))->Q () s')(hf:X.fn x=true \/ X.env.scope.names.lookup x=some .local:=by first | exact .inl rfl | exact .inr rfl | assumption):wpAny M A (storeName X.env x u) Q E s:=by
 obtain⟨m,hn,hl⟩:=id I.loc;have hcls:(X.env.scope.kind == .class||(X.env.scope.kind == .module&&X.env.locals != X.env.globals))=false:=by rw[I.ok.kind];rfl
 have hiσ:i<σ.length:=by rw[I.len];exact(Ą.mp hi).1
 have cne:=I.cne;have tracked:∀{a:Addr} {h':Heap},(∃o,s.heap.get? a=some o /\ H a=none)->Heap.SameBut a s.heap h'->HOk X.prog X.w H h':=fun {a h'} ha hs b ob e=>by
  obtain⟨_,_,hfree⟩:=ha;refine(I.hok b ob e).stay (fun c w' hc q=>(hs.2 c ?_).trans q) (fun _ q=>q) fun _ _ q=>q;rintro rfl;rcases hc with rfl | hc
  ·rw[hfree]at e;cases e
  ·rw[hfree]at hc;cases hc
 rcases hx with hk | hk
 ·refine wpAny_storeName_local hk hn (fun h' hn' hs=>?_) hcls;obtain⟨oL,_,_,hoL,_⟩:=id hn;refine h _ ⟨I.ok,I.os,I.bare,⟨fun b o e n hb hx=>?_,fun b o e n hb hx=>?_,I.base.free,fun b o e hx=>?_,I.base.tups,I.base.frzs,I.base.tbls⟩,⟨_,hn',fun j y v' e1 e2 e3=>?_⟩,fun y c e=>?_,I.free,I.freeC,fun p hp=>?_,tracked ⟨oL,hoL,I.free⟩ hs,by simpa using I.len⟩ ⟨_,hs,.inl rfl⟩
  ·exact(hs.2 b (Ķ (Ă (ċ e) I.ok.above))).trans (I.base.keep b o e n hb hx)
  ·obtain⟨sl,e1⟩:=I.base.slot b o e n hb hx;exact⟨sl,(hs.2 b (Ķ (Ă (ċ e) I.ok.above))).trans e1⟩
  ·obtain⟨o',e1⟩:=I.base.there b o e hx;exact⟨o',(hs.2 b (Ķ (Ă (ċ e) I.ok.above))).trans e1⟩
  ·by_cases hj:j=i
   ·subst hj;rw[hi]at e1;cases e1;rw[List.getElem?_set_self hiσ]at e2;cases e2;exact⟨u,r,.inl ⟨hk,by simp⟩⟩
   ·rw[List.getElem?_set_ne (Ne.symm hj)]at e2;obtain⟨u',r',q⟩:=hl j y v' e1 e2 e3;refine⟨u',r',?_⟩;rcases q with⟨k,e⟩ | ⟨k,c,e,z⟩
    ·refine .inl ⟨k,?_⟩;have:y≠x:=fun e=>hj (yF0 hN e1 (e▸hi));simp[this,e]
    ·exact .inr ⟨k,c,e,z.sameBut hs (cne y c e)⟩
  ·obtain⟨w',z⟩:=I.cell y c e;exact⟨w',z.sameBut hs (cne y c e)⟩
  ·obtain⟨e,n,ne,nf,d⟩:=I.pin p hp;exact⟨(hs.2 p.1 ne).trans e,n,ne,nf,d⟩
 ·have hfn:X.fn x=true:=by
   rcases hf with z | z
   ·exact z
   ·rw[z]at hk;cases hk
  obtain⟨c,hc⟩:=I.ok.has x (.inl hk);obtain⟨w',z⟩:=I.cell x c hc;refine wpAny_storeName_cell I.ok.kind hk hc z (fun h' hc' hs=>?_);obtain⟨oc,hoc,hocd⟩:=id z;refine h { s with heap:=h' } ⟨I.ok,I.os,I.bare,⟨fun b o e n hb hx=>?_,fun b o e n hb hx=>?_,I.base.free,fun b o e hx=>?_,I.base.tups,I.base.frzs,I.base.tbls⟩,⟨m,hn.sameBut hs (Ne.symm (cne x c hc)),fun j y v' e1 e2 e3=>?_⟩,fun y c' e=>?_,I.free,I.freeC,fun p hp=>?_,tracked ⟨oc,hoc,I.freeC x c hc⟩ hs,by simpa using I.len⟩ ⟨c,hs,.inr hc⟩
  ·exact(hs.2 b (Ķ (Ă (ċ e) (I.ok.cab x c hfn hc)))).trans (I.base.keep b o e n hb hx)
  ·obtain⟨sl,e1⟩:=I.base.slot b o e n hb hx;exact⟨sl,(hs.2 b (Ķ (Ă (ċ e) (I.ok.cab x c hfn hc)))).trans e1⟩
  ·obtain⟨o',e1⟩:=I.base.there b o e hx;exact⟨o',(hs.2 b (Ķ (Ă (ċ e) (I.ok.cab x c hfn hc)))).trans e1⟩
  ·by_cases hj:j=i
   ·subst hj;rw[hi]at e1;cases e1;rw[List.getElem?_set_self hiσ]at e2;cases e2;exact⟨u,r,.inr ⟨.inl hk,c,hc,hc'⟩⟩
   ·rw[List.getElem?_set_ne (Ne.symm hj)]at e2;obtain⟨u',r',q⟩:=hl j y v' e1 e2 e3;refine⟨u',r',?_⟩;rcases q with q | ⟨k,c',e,z'⟩
    ·exact .inl q
    ·refine .inr ⟨k,c',e,z'.sameBut hs ?_⟩;rintro rfl;exact hj (yF0 hN e1 (I.ok.inj _ _ _ e hc▸hi))
  ·by_cases hcc:c'=c
   ·subst hcc;exact⟨_,hc'⟩
   ·obtain⟨w2,z2⟩:=I.cell y c' e;exact⟨w2,z2.sameBut hs hcc⟩
  ·obtain⟨e,n,ne,nf,d⟩:=I.pin p hp;refine⟨(hs.2 p.1 ?_).trans e,n,ne,nf,d⟩;intro q;rw[q,hoc]at e;have q':oc=p.2:=Option.some.inj e;exact d w' (by rw[<- q'];exact hocd)
theorem zL7 {M:Model}{A:Around}{E:Value->Shared->Prop}{i:Nat}{x:Str}{v:V}{u:Value}{Q:Unit->Shared->Prop}(I:Inv X pins σ H s)(hN:X.N.Nodup)(hi:X.N[i]?=some x)(hx:Loc X.env.scope x)(r:RelV v u)
  (h:∀s',Inv X pins (σ.set i (some v)) H s'->Q () s')(hf:X.fn x=true \/ X.env.scope.names.lookup x=some .local:=by first | exact .inl rfl | exact .inr rfl | assumption):wpAny M A (storeName X.env x u) Q E s :=
 zW2 I hN hi hx r (fun s' I' _=>h s' I') hf
theorem Inv.call' {s':Shared}{ch:List Addr}(I:Inv X pins σ H s)(ho:s'.os=s.os)(u:Un (frs X.stack) ch H H' s.heap s'.heap)(hok:HOk X.prog X.w H' s'.heap)(hg:AllBare s'.gens)
  (hch:∀b∈ch,(b∈X.ex \/ X.s₀.heap.objs.size<=b) /\ b≠X.env.locals /\ (∀x c,X.env.cells.lookup x=some c->c≠b) /\ ∀p∈X.pn++pins,p.1≠b):Inv X pins σ H' s':=by
 obtain⟨h',g',d',t',o'⟩:=s';have e:o'=s.os:=ho;subst e;exact I.call (g':=g') (t':=t') (d':=d') u hok hg hch
end
noncomputable abbrev XK:=Value->Option Addr->Hp->Prop
noncomputable abbrev St:=List (Option V)
noncomputable abbrev VK:=V->Hp->Prop
noncomputable abbrev TE:=St->Hp->VK->Prop
noncomputable abbrev TT:=St->Hp->(Bool->Hp->Prop)->Prop
noncomputable abbrev TA:=St->Hp->(List V->Hp->Prop)->Prop
set_option genInjectivity false in
structure Ends where
 nx:St->Hp->Prop
 rt:VK
 bk:St->Hp->Prop:=fun _ _=>False
 ct:St->Hp->Prop:=fun _ _=>False
noncomputable abbrev TS:=Ends->St->Hp->Prop
noncomputable def EP (X:Cx)(pins:List (Addr×Obj))(σ:St)(Q:VK)(u:Value)(s':Shared):Prop:=∃v H',Inv X pins σ H' s' /\ RelV v u /\ Q v H'
noncomputable def TP (X:Cx)(pins:List (Addr×Obj))(σ:St)(Q:Bool->Hp->Prop)(b:Bool)(s':Shared):Prop:=∃H',Inv X pins σ H' s' /\ Q b H'
noncomputable def AP (X:Cx)(pins:List (Addr×Obj))(σ:St)(Q:List V->Hp->Prop)(us:List Value)(s':Shared):Prop:=∃vs H',Inv X pins σ H' s' /\ Vals vs us /\ Q vs H'
noncomputable def SP (X:Cx)(pins:List (Addr×Obj))(D:Ends)(f:Flow)(s':Shared):Prop :=
 match f with
 | .next=>∃σ' H',Inv X pins σ' H' s' /\ D.nx σ' H'
 | .brk=>∃σ' H',Inv X pins σ' H' s' /\ D.bk σ' H'
 | .cont=>∃σ' H',Inv X pins σ' H' s' /\ D.ct σ' H'
 | .ret u=>∃v σ' H',Inv X pins σ' H' s' /\ RelV v u /\ D.rt v H'
noncomputable def PE (X:Cx)(e:Expr)(t:TE):Prop :=
 ∀(pins:List (Addr×Obj)) (s:Shared) (σ:St) (H:Hp) (Q:VK),Inv X pins σ H s->t σ H Q->wpAny (model X.prog X.w) X.A (eval e X.env) (EP X pins σ Q) X.xe s
noncomputable def PT (X:Cx)(e:Expr)(t:TT):Prop :=
 ∀(pins:List (Addr×Obj)) (s:Shared) (σ:St) (H:Hp) (Q:Bool->Hp->Prop),Inv X pins σ H s->t σ H Q->wpAny (model X.prog X.w) X.A (isTrue e X.env (eval e X.env)) (TP X pins σ Q) X.xe s
noncomputable def PW (X:Cx)(e:Expr)(t:TT):Prop :=
 ∀(whole:Sem Value) (pins:List (Addr×Obj)) (s:Shared) (σ:St) (H:Hp) (Q:Bool->Hp->Prop),Inv X pins σ H s->t σ H Q->wpAny (model X.prog X.w) X.A (isTrue e X.env whole) (TP X pins σ Q) X.xe s
theorem PW.pt {X:Cx}{e:Expr}{t:TT}(h:PW X e t):PT X e t:=h _
noncomputable def PA (X:Cx)(es:List Expr)(t:TA):Prop :=
 ∀(pos:Pos) (pins:List (Addr×Obj)) (s:Shared) (σ:St) (H:Hp) (Q:List V->Hp->Prop),Inv X pins σ H s->t σ H Q->wpAny (model X.prog X.w) X.A (spliced (backTo pos (starEach es X.env))) (AP X pins σ Q) X.xe s
noncomputable def PS (X:Cx)(st:Stmt)(t:TS):Prop :=
 ∀(pins:List (Addr×Obj)) (s:Shared) (σ:St) (H:Hp) (D:Ends),Inv X pins σ H s->t D σ H->wpAny (model X.prog X.w) X.A (exec st X.env) (SP X pins D) X.xe s
noncomputable def PSs (X:Cx)(st:List Stmt)(t:TS):Prop :=
 ∀(pins:List (Addr×Obj)) (s:Shared) (σ:St) (H:Hp) (D:Ends),Inv X pins σ H s->t D σ H->wpAny (model X.prog X.w) X.A (execs st X.env) (SP X pins D) X.xe s
theorem thn {α:Type}{t:Sem α}{Q Q':α->Shared->Prop}{M:Model}{A:Around}{E:Value->Shared->Prop}{s:Shared}(h:wpAny M A t Q E s)(hQ:∀a s,Q a s->Q' a s):wpAny M A t Q' E s:=wpAny_mono h hQ fun _ _ x=>x
section
variable {X:Cx}
noncomputable def tVar (i:Nat):TE:=fun σ H Q=>∃v,σ[i]?=some (some v) /\ Q v H
noncomputable def tC (v:V):TE:=fun _ H Q=>Q v H
theorem xH2 {i:Nat}{x:Str}{pos:Pos}(hN:X.N[i]?=some x)(hv:Vis X.env.scope x)(hd:(x==("__debug__":Str))=false:=by decide)(hcd:(x==("__classdict__":Str))=false:=by decide):PE X (.Name x pos) (tVar i):=by
 intro pins s σ H Q I h;obtain⟨v,e,h⟩:=h;obtain⟨m,hn,hl⟩:=I.loc;obtain⟨u,r,l⟩:=hl i x v hN e hv;have fin:EP X pins σ Q u s:=⟨v,H,I,r,h⟩;rcases l with⟨hk,hm⟩ | ⟨hk,c,hc,hcell⟩
 ·exact wpAny_Name (wpAny_loadName_local I.ok.kind hk hn hm fin) hd
 ·rcases hk with hk | hk
  ·exact wpAny_Name (wpAny_loadName_cell I.ok.kind hk hc hcell fin) hd
  ·exact wpAny_Name (wpAny_loadName_free I.ok.kind hk hc hcell fin hcd) hd
theorem Á {i j pos}:PE X (.Constant (.int i) j pos) (tC (.int i)):=fun _ _ _ H _ I h=>wpAny_Constant_int ⟨.int i,H,I.tok _,⟨_,rfl⟩,h⟩
theorem ž {b j pos}:PE X (.Constant (.bool b) j pos) (tC (.bl b)):=fun _ _ _ H _ I h=>Constant_bool ⟨.bl b,H,I,rfl,h⟩
theorem ζ {j pos}:PE X (.Constant .none j pos) (tC .non):=fun _ _ _ H _ I h=>Constant_none ⟨.non,H,I,rfl,h⟩
theorem å {x j pos}:PE X (.Constant (.str x) j pos) (tC (.str x)):=fun _ _ _ H _ I h=>Calls.Constant_str ⟨.str x,H,I.tok _,⟨_,rfl⟩,h⟩
noncomputable def Gl (X:Cx)(x:Str):Prop:=X.env.kindOf x=some .globalImplicit
theorem yM7 {E:Value->Shared->Prop}{pins:List (Addr×Obj)}{s:Shared}{σ:St}{H:Hp}{x:Str}{u:Value}{pos:Pos}{Q:Value->Shared->Prop}(I:Inv X pins σ H s)(hg:Gl X x)(hm:X.mg x=some u)(h:Q u s)
  (hd:(x==("__debug__":Str))=false:=by decide):wpAny (model X.prog X.w) X.A (eval (.Name x pos) X.env) Q E s :=
 Calls.Name_function_global I.ok.kind hg (Calls.loadGlobal_global (by rw[I.ok.glob];exact I.mod.glob.keeps I.bk) hm h) hd
theorem π {E:Value->Shared->Prop}{pins:List (Addr×Obj)}{s:Shared}{σ:St}{H:Hp}{x:Str}{u:Value}{pos:Pos}{Q:Value->Shared->Prop}(I:Inv X pins σ H s)(hg:Gl X x)(hm:X.mg x=none)(hv:bootBuiltins x=some u)(h:Q u s)
  (hn:x ≠ "__name__":=by decide)(hd:(x==("__debug__":Str))=false:=by decide):wpAny (model X.prog X.w) X.A (eval (.Name x pos) X.env) Q E s:=by
 obtain⟨mb,h1,h2⟩:=I.mod.blt;exact Calls.Name_function_global I.ok.kind hg (Calls.loadGlobal_builtin (by rw[I.ok.glob];exact I.mod.glob.keeps I.bk) hm (by rw[I.ok.blt];exact h1.keeps I.bk) ((h2 x hn).trans hv) h) hd
theorem Ż {x:Str}{v:V}{u:Value}{pos:Pos}(hg:Gl X x)(hm:X.mg x=none)(hv:bootBuiltins x=some u)(r:RelV v u)(hn:x ≠ "__name__":=by decide)(hd:(x==("__debug__":Str))=false:=by decide):PE X (.Name x pos) (tC v) :=
 fun _ _ _ H _ I h=>π I hg hm hv ⟨v,H,I,r,h⟩ hn hd
variable {a b:Expr}{ta tb:TE}{pos:Pos}
noncomputable def tB (t:TE):TT:=fun σ H Q=>t σ H fun x H1=>∃c,x = .bl c /\ Q c H1
theorem ö {e:Expr}{t:TE}(h:PE X e t)(he:∀whole,isTrue e X.env whole=(do let v <- whole;standAt e.pos;holding [v] (truthy v)):=by intro _;rfl):PT X e (tB t):=by
 intro pins s σ H Q I hw;refine isTrue_plain (thn (h pins s σ H _ I hw) fun v s1 ⟨x,H1,I1,r1,q1⟩=>?_) (he _);obtain⟨d,rfl,q⟩:=q1;cases r1;exact wpAny_truthy_bool ⟨H1,I1,q⟩
variable {tA tB':TT}{rest:List Expr}
noncomputable def tAnd (t u:TT):TT:=fun σ H Q=>t σ H fun c H1=>if c=true then u σ H1 Q else Q false H1
noncomputable def tOr (t u:TT):TT:=fun σ H Q=>t σ H fun c H1=>if c=true then Q true H1 else u σ H1 Q
noncomputable def tNot (t:TT):TT:=fun σ H Q=>t σ H fun c H1=>Q (!c) H1
theorem zR8 (ha:PT X a tA):PW X (.BoolOp .And [a] pos) tA:=by
 intro wh pins s σ H Q I h;refine isTrue_and (thn (ha pins s σ H Q I h) fun c s1 e=>?_);cases c with
 | true=>exact isTrue_and_nil e
 | false=>exact e
theorem Γ (ha:PT X a tA):PW X (.BoolOp .Or [a] pos) tA:=by
 intro wh pins s σ H Q I h;refine isTrue_or (thn (ha pins s σ H Q I h) fun c s1 e=>?_);cases c with
 | false=>exact isTrue_or_nil e
 | true=>exact e
theorem yE5 (ha:PT X a tA)(hb:PW X (.BoolOp .And (b::rest) pos) tB'):PW X (.BoolOp .And (a::b::rest) pos) (tAnd tA tB'):=by
 intro wh pins s σ H Q I h;refine isTrue_and (thn (ha pins s σ H _ I h) fun c s1 ⟨H1,I1,q1⟩=>?_);cases c with
 | true=>exact hb wh pins s1 σ H1 Q I1 q1
 | false=>exact⟨H1,I1,q1⟩
theorem Ζ (ha:PT X a tA)(hb:PW X (.BoolOp .Or (b::rest) pos) tB'):PW X (.BoolOp .Or (a::b::rest) pos) (tOr tA tB'):=by
 intro wh pins s σ H Q I h;refine isTrue_or (thn (ha pins s σ H _ I h) fun c s1 ⟨H1,I1,q1⟩=>?_);cases c with
 | true=>exact⟨H1,I1,q1⟩
 | false=>exact hb wh pins s1 σ H1 Q I1 q1
theorem ŭ (ha:PT X a tA):PT X (.UnaryOp .Not a pos) (tNot tA):=by
 intro pins s σ H Q I h;exact isTrue_not (ha pins s σ H (fun c H1=>Q (!c) H1) I h)
noncomputable def xM9 (ta tb:TE):TE:=fun σ H Q=>ta σ H fun x H1=>∃c,x = .bl c /\ if c=true then tb σ H1 Q else Q (.bl false) H1
noncomputable def tOrV (ta tb:TE):TE:=fun σ H Q=>ta σ H fun x H1=>∃c,x = .bl c /\ if c=true then Q (.bl true) H1 else tb σ H1 Q
noncomputable def xM8 (ta:TE):TE:=fun σ H Q=>ta σ H fun x H1=>∃c,x = .bl c /\ Q (.bl (!c)) H1
theorem Ο {op}{t:TE}(h:PE X a t):PE X (.BoolOp op [a] pos) t:=fun pins s σ H Q I hw=>BoolOp_one (h pins s σ H Q I hw)
theorem Τ (ha:PE X a ta)(hb:PE X (.BoolOp .And (b::rest) pos) tb):PE X (.BoolOp .And (a::b::rest) pos) (xM9 ta tb):=by
 intro pins s σ H Q I h;refine BoolOp_and (thn (ha pins s σ H _ I h) fun v s1 ⟨x,H1,I1,r1,q1⟩=>?_);obtain⟨c,rfl,q1⟩:=q1;cases r1;refine wpAny_truthy_bool ?_;cases c with
 | true=>exact hb pins s1 σ H1 Q I1 q1
 | false=>exact⟨.bl false,H1,I1,rfl,q1⟩
theorem xH4 (ha:PE X a ta)(hb:PE X (.BoolOp .Or (b::rest) pos) tb):PE X (.BoolOp .Or (a::b::rest) pos) (tOrV ta tb):=by
 intro pins s σ H Q I h;refine BoolOp_or (thn (ha pins s σ H _ I h) fun v s1 ⟨x,H1,I1,r1,q1⟩=>?_);obtain⟨c,rfl,q1⟩:=q1;cases r1;refine wpAny_truthy_bool ?_;cases c with
 | false=>exact hb pins s1 σ H1 Q I1 q1
 | true=>exact⟨.bl true,H1,I1,rfl,q1⟩
theorem yE7 (ha:PE X a ta):PE X (.UnaryOp .Not a pos) (xM8 ta):=by
 intro pins s σ H Q I h;refine UnaryOp_ (thn (ha pins s σ H _ I h) fun v s1 ⟨x,H1,I1,r1,q1⟩=>?_);obtain⟨c,rfl,q1⟩:=q1;cases r1;exact not_of (wpAny_truthy_bool ⟨.bl (!c),H1,I1,rfl,q1⟩)
noncomputable def tIf (t:TT)(ta tb:TE):TE:=fun σ H Q=>t σ H fun c H1=>if c=true then ta σ H1 Q else tb σ H1 Q
theorem yS8 {c:Expr}(hc:PT X c tA)(ha:PE X a ta)(hb:PE X b tb):PE X (.IfExp c a b pos) (tIf tA ta tb):=by
 intro pins s σ H Q I h;refine wpAny_IfExp (thn (hc pins s σ H _ I h) fun d s1 ⟨H1,I1,q1⟩=>?_);cases d with
 | true=>exact ha pins s1 σ H1 Q I1 q1
 | false=>exact hb pins s1 σ H1 Q I1 q1
end
noncomputable def SqL (K:Ā)(H:Hp)(a:Addr)(xs:List V):Prop :=
 Rd H a (.lst xs) \/
  ∃(o:Obj) (its:Array Value) (n:Nat),K.lookup a=some o /\ o.cls = .type "list" /\ o.dict=none /\ o.data = .seq its n /\ its.size<=sizeLine /\ Vals xs its.toList
noncomputable def SqT (K:Ā)(H:Hp)(a:Addr)(xs:List V):Prop :=
 Rd H a (.tup xs) \/
  ∃(o:Obj) (its:Array Value) (n:Nat),K.lookup a=some o /\ o.cls = .type "tuple" /\ o.data = .seq its n /\ its.size<=sizeLine /\ Vals xs its.toList
noncomputable def absV:Value->Option V
 | .none=>some .non
 | .bool b=>some (.bl b)
 | .int i _=>some (.int i)
 | .str x _=>some (.str x)
 | .bytes b _=>some (.byt b)
 | .float b _=>some (.flt b)
 | .ref a=>some (.ref a)
 | .type n=>some (.ty n)
 | _=>none
theorem RelV.abs {x:V}{u:Value}(r:RelV x u):absV u=some x:=by
 cases x with
 | non=>cases r;rfl
 | bl _=>cases r;rfl
 | int _=>obtain⟨t,rfl⟩:=r;rfl
 | str _=>obtain⟨t,rfl⟩:=r;rfl
 | byt _=>obtain⟨t,rfl⟩:=r;rfl
 | flt _=>obtain⟨t,rfl⟩:=r;rfl
 | ref _=>cases r;rfl
 | ty _=>cases r;rfl
theorem RelV.inj {x y:V}{u:Value}(r:RelV x u)(q:RelV y u):x=y:=Option.some.inj (r.abs.symm.trans q.abs)
theorem Vals.inj:∀{xs ys:List V} {us:List Value},Vals xs us->Vals ys us->xs=ys
 | _,_,_,.nil,.nil=>rfl
 | _,_,_,.cons r t,.cons r' t'=>by rw[r.inj r',Vals.inj t t']
section
variable {X:Cx}{pins:List (Addr×Obj)}{σ:St}{H:Hp}{s:Shared}{a:Addr}{xs ys:List V}
theorem SqL.of {K:Ā}(h:H a=some (.lst xs)):SqL K H a xs:=.inl (.inl h)
theorem SqT.of {K:Ā}(h:H a=some (.tup xs)):SqT K H a xs:=.inl (.inl h)
theorem Inv.list (I:Inv X pins σ H s)(h:SqL X.K H a xs):∃its:List Value,Vals xs its /\ PlainL s.heap a its.toArray /\ xs.length<=sizeLine:=by
 rcases h with h | ⟨o,its,n,hk,hc,hd,hs,hz,r⟩
 ·obtain⟨z,its,n,r,e⟩:=h.ok I.hok;exact⟨its,r,⟨_,n,e,rfl,rfl,rfl⟩,z⟩
 ·refine⟨its.toList,r,⟨o,n,I.kIn a o hk,hc,hd,by simpa using hs⟩,?_⟩;have e:=r.length;simp only[Array.length_toList]at e;lia
theorem Inv.tuple (I:Inv X pins σ H s)(h:SqT X.K H a xs):∃its:List Value,Vals xs its /\ IsTup s.heap a its.toArray /\ xs.length<=sizeLine:=by
 rcases h with h | ⟨o,its,n,hk,hc,hs,hz,r⟩
 ·obtain⟨z,its,r,p⟩:=h.ok I.hok;exact⟨its,r,p,z⟩
 ·refine⟨its.toList,r,⟨o,I.kIn a o hk,hc,n,by simpa using hs⟩,?_⟩;have e:=r.length;simp only[Array.length_toList]at e;lia
theorem Inv.list_inj (I:Inv X pins σ H s)(h:SqL X.K H a xs)(h':SqL X.K H a ys):xs=ys:=by
 obtain⟨its,r,⟨o,n,e,_,_,d⟩,_⟩:=I.list h;obtain⟨its',r',⟨o',n',e',_,_,d'⟩,_⟩:=I.list h';rw[e]at e';cases e';rw[d]at d';injection d' with d1 _;have:its=its':=by simpa using congrArg Array.toList d1
 subst this;exact r.inj r'
end
noncomputable abbrev Cx.wish (X:Cx)(E:Value->Shared->Prop):Cx:={ X with xe:=E }
noncomputable abbrev Cx.nox (X:Cx):Cx:=X.wish fun _ _=>False
theorem Cx.Ok.wish {X:Cx}(ok:X.Ok)(E:Value->Shared->Prop):(X.wish E).Ok :=
 ⟨ok.mod,ok.kind,ok.glob,ok.blt,ok.above,ok.inj,ok.has,ok.cab,ok.hd,ok.frames,ok.stk,ok.exf,ok.bs,ok.bsz,ok.noex,ok.exfs,ok.funs,ok.frf⟩
theorem Cx.Ok.unwish {X:Cx}{E:Value->Shared->Prop}(ok:(X.wish E).Ok):X.Ok :=
 ⟨ok.mod,ok.kind,ok.glob,ok.blt,ok.above,ok.inj,ok.has,ok.cab,ok.hd,ok.frames,ok.stk,ok.exf,ok.bs,ok.bsz,ok.noex,ok.exfs,ok.funs,ok.frf⟩
section
variable {X:Cx}{pins:List (Addr×Obj)}{σ:St}{H:Hp}{s:Shared}{E:Value->Shared->Prop}
theorem Inv.wish (I:Inv X pins σ H s)(E:Value->Shared->Prop):Inv (X.wish E) pins σ H s:=⟨I.ok.wish E,I.os,I.bare,I.base,I.loc,I.cell,I.free,I.freeC,I.pin,I.hok,I.len⟩
theorem Inv.unwish (I:Inv (X.wish E) pins σ H s):Inv X pins σ H s:=⟨I.ok.unwish,I.os,I.bare,I.base,I.loc,I.cell,I.free,I.freeC,I.pin,I.hok,I.len⟩
theorem SP.unwish {D:Ends}{f:Flow}{s':Shared}(h:SP (X.wish E) pins D f s'):SP X pins D f s':=by
 cases f with
 | next=>obtain⟨σ',H',I,q⟩:=h;exact⟨σ',H',I.unwish,q⟩
 | brk=>obtain⟨σ',H',I,q⟩:=h;exact⟨σ',H',I.unwish,q⟩
 | cont=>obtain⟨σ',H',I,q⟩:=h;exact⟨σ',H',I.unwish,q⟩
 | ret u=>obtain⟨v,σ',H',I,r,q⟩:=h;exact⟨v,σ',H',I.unwish,r,q⟩
theorem PSs.nox {st:List Stmt}{t:TS}(h:PSs X.nox st t):PSs X st t:=fun pins s σ H D I hw =>
 wpAny_mono (h pins s σ H D (I.wish _) hw) (fun _ _ q=>q.unwish) fun _ _ z=>False.elim z
end
section
variable {X:Cx}{st:Stmt}{rest:List Stmt}{t u:TS}{e:Expr}{te:TE}{pos:Pos}
noncomputable def yZ6:TS:=fun D σ H=>D.nx σ H
noncomputable def tSeq (t u:TS):TS:=fun D σ H=>t { D with nx:=u D } σ H
theorem Ó:PSs X [] yZ6:=fun _ _ σ H _ I h=>wpAny_execs_nil ⟨σ,H,I,h⟩
theorem Ä (h1:PS X st t)(h2:PSs X rest u):PSs X (st::rest) (tSeq t u):=by
 intro pins s σ H D I h;refine wpAny_execs_cons (thn (h1 pins s σ H { D with nx:=u D } I h) fun f s1 q=>?_);cases f with
 | next =>
  obtain⟨σ',H',I',q⟩:=q;exact h2 pins s1 σ' H' D I' q
 | ret v=>exact q
 | brk=>exact q
 | cont=>exact q
theorem Å (h1:PS X st t):PSs X [st] t:=by
 intro pins s σ H D I h;refine wpAny_execs_cons (thn (h1 pins s σ H D I h) fun f s1 q=>?_);cases f with
 | next=>exact wpAny_execs_nil q
 | ret v=>exact q
 | brk=>exact q
 | cont=>exact q
theorem Inv.quiet {pins:List (Addr×Obj)}{σ:St}{H:Hp}{s:Shared}(I:Inv X pins σ H s):interactive X.env=false:=by simp[interactive,I.ok.kind]
noncomputable def xE9 (te:TE):TS:=fun D σ H=>te σ H fun _ H1=>D.nx σ H1
theorem Ű (he:PE X e te)(hs:swapsWith e none pos.line X.env=pure false:=by rfl):PS X (.Expr e pos) (xE9 te):=by
 intro pins s σ H D I h;exact wpAny_Expr_any (thn (he pins s σ H _ I h) fun v s1 ⟨x,H1,I1,r1,q1⟩=>⟨σ,H1,I1,q1⟩) I.quiet hs
noncomputable def tRet (te:TE):TS:=fun D σ H=>te σ H D.rt
theorem É (he:PE X e te):PS X (.Return (some e) pos) (tRet te):=by
 intro pins s σ H D I h;exact wpAny_Return_some (thn (he pins s σ H _ I h) fun v s1 ⟨x,H1,I1,r1,q1⟩=>⟨x,σ,H1,I1,r1,q1⟩)
noncomputable def tIfS (c:TT)(t u:TS):TS:=fun D σ H=>c σ H fun b H1=>if b=true then t D σ H1 else u D σ H1
theorem á {c:Expr}{a b:List Stmt}{tc:TT}(hc:PT X c tc)(ha:PSs X a t)(hb:PSs X b u):PS X (.If c a b pos) (tIfS tc t u):=by
 intro pins s σ H D I h;refine wpAny_If (thn (hc pins s σ H _ I h) fun d s1 ⟨H1,I1,q1⟩=>?_);cases d with
 | true=>exact ha pins s1 σ H1 D I1 q1
 | false=>exact hb pins s1 σ H1 D I1 q1
end
noncomputable abbrev TG:=V->St->Hp->(St->Hp->Prop)->Prop
noncomputable abbrev TGs:=List V->St->Hp->(St->Hp->Prop)->Prop
noncomputable def PG (X:Cx)(target:Expr)(t:TG):Prop :=
 ∀(pins:List (Addr×Obj)) (s:Shared) (σ:St) (H:Hp) (v:V) (u:Value) (Q:St->Hp->Prop),Inv X pins σ H s->RelV v u->t v σ H Q ->
  wpAny (model X.prog X.w) X.A (assign target X.env u) (fun _ s'=>∃σ' H',Inv X pins σ' H' s' /\ Q σ' H') X.xe s
noncomputable def PGs (X:Cx)(ts:List Expr)(t:TGs):Prop :=
 ∀(pins:List (Addr×Obj)) (s:Shared) (σ:St) (H:Hp) (vs:List V) (us:List Value) (Q:St->Hp->Prop),Inv X pins σ H s->Vals vs us->t vs σ H Q ->
  wpAny (model X.prog X.w) X.A (assignInOrder ((assignEach ts X.env).map (·.2)) us) (fun _ s'=>∃σ' H',Inv X pins σ' H' s' /\ Q σ' H') X.xe s
noncomputable abbrev TSet:=V->V->V->Hp->(Hp->Prop)->Prop
noncomputable def PSet (X:Cx)(t:TSet):Prop :=
 ∀(pins:List (Addr×Obj)) (s:Shared) (σ:St) (H:Hp) (o i v:V) (ov iv u:Value) (Q:Hp->Prop),Inv X pins σ H s->RelV o ov->RelV i iv->RelV v u->t o i v H Q ->
  wpAny (model X.prog X.w) X.A (setItem ov iv u) (fun _ s'=>∃H',Inv X pins σ H' s' /\ Q H') X.xe s
section
variable {X:Cx}{pos:Pos}
noncomputable def yN9 (i:Nat):TG:=fun v σ H Q=>Q (σ.set i (some v)) H
theorem Ì {i:Nat}{x:Str}(hN:X.N.Nodup)(hi:X.N[i]?=some x)(hx:Loc X.env.scope x)(hf:X.fn x=true \/ X.env.scope.names.lookup x=some .local:=by first | exact .inl rfl | exact .inr rfl | assumption):PG X (.Name x pos) (yN9 i):=by
 intro pins s σ H v u Q I r h;exact wpAny_assign_Name (zL7 I hN hi hx r (fun s' I'=>⟨_,H,I',h⟩) hf)
noncomputable def gNil:TGs:=fun vs σ H Q=>vs=[] /\ Q σ H
noncomputable def xO2 (t:TG)(u:TGs):TGs:=fun vs σ H Q=>∃v r,vs=v::r /\ t v σ H fun σ' H'=>u r σ' H' Q
theorem ë:PGs X [] gNil:=by
 intro pins s σ H vs us Q I r h;obtain⟨e,h⟩:=h;subst e;cases r;exact assignInOrder_nil ⟨σ,H,I,h⟩
theorem Ñ {e:Expr}{es:List Expr}{t:TG}{u:TGs}(h1:PG X e t)(h2:PGs X es u)
  (hs:(assignEach (e::es) X.env).map (·.2)=assign e X.env::(assignEach es X.env).map (·.2):=by rfl):PGs X (e::es) (xO2 t u):=by
 intro pins s σ H vs us Q I r h;obtain⟨v,vr,e1,h⟩:=h;subst e1;cases r with
 | cons r rr =>
  rw[hs];refine assignInOrder_cons (thn (h1 pins s σ H _ _ _ I r h) fun _ s1 ⟨σ1,H1,I1,q1⟩=>?_);exact h2 pins s1 σ1 H1 _ _ Q I1 rr q1
noncomputable def gTup (K:Ā)(n:Nat)(t:TGs):TG:=fun v σ H Q=>∃a xs,v = .ref a /\ SqT K H a xs /\ xs.length=n /\ t xs σ H Q
theorem xH1 {es:List Expr}{k:Nat}{t:TGs}{n:Nat}(hc:X.calm=true)(h:PGs X es t)
  (hn:(assignEach es X.env).length=n:=by rfl)(hst:(assignEach es X.env).findIdx? (·.1)=none:=by rfl):PG X (.Tuple es k pos) (gTup X.K n t):=by
 intro pins s σ H v u Q I r hw;obtain⟨a,xs,e1,hq,hl,hw⟩:=hw;subst e1;cases r;obtain⟨its,rv,ht,hz⟩:=I.tuple hq;refine assign_Tuple_tuple (I.ok.hd hc) ht (by simp[hn,<- hl,rv.length]) hst fun h' hx=>?_;have I1:Inv X pins σ H { s with heap:=h' }:=I.kept (t':=s.toks) fun b o e=>hx b o (Ķ (ċ e)) e;exact h pins _ σ H xs _ Q I1 (by simpa using rv) hw
noncomputable def gSub (to ti:TE)(t:TSet):TG:=fun v σ H Q=>to σ H fun o H1=>ti σ H1 fun i H2=>t o i v H2 fun H3=>Q σ H3
theorem ξ {o i:Expr}{to ti:TE}{t:TSet}(ho:PE X o to)(hi:PE X i ti)(hs:PSet X t)
  (ha:∀v,assign (.Subscript o i pos) X.env v=(do
   let ov <- holding [v] (eval o X.env);let iv <- holding [v,ov] (eval i X.env)
   standAt pos
   holding [v,ov,iv] (setItem ov iv v)
   release [v,ov,iv] []):=by intro _;rfl):PG X (.Subscript o i pos) (gSub to ti t):=by
 intro pins s σ H v u Q I r h;rw[ha];refine wpAny_bind (wpAny_holding (thn (ho pins s σ H _ I h) fun ov s1 ⟨x,H1,I1,r1,q1⟩=>?_));refine wpAny_bind (wpAny_holding (thn (hi pins s1 σ H1 _ I1 q1) fun iv s2 ⟨y,H2,I2,r2,q2⟩=>?_));refine wpAny_bind (wpAny_standAt (wpAny_bind (wpAny_holding (thn (hs pins s2 σ H2 x y v ov iv u _ I2 r1 r2 r q2) fun _ s3 ⟨H3,I3,q3⟩=>?_))));exact wpAny_release ⟨σ,H3,I3,q3⟩
noncomputable def tAsg (te:TE)(g:TG):TS:=fun D σ H=>te σ H fun x H1=>g x σ H1 D.nx
theorem Ν {tg e:Expr}{te:TE}{g:TG}(he:PE X e te)(hg:PG X tg g)(hs:swapsWithSole [tg] e pos.line X.env=pure false:=by rfl)(hw:swappedStores [tg] e X.env=pure none:=by rfl)
  (h1:(assignEach [tg] X.env).map (·.2)=[assign tg X.env]:=by rfl):PS X (.Assign [tg] e pos) (tAsg te g):=by
 intro pins s σ H D I h;refine wpAny_Assign_stores (thn (he pins s σ H _ I h) fun v s1 ⟨x,H1,I1,r1,q1⟩=>?_) hs hw;rw[h1];exact thn (hg pins s1 σ H1 x v _ I1 r1 q1) fun _ s2 q=>q
theorem Í {i:Nat}{x:Str}{e:Expr}{te:TE}{pos':Pos}(hN:X.N.Nodup)(hi:X.N[i]?=some x)(hx:Loc X.env.scope x)(he:PE X e te)(hs:swapsWith e (some (.Name x pos')) pos.line X.env=pure false:=by rfl)(hf:X.fn x=true \/ X.env.scope.names.lookup x=some .local:=by first | exact .inl rfl | exact .inr rfl | assumption) :
  PS X (.Assign [.Name x pos'] e pos) (tAsg te (yN9 i)):=by
 intro pins s σ H D I h;refine wpAny_Assign_Name (thn (he pins s σ H _ I h) fun v s1 ⟨y,H1,I1,r1,q1⟩=>?_) hs;exact zL7 I1 hN hi hx r1 (fun s2 I2=>⟨_,H1,I2,q1⟩) hf
noncomputable def tPar (i j:Nat)(ta:TA):TS:=fun D σ H=>ta σ H fun vs H1=>∃v w,vs=[v,w] /\ D.nx ((σ.set i (some v)).set j (some w)) H1
theorem xG7 {i j:Nat}{x y:Str}{a b:Expr}{ta:TA}{px py pt:Pos}{kt k2 pt2}(hc:X.calm=true)(hN:X.N.Nodup)(hi:X.N[i]?=some x)(hj:X.N[j]?=some y)(hij:i≠j)
  (hx:X.env.scope.names.lookup x=some .local)(hy:X.env.scope.names.lookup y=some .local)(ha:PA X [a,b] ta)
  (hw:swappedStores [.Tuple [.Name x px,.Name y py] kt pt] (.Tuple [a,b] k2 pt2) X.env=pure (some [x,y]))
  (hs:swapsWithSole [.Tuple [.Name x px,.Name y py] kt pt] (.Tuple [a,b] k2 pt2) pos.line X.env=pure false:=by rfl) :
  PS X (.Assign [.Tuple [.Name x px,.Name y py] kt pt] (.Tuple [a,b] k2 pt2) pos) (tPar i j ta):=by
 intro pins s σ H D I h;rw[exec_Assign_arm];refine wpAny_bind (wpAny_standAt ?_);rw[hs];refine wpAny_bind (wpAny_pure ?_);rw[if_neg (by decide)];refine wpAny_bind (Tuple_ (thn (ha _ pins s σ H _ I h) fun us s1 ⟨vs,H1,I1,r1,q1⟩=>?_));obtain⟨v,w,e1,q1⟩:=q1;subst e1;obtain⟨u1,u2,rfl,rv,rw'⟩:∃u1 u2,us=[u1,u2] /\ RelV v u1 /\ RelV w u2:=by
  cases r1 with
  | cons p q =>
   cases q with
   | cons p' q' =>
    cases q';exact⟨_,_,rfl,p,p'⟩
 refine wpAny_newObj_type ?_ (by show 2<=sizeLine;decide);have I2:Inv X pins σ H1 { s1 with heap:=s1.heap.push { cls:=.type "tuple",data:=.seq [u1,u2].toArray } }:=I1.kept (t':=s1.toks) fun b o e=>Č _ e;rw[hw];refine wpAny_bind (wpAny_pure ?_);show wpAny (model X.prog X.w) X.A (do rule "assign.swapped-stores";let items <- unpackItems (.ref s1.heap.objs.size) 2 none;assignInOrder [fun v=>bindName X.env y v,fun v=>bindName X.env x v] items.reverse;pure Flow.next) _ _ _;refine wpAny_bind (wpAny_rule (wpAny_bind (unpackItems_tuple (items:=#[u1,u2]) (I.ok.hd hc) (IsTup.new s1.heap _) fun h' hx'=>?_)));have I3:=I2.kept (h':=h') (t':=s1.toks) fun b o e=>hx' b o (Ķ (ċ e)) e;show wpAny _ _ (assignInOrder [fun v=>bindName X.env y v,fun v=>bindName X.env x v] [u2,u1] >>= fun _=>pure Flow.next) _ _ _;refine wpAny_bind (assignInOrder_cons (wpAny_bindName (zL7 I3 hN hj (.inl hy) rw' (fun s2 I4=>?_) (.inr hy))));refine assignInOrder_cons (wpAny_bindName (zL7 I4 hN hi (.inl hx) rv (fun s3 I5=>assignInOrder_nil (wpAny_pure ?_)) (.inr hx)));rw[List.set_comm _ _ (Ne.symm hij)]at I5;exact⟨_,H1,I5,q1⟩
end
section
variable {X:Cx}{pos:Pos}
noncomputable def yW0 (c:TT)(tb:TS):TS:=fun D σ H=>∃W:Nat->St->Hp->Prop,(∃m,W m σ H) /\ ∀m σ H,W m σ H ->
 c σ H fun b H1=>if b=true then ∃N:St->Hp->Prop,(∀σ' H',N σ' H'->∃m',m'<m /\ W m' σ' H') /\ tb { D with nx:=N,ct:=N,bk:=D.nx } σ H1 else D.nx σ H1
theorem zR9 {c:Expr}{body:List Stmt}{tc:TT}{tb:TS}(hp:PassesOwn (model X.prog X.w) X.A X.env X.xe)(hc:PT X c tc)(hb:PSs X body tb):PS X (.While c body [] pos) (yW0 tc tb):=by
 intro pins s σ H D I h;obtain⟨W,⟨m0,w0⟩,turn⟩:=h;refine wpAny_While (codeAny_whileLoop (fun n s'=>∃σ' H',Inv X pins σ' H' s' /\ W n σ' H') ?_ m0 ⟨σ,H,I,w0⟩);rintro n s1 ⟨σ1,H1,I1,w1⟩;refine wpAny_passesOwn hp (thn (hc pins s1 σ1 H1 _ I1 (turn n σ1 H1 w1)) fun b s2 ⟨H2,I2,q2⟩=>?_);cases b with
 | true =>
  obtain⟨N,hN,q2⟩:=q2;rw[if_pos rfl];refine wpAny_passesOwn hp (thn (hb pins s2 σ1 H2 _ I2 q2) fun f s3 q3=>?_);cases f with
  | next =>
   obtain⟨σ3,H3,I3,n3⟩:=q3;obtain⟨m',hm,w3⟩:=hN σ3 H3 n3;exact⟨m',hm,σ3,H3,I3,w3⟩
  | cont =>
   obtain⟨σ3,H3,I3,n3⟩:=q3;obtain⟨m',hm,w3⟩:=hN σ3 H3 n3;exact⟨m',hm,σ3,H3,I3,w3⟩
  | brk=>exact q3
  | ret v=>exact q3
 | false =>
  rw[if_neg Ď];exact wpAny_execs_nil ⟨σ1,H2,I2,q2⟩
end
set_option genInjectivity false in
structure It where
 go:Nat->Hp->Prop
 yld:Nat->Hp->V->Hp->Prop
 stop:Nat->Hp->Prop
noncomputable def FpOk (X:Cx)(pins:List (Addr×Obj))(H:Hp)(b:Addr):Prop :=
 H b=none /\ b≠X.env.locals /\ b∉X.fs /\ (b∈X.ex \/ X.s₀.heap.objs.size<=b) /\ (∀x c,X.env.cells.lookup x=some c->c≠b) /\ ∀p∈X.pn++pins,p.1≠b
theorem Inv.fpOk {X:Cx}{pins:List (Addr×Obj)}{σ:St}{H H':Hp}{s:Shared}{b:Addr}(I:Inv X pins σ H s)(hb:s.heap.objs.size<=b)(hn:H' b=none):FpOk X pins H' b:=by
 refine⟨hn,ŧ (Ă I.lt hb),I.nofs hb,.inr (ĉ I.sz hb),fun x c e z=>?_,fun p hp z=>?_⟩
 ·obtain⟨v,q⟩:=I.cell x c e;exact absurd (Ă q.lt (by rw[z];exact hb)) (ĸ _)
 ·exact absurd (Ă (ċ (I.pin p hp).1) (by rw[z];exact hb)) (ĸ _)
structure Turn (P:Program)(w:World)(K:Ā)(tg:Expr)(J:It)(fp:List Addr)(it:Addr)(tn:Nat->Heap->Prop):Prop where
 mem:it∈fp
 obj:∀i h,tn i h->∀b∈fp,∃o,h.get? b=some o /\ ∀v,o.data ≠ .cell v
 keep:∀i h h',tn i h->(∀b∈fp,∀o,h.get? b=some o->h'.get? b=some o)->tn i h'
 item:∀(X:Cx),X.prog=P->X.w=w->X.K=K->X.calm=true->∀(i:Nat) (pins:List (Addr×Obj)) (s:Shared) (σ:St) (H:Hp) (E:Value->Shared->Prop),Inv X pins σ H s->(∀b∈fp,FpOk X pins H b)->tn i s.heap->J.go i H ->
  wpAny (model P w) X.A (pyNext (.ref it)) (fun r s1=>∃u,r=some u /\
   wpAny (model P w) X.A (letOwnedTupleGo tg (.ref it) u) (fun _ s2=>∃x H',Inv X pins σ H' s2 /\ RelV x u /\ J.yld i H x H' /\ tn (i+1) s2.heap /\ ∀b∈fp,H' b=none) E s1) E s
 done:∀(X:Cx),X.prog=P->X.w=w->X.K=K->X.calm=true->∀(i:Nat) (pins:List (Addr×Obj)) (s:Shared) (σ:St) (H:Hp) (E:Value->Shared->Prop),Inv X pins σ H s->(∀b∈fp,FpOk X pins H b)->tn i s.heap->J.stop i H ->
  wpAny (model P w) X.A (pyNext (.ref it)) (fun r s1=>r=none /\ Inv X pins σ H s1) E s
 self:∀(A:Around) (i:Nat) (s:Shared) (Q:Value->Shared->Prop) (E:Value->Shared->Prop),tn i s.heap->Q (.ref it) s->wpAny (model P w) A (pyIter (.ref it)) Q E s
noncomputable abbrev TI:=St->Hp->(It->Hp->Prop)->Prop
noncomputable def PIE (X:Cx)(pins:List (Addr×Obj))(σ:St)(tg:Expr)(R:It->Hp->Prop)(itv:Value)(s2:Shared):Prop :=
 ∃(it:Addr) (fp:List Addr) (tn:Nat->Heap->Prop) (J:It) (H':Hp),itv = .ref it /\ Inv X pins σ H' s2 /\ Turn X.prog X.w X.K tg J fp it tn /\ tn 0 s2.heap /\ (∀b∈fp,FpOk X pins H' b) /\ R J H'
noncomputable def PI (X:Cx)(tg iter:Expr)(wi:TI):Prop :=
 ∀(pins:List (Addr×Obj)) (s:Shared) (σ:St) (H:Hp) (R:It->Hp->Prop),Inv X pins σ H s->wi σ H R ->
  wpAny (model X.prog X.w) X.A (eval iter X.env) (fun v s1=>wpAny (model X.prog X.w) X.A (pyIter v) (PIE X pins σ tg R) X.xe s1) X.xe s
theorem xD3 {M:Model}{A:Around}{E:Value->Shared->Prop}{s:Shared}{tg:Expr}{it:Addr}{u:Value}{o:Obj}{n:String}{vs:Array Value}{Q:Unit->Shared->Prop}(ho:s.heap.get? it=some o)(hc:o.cls = .type n)(hd:o.data = .fields vs)
    (hn:["enumerate","zip","dict_itemiterator","dict_reverseitemiterator","odict_iterator","itertools.zip_longest","itertools.pairwise"].contains n=false)(hQ:Q () s):wpAny M A (letOwnedTupleGo tg (.ref it) u) Q E s:=by
  unfold letOwnedTupleGo;cases tg<;>first
    | exact wpAny_pure hQ
    | (cases u<;>first
        | exact wpAny_pure hQ
        | (refine wpAny_bind (wpAny_load ho ?_)
           rw[hc,hd];show wpAny M A (if (["enumerate","zip","dict_itemiterator","dict_reverseitemiterator","odict_iterator","itertools.zip_longest","itertools.pairwise"].contains n&&vs[0]?==some (rawInt _))=true then _ else _) Q E s;rw[if_neg (by intro h;rw[hn,Bool.false_and]at h;cases h)];exact wpAny_pure hQ))
noncomputable def Itl (K:Ā)(a:Addr):It :=
 ⟨fun i H=>∃xs x,SqL K H a xs /\ xs[i]?=some x,fun i H x H'=>H'=H /\ ∀xs,SqL K H a xs->xs[i]?=some x,fun i H=>∃xs,SqL K H a xs /\ xs.length<=i⟩
noncomputable def Itr (lo:Int)(n:Nat):It:=⟨fun i _=>i<n,fun i H x H'=>H'=H /\ x = .int (lo+i),fun i _=>n<=i⟩
theorem yI8 {P:Program}{w:World}{K:Ā}{tg:Expr}(a it:Addr):Turn P w K tg (Itl K a) [it] it (fun i h=>h.IsListIter it a i) where
 mem:=by simp
 obj:=fun i h st b hb=>by
  have e:b=it:=by simpa using hb
  subst e;obtain⟨o,e,c,d⟩:=st;exact⟨o,e,fun v z=>by rw[d]at z;cases z⟩
 keep:=fun i h h' st k=>st.at fun o e=>k it (by simp) o e
 item:=by
  intro X hP hw hK hc i pins s σ H E I hf st hg;subst hP hw hK;obtain⟨xs,x,hq,hx⟩:=hg;obtain⟨its,rv,p,hz⟩:=I.list hq;obtain⟨u,hu,ru⟩:=rv.get hx;obtain⟨f0,f1,f2,f3,f4,f5⟩:=hf it (by simp);refine wpAny_pyNext_list_item st p.isList (x:=u) (by simpa using hu) fun h' st' sb=>?_;have I1:Inv X pins σ H { s with heap:=h' }:=I.turned (t':=s.toks) (fun b o hb e=>(sb.2 b hb).trans e) f0 f1 f3 f4 f5;obtain⟨o,e,c,d⟩:=id st';exact⟨u,rfl,xD3 (s:={ s with heap:=h' }) e c d (by decide) ⟨x,H,I1,ru,⟨rfl,fun ys hy=>by rw[I.list_inj hy hq];exact hx⟩,st',fun b hb=>(hf b hb).1⟩⟩
 done:=by
  intro X hP hw hK hc i pins s σ H E I hf st hg;subst hP hw hK;obtain⟨xs,hq,hx⟩:=hg;obtain⟨its,rv,p,hz⟩:=I.list hq;obtain⟨f0,f1,f2,f3,f4,f5⟩:=hf it (by simp);have hl:=rv.length;exact wpAny_pyNext_list_end (I.ok.hd hc) st p.isList (by simp;lia) fun h' eb=>⟨rfl,I.turned (t':=s.toks) (fun b o hb e=>eb b o hb e) f0 f1 f3 f4 f5⟩
 self:=fun _ _ _ _ _ st h=>wpAny_pyIter_listiter st h
theorem yG5 {P:Program}{w:World}{K:Ā}{tg:Expr}(it:Addr)(lo:Int)(n:Nat):Turn P w K tg (Itr lo n) [it] it (fun i h=>IsRangeIter h it (lo+(i:Nat)*1) ((n:Int) - (i:Nat)) 1) where
 mem:=by simp
 obj:=fun i h st b hb=>by
  have e:b=it:=by simpa using hb
  subst e;exact⟨_,st,fun v z=>by
   have z':Data.fields _=Data.cell v:=z;cases z'⟩
 keep:=fun i h h' st k=>k it (by simp) _ st
 item:=by
  intro X hP hw hK hc i pins s σ H E I hf st hg;subst hP hw hK;obtain⟨f0,f1,f2,f3,f4,f5⟩:=hf it (by simp);have W:=Walks.range (prog:=X.prog) (w:=X.w) (I.ok.hd hc) it lo 1 n;refine W.item i s _ _ hg st fun v h' tk hv st' kk=>?_;obtain⟨t,rfl⟩:=hv;have I1:Inv X pins σ H { s with heap:=h',toks:=tk }:=I.turned (fun b o hb e=>kk b o (by simpa using hb) e) f0 f1 f3 f4 f5;refine⟨_,rfl,xD3 (s:={ s with heap:=h',toks:=tk }) (n:="range_iterator") st' rfl rfl (by decide) ⟨.int (lo+i),H,I1,⟨t,?_⟩,⟨rfl,rfl⟩,st',fun b hb=>(hf b hb).1⟩⟩;rw[Int.mul_one]
 done:=by
  intro X hP hw hK hc i pins s σ H E I hf st hg;subst hP hw hK;obtain⟨f0,f1,f2,f3,f4,f5⟩:=hf it (by simp);exact wpAny_pyNext_range_end (I.ok.hd hc) st (by have:n<=i:=hg;lia) fun h' eb=>⟨rfl,I.turned (t':=s.toks) (fun b o hb e=>eb b o hb e) f0 f1 f3 f4 f5⟩
 self:=fun _ _ _ _ _ st h=>wpAny_pyIter_rangeiter st h
section
variable {X:Cx}{tg:Expr}
noncomputable def xJ9 (K:Ā)(tl:TE):TI:=fun σ H R=>tl σ H fun x H1=>∃a,x = .ref a /\ (∃xs,SqL K H1 a xs) /\ R (Itl K a) H1
theorem xB5 {l:Expr}{tl:TE}(hl:PE X l tl):PI X tg l (xJ9 X.K tl):=by
 intro pins s σ H R I h;refine thn (hl pins s σ H _ I h) fun v s1 ⟨x,H1,I1,r1,q1⟩=>?_;obtain⟨a,e,⟨xs,hq⟩,q⟩:=q1;subst e;cases r1;obtain⟨its,rv,p,hz⟩:=I1.list hq;refine wpAny_pyIter_list p.isList ?_;refine⟨s1.heap.objs.size,[s1.heap.objs.size],_,_,H1,rfl,I1.kept (t':=s1.toks) fun b o e=>Č _ e,yI8 a _,⟨_,ě _ rfl,rfl,rfl⟩,fun b hb=>?_,q⟩;have e:b=s1.heap.objs.size:=by simpa using hb
 subst e;exact I1.fpOk (Ć _) (I1.hok.fresh (Ć _))
theorem yS5 {pins:List (Addr×Obj)}{σ:St}{H:Hp}{s:Shared}{R:It->Hp->Prop}{E:Value->Shared->Prop}{lo hi:Int}{t u v:Tok}{tk:Nat}(I:Inv X pins σ H s)(h1:-(2^62)<=lo)(h2:lo<2^62)(h3:-(2^62)<=hi)(h4:hi<2^62)
  (q:R (Itr lo (hi - lo).toNat) H):wpAny (model X.prog X.w) X.A (pyIter (.ref s.heap.objs.size)) (PIE X pins σ tg R) E { s with heap:=s.heap.push { cls:=.type "range",data:=.fields #[.int lo t,.int hi u,.int 1 v] },toks:=tk }:=by
 refine wpAny_pyIter_range (IsRange.new ..) (small_one h1 h2 h3 h4) ?_;have I1:Inv X pins σ H { s with heap:=s.heap.push { cls:=.type "range",data:=.fields #[.int lo t,.int hi u,.int 1 v] },toks:=tk }:=I.kept fun b o e=>Č _ e;refine⟨(s.heap.push { cls:=.type "range",data:=.fields #[.int lo t,.int hi u,.int 1 v] }).objs.size,[(s.heap.push { cls:=.type "range",data:=.fields #[.int lo t,.int hi u,.int 1 v] }).objs.size],_,_,H,rfl,
  I1.kept (t':=tk) fun b o e=>Č _ e,yG5 _ lo (hi - lo).toNat,?_,fun b hb=>?_,q⟩
 ·have e1:lo+((0:Nat):Int)*1=lo:=by simp
  have e2:(((hi - lo).toNat:Nat):Int) - ((0:Nat):Int)=Builtin.Range.rangeSize lo hi 1:=by rw[rangeSize_one];split<;>lia
  show IsRangeIter _ _ (lo+((0:Nat):Int)*1) ((((hi - lo).toNat:Nat):Int) - ((0:Nat):Int)) 1;rw[e1,e2];exact ě _ rfl
 ·have e:b=(s.heap.push { cls:=.type "range",data:=.fields #[.int lo t,.int hi u,.int 1 v] }).objs.size:=by simpa using hb
  subst e;exact I1.fpOk (Ć _) (I1.hok.fresh (Ć _))
noncomputable def xN9 (ta:TA):TI:=fun σ H R=>ta σ H fun vs H1=>∃j:Int,vs=[.int j] /\ -(2^62)<=j /\ j<2^62 /\ R (Itr 0 j.toNat) H1
theorem ź {a:Expr}{ta:TA}{p pos:Pos}(hg:Gl X "range")(hm:X.mg "range" = none)(ha:PA X [a] ta)(hs:starEach [a] X.env=[(false,eval a X.env)]:=by rfl):PI X tg (.Call (.Name "range" p) [a] [] pos) (xN9 ta):=by
 intro pins s σ H R I h;refine Call_ (π I hg hm boot_range (PyProof.Rows.callWith_type1 (thn (ha pos pins s σ H _ I h) fun us s1 ⟨vs,H1,I1,r1,q1⟩=>?_) hs rfl));obtain⟨j,e,q1,q2,q⟩:=q1;subst e;cases r1 with
 | cons r rr =>
  cases rr;obtain⟨t,rfl⟩:=r;exact call_range_1 (yS5 I1 (by lia) (by lia) q1 q2 (by simpa using q))
noncomputable def tFor (wi:TI)(g:TG)(tb:TS):TS:=fun D σ H=>wi σ H fun J H1=>∃W:Nat->Nat->St->Hp->Prop,(∃m,W 0 m σ H1) /\ ∀i m σ H,W i m σ H ->
 (J.stop i H /\ D.nx σ H) \/ (J.go i H /\ ∃N:St->Hp->Prop,(∀σ' H',N σ' H'->∃m',m'<m /\ W (i+1) m' σ' H') /\ ∀x H',J.yld i H x H'->g x σ H' fun σ2 H2=>tb { D with nx:=N,ct:=N,bk:=D.nx } σ2 H2)
noncomputable def zW6 (fp:List Addr)(h:Heap):List (Addr×Obj):=fp.filterMap fun b=>(h.get? b).map fun o=>(b,o)
theorem zG5 {fp:List Addr}{h:Heap}{b:Addr}{o:Obj}(hb:b∈fp)(e:h.get? b=some o):(b,o)∈zW6 fp h:=ū.mpr ⟨b,hb,by rw[e];rfl⟩
theorem yM0 {fp:List Addr}{h:Heap}{p:Addr×Obj}(hp:p∈zW6 fp h):p.1∈fp /\ h.get? p.1=some p.2:=by
 obtain⟨b,hb,e⟩:=ū.mp hp;cases q:h.get? b with
 | none=>rw[q]at e;cases e
 | some o =>
  rw[q]at e;have e':(b,o)=p:=Option.some.inj e;subst e';exact⟨hb,q⟩
theorem Inv.pinned {pins:List (Addr×Obj)}{σ:St}{H:Hp}{s:Shared}{fp:List Addr}(I:Inv X pins σ H s)(hf:∀b∈fp,FpOk X pins H b)(ho:∀b∈fp,∃o,s.heap.get? b=some o /\ ∀v,o.data ≠ .cell v):Inv X (pins++zW6 fp s.heap) σ H s :=
 I.pins_of fun p hp=>(ř.mp hp).elim (fun z=>I.pin p (Į _ z)) fun z=>by
  obtain⟨hb,e⟩:=yM0 z;obtain⟨f0,f1,f2,_⟩:=hf p.1 hb;obtain⟨o,e',d⟩:=ho p.1 hb;rw[e]at e';cases e';exact⟨e,f0,f1,f2,d⟩
theorem Inv.unpinned {pins pl:List (Addr×Obj)}{σ:St}{H:Hp}{s:Shared}(I:Inv X (pins++pl) σ H s):Inv X pins σ H s:=I.pins_of fun p hp=>I.pin p (Į _ (List.mem_append_left _ hp))
theorem ů {iter:Expr}{body:List Stmt}{wi:TI}{g:TG}{tb:TS}{pos:Pos}(hp:PassesOwn (model X.prog X.w) X.A X.env X.xe)(hc:X.calm=true)(hi:PI X tg iter wi)(hg:PG X tg g)(hb:PSs X body tb)
  (hs:∀x,foldedSetIterable iter X.env x=pure x:=by intro _;rfl):PS X (.For tg iter body [] pos) (tFor wi g tb):=by
 intro pins s σ H D I h;refine wpAny_For (thn (hi pins s σ H _ I h) fun v s1 h1=>thn h1 fun itv s2 h2=>?_) hs;obtain⟨it,fp,tn,J,H2,e,I2,T,st2,f2,W,⟨m0,w0⟩,turn⟩:=h2;subst e;have stat:∀{H':Hp},(∀b∈fp,H' b=none)->∀b∈fp,FpOk X pins H' b:=fun hn b hb=>⟨hn b hb,(f2 b hb).2⟩;refine codeAny_forLoop_any (fun n s'=>∃i σ' H',Inv X pins σ' H' s' /\ tn i s'.heap /\ (∀b∈fp,H' b=none) /\ W i n σ' H') ?_ m0 ⟨0,σ,H2,I2,st2,fun b hb=>(f2 b hb).1,w0⟩;rintro n s3 ⟨i,σ3,H3,I3,st3,fr3,w3⟩;rcases turn i n σ3 H3 w3 with⟨stop,qn⟩ | ⟨go,N,hN,step⟩
 ·refine wpAny_passesOwn hp (thn (T.done X rfl rfl rfl hc i pins s3 σ3 H3 X.xe I3 (stat fr3) st3 stop) fun r s4 ⟨hr,I4⟩=>?_);subst hr;exact wpAny_execs_nil ⟨σ3,H3,I4,qn⟩
 ·refine wpAny_passesOwn hp (thn (T.item X rfl rfl rfl hc i pins s3 σ3 H3 X.xe I3 (stat fr3) st3 go) fun r s4 ⟨u,hr,h4⟩=>?_);subst hr;refine wpAny_passesOwn hp (thn h4 fun _ s5 ⟨x,H5,I5,r5,y5,st5,fr5⟩=>?_);have I5':=I5.pinned (stat fr5) (T.obj _ _ st5);refine wpAny_passesOwn hp (thn (hg _ s5 σ3 H5 x u _ I5' r5 (step x H5 y5)) fun _ s6 ⟨σ6,H6,I6,q6⟩=>?_);refine wpAny_passesOwn hp (thn (hb _ s6 σ6 H6 _ I6 q6) fun f s7 q7=>?_);have again:∀{σ7:St} {H7:Hp},Inv X (pins++zW6 fp s5.heap) σ7 H7 s7->N σ7 H7->∃m,m<n /\ ∃i σ' H',Inv X pins σ' H' s7 /\ tn i s7.heap /\ (∀b∈fp,H' b=none) /\ W i m σ' H':=fun {σ7 H7} I7 n7=>by
   obtain⟨m',hm,w7⟩:=hN σ7 H7 n7;refine⟨m',hm,i+1,σ7,H7,I7.unpinned,T.keep _ _ _ st5 fun b hb o e=>(I7.pin (b,o) (Į _ (Į _ (zG5 hb e)))).1,fun b hb=>?_,w7⟩;obtain⟨o,e,d⟩:=T.obj _ _ st5 b hb;exact(I7.pin (b,o) (Į _ (Į _ (zG5 hb e)))).2.1
  cases f with
  | next=>obtain⟨σ7,H7,I7,n7⟩:=q7;exact again I7 n7
  | cont=>obtain⟨σ7,H7,I7,n7⟩:=q7;exact again I7 n7
  | brk=>obtain⟨σ7,H7,I7,q7⟩:=q7;exact⟨σ7,H7,I7.unpinned,q7⟩
  | ret v=>obtain⟨x7,σ7,H7,I7,r7,q7⟩:=q7;exact⟨x7,σ7,H7,I7.unpinned,r7,q7⟩
end
theorem zI6 {K:Ā}{a:Addr}{xs:List V}{g:TG}{tb:TS}{D:Ends}{σ:St}{H:Hp}(Pv:Nat->St->Hp->Prop)(h0:Pv 0 σ H)(hl:∀i σ H,i<=xs.length->Pv i σ H->SqL K H a xs)
  (hs:∀i x σ H,xs[i]?=some x->Pv i σ H->g x σ H fun σ2 H2=>tb { D with nx:=Pv (i+1),ct:=Pv (i+1),bk:=D.nx } σ2 H2)(hd:∀σ H,Pv xs.length σ H->D.nx σ H) :
  ∃W:Nat->Nat->St->Hp->Prop,(∃m,W 0 m σ H) /\ ∀i m σ H,W i m σ H ->
   ((Itl K a).stop i H /\ D.nx σ H) \/ ((Itl K a).go i H /\ ∃N:St->Hp->Prop,(∀σ' H',N σ' H'->∃m',m'<m /\ W (i+1) m' σ' H') /\ ∀x H',(Itl K a).yld i H x H'->g x σ H' fun σ2 H2=>tb { D with nx:=N,ct:=N,bk:=D.nx } σ2 H2):=by
 refine⟨fun i m σ H=>m=xs.length - i /\ i<=xs.length /\ Pv i σ H,⟨xs.length,by simp,Ń _,h0⟩,?_⟩;rintro i m σ H ⟨rfl,hi,p⟩;have q:=hl i σ H hi p
 by_cases hlt:i<xs.length
 ·refine .inr ⟨⟨xs,xs[i],q,by simp[hlt]⟩,Pv (i+1),fun σ' H' p'=>⟨xs.length - (i+1),by lia,rfl,hlt,p'⟩,fun x H' y=>?_⟩;obtain⟨e,y⟩:=y;subst e;exact hs i x σ _ (y xs q) p
 ·have e:i=xs.length:=by lia
  subst e;exact .inl ⟨⟨xs,q,Ć _⟩,hd σ H p⟩
theorem zG3 {lo:Int}{n:Nat}{g:TG}{tb:TS}{D:Ends}{σ:St}{H:Hp}(Pv:Nat->St->Hp->Prop)(h0:Pv 0 σ H)
  (hs:∀i σ H,i<n->Pv i σ H->g (.int (lo+i)) σ H fun σ2 H2=>tb { D with nx:=Pv (i+1),ct:=Pv (i+1),bk:=D.nx } σ2 H2)(hd:∀σ H,Pv n σ H->D.nx σ H) :
  ∃W:Nat->Nat->St->Hp->Prop,(∃m,W 0 m σ H) /\ ∀i m σ H,W i m σ H ->
   ((Itr lo n).stop i H /\ D.nx σ H) \/ ((Itr lo n).go i H /\ ∃N:St->Hp->Prop,(∀σ' H',N σ' H'->∃m',m'<m /\ W (i+1) m' σ' H') /\ ∀x H',(Itr lo n).yld i H x H'->g x σ H' fun σ2 H2=>tb { D with nx:=N,ct:=N,bk:=D.nx } σ2 H2):=by
 refine⟨fun i m σ H=>m=n - i /\ i<=n /\ Pv i σ H,⟨n,by simp,Ń _,h0⟩,?_⟩;rintro i m σ H ⟨rfl,hi,p⟩
 by_cases hlt:i<n
 ·refine .inr ⟨hlt,Pv (i+1),fun σ' H' p'=>⟨n - (i+1),by lia,rfl,hlt,p'⟩,fun x H' y=>?_⟩;obtain⟨e,y⟩:=y;subst e y;exact hs i σ _ hlt p
 ·have e:i=n:=by lia
  subst e;exact .inl ⟨Ć _,hd σ H p⟩
theorem yD0 {c:TT}{tb:TS}{D:Ends}{σ:St}{H:Hp}(Pv:St->Hp->Prop)(μ:St->Hp->Nat)(h0:Pv σ H)
  (hs:∀σ H,Pv σ H->c σ H fun b H1=>if b=true then tb { D with nx:=fun σ' H'=>Pv σ' H' /\ μ σ' H'<μ σ H,ct:=fun σ' H'=>Pv σ' H' /\ μ σ' H'<μ σ H,bk:=D.nx } σ H1 else D.nx σ H1)
  (mono:∀σ H Q Q',(∀b H1,Q b H1->Q' b H1)->c σ H Q->c σ H Q'):yW0 c tb D σ H:=by
 refine⟨fun m σ H=>m=μ σ H /\ Pv σ H,⟨_,rfl,h0⟩,?_⟩;rintro m σ H ⟨rfl,p⟩;refine mono σ H _ _ (fun b H1 q=>?_) (hs σ H p);cases b with
 | true=>exact⟨_,fun σ' H' ⟨p',l⟩=>⟨_,l,rfl,p'⟩,q⟩
 | false=>exact q
noncomputable abbrev R2:=V->V->Hp->VK->Prop
noncomputable def OpR (X:Cx)(f:Value->Value->Sem Value)(r:R2):Prop :=
 ∀(pins:List (Addr×Obj)) (s:Shared) (σ:St) (H:Hp) (x y:V) (v u:Value) (Q:VK),Inv X pins σ H s->RelV x v->RelV y u->r x y H Q ->
  wpAny (model X.prog X.w) X.A (f v u) (EP X pins σ Q) X.xe s
noncomputable def UnR (X:Cx)(f:Value->Sem Value)(r:V->Hp->VK->Prop):Prop :=
 ∀(pins:List (Addr×Obj)) (s:Shared) (σ:St) (H:Hp) (x:V) (v:Value) (Q:VK),Inv X pins σ H s->RelV x v->r x H Q ->
  wpAny (model X.prog X.w) X.A (f v) (EP X pins σ Q) X.xe s
noncomputable def δ (X:Cx)(f:Value)(r:List V->Hp->VK->Prop):Prop :=
 ∀(pins:List (Addr×Obj)) (s:Shared) (σ:St) (H:Hp) (xs:List V) (us:List Value) (Q:VK),Inv X pins σ H s->Vals xs us->r xs H Q ->
  wpAny (model X.prog X.w) X.A (call f us) (EP X pins σ Q) X.xe s
noncomputable def tOp (r:R2)(ta tb:TE):TE:=fun σ H Q=>ta σ H fun x H1=>tb σ H1 fun y H2=>r x y H2 Q
noncomputable def tUn (r:V->Hp->VK->Prop)(ta:TE):TE:=fun σ H Q=>ta σ H fun x H1=>r x H1 Q
noncomputable def rI (C:Int->Int->Prop)(g:Int->Int->V):R2:=fun x y H Q=>∃i j,x = .int i /\ y = .int j /\ C i j /\ Q (g i j) H
noncomputable def rI0 (g:Int->Int->V):R2:=fun x y H Q=>∃i j,x = .int i /\ y = .int j /\ Q (g i j) H
noncomputable def rU (g:Int->V):V->Hp->VK->Prop:=fun x H Q=>∃i,x = .int i /\ Q (g i) H
section
variable {X:Cx}{a b c:Expr}{ta tb tc:TE}{pos:Pos}
theorem binT (ha:PE X a ta)(hb:PE X b tb){pins:List (Addr×Obj)}{s:Shared}{σ:St}{H:Hp}{R:V->V->Hp->Prop}(I:Inv X pins σ H s)
  (h:ta σ H fun x H1=>tb σ H1 fun y H2=>R x y H2){Q:Value->Shared->Prop}{f:Value->Value->Sem Value}
  (hf:∀v u s2 x y H2,Inv X pins σ H2 s2->RelV x v->RelV y u->R x y H2->wpAny (model X.prog X.w) X.A (f v u) Q X.xe s2) :
  wpAny (model X.prog X.w) X.A (eval a X.env) (fun v s₁=>wpAny (model X.prog X.w) X.A (eval b X.env) (fun u s₂=>wpAny (model X.prog X.w) X.A (f v u) Q X.xe s₂) X.xe s₁) X.xe s:=by
 refine thn (ha pins s σ H _ I h) fun v s1 ⟨x,H1,I1,r1,q1⟩=>?_;refine thn (hb pins s1 σ H1 _ I1 q1) fun u s2 ⟨y,H2,I2,r2,q2⟩=>?_;exact hf v u s2 x y H2 I2 r1 r2 q2
theorem Æ {op:Operator}{r:R2}(ho:OpR X (binaryOp op) r)(ha:PE X a ta)(hb:PE X b tb):PE X (.BinOp a op b pos) (tOp r ta tb):=by
 intro pins s σ H Q I h;exact wpAny_BinOp (binT ha hb I h fun v u s2 x y H2 I2 rx ry q=>ho pins s2 σ H2 x y v u Q I2 rx ry q)
theorem xH3 {op:UnaryOp}{r:V->Hp->VK->Prop}(ho:UnR X (unaryOp op) r)(ha:PE X a ta):PE X (.UnaryOp op a pos) (tUn r ta):=by
 intro pins s σ H Q I h;exact UnaryOp_ (thn (ha pins s σ H _ I h) fun v s1 ⟨x,H1,I1,r1,q1⟩=>ho pins s1 σ H1 x v Q I1 r1 q1)
theorem opI {f:Value->Value->Sem Value}{C:Int->Int->Prop}{g:Int->Int->Int}
  (rule:∀(i j:Int) (t u:Tok) (s:Shared) (Q:Value->Shared->Prop) (E:Value->Shared->Prop),C i j->Q (.int (g i j) s.toks) { s with toks:=s.toks+1 }->wpAny (model X.prog X.w) X.A (f (.int i t) (.int j u)) Q E s) :
  OpR X f (rI C fun i j=>.int (g i j)):=by
 intro pins s σ H x y v u Q I rx ry h;obtain⟨i,j,rfl,rfl,hc,q⟩:=h;obtain⟨t,rfl⟩:=rx;obtain⟨t',rfl⟩:=ry;exact rule i j t t' s _ _ hc ⟨.int (g i j),H,I.tok _,⟨_,rfl⟩,q⟩
theorem opI0 {f:Value->Value->Sem Value}{g:Int->Int->Int}
  (rule:∀(i j:Int) (t u:Tok) (s:Shared) (Q:Value->Shared->Prop) (E:Value->Shared->Prop),Q (.int (g i j) s.toks) { s with toks:=s.toks+1 }->wpAny (model X.prog X.w) X.A (f (.int i t) (.int j u)) Q E s) :
  OpR X f (rI0 fun i j=>.int (g i j)):=by
 intro pins s σ H x y v u Q I rx ry h;obtain⟨i,j,rfl,rfl,q⟩:=h;obtain⟨t,rfl⟩:=rx;obtain⟨t',rfl⟩:=ry;exact rule i j t t' s _ _ ⟨.int (g i j),H,I.tok _,⟨_,rfl⟩,q⟩
theorem opB0 {f:Value->Value->Sem Value}{g:Int->Int->Bool}
  (rule:∀(i j:Int) (t u:Tok) (s:Shared) (Q:Value->Shared->Prop) (E:Value->Shared->Prop),Q (.bool (g i j)) s->wpAny (model X.prog X.w) X.A (f (.int i t) (.int j u)) Q E s) :
  OpR X f (rI0 fun i j=>.bl (g i j)):=by
 intro pins s σ H x y v u Q I rx ry h;obtain⟨i,j,rfl,rfl,q⟩:=h;obtain⟨t,rfl⟩:=rx;obtain⟨t',rfl⟩:=ry;exact rule i j t t' s _ _ ⟨.bl (g i j),H,I,rfl,q⟩
noncomputable def CPow (i j:Int):Prop:=0<=j /\ j<=1000000 /\ i.natAbs<2^64
theorem è:OpR X (binaryOp .Add) (rI0 fun i j=>.int (i+j)):=opI0 fun _ _ _ _ _ _ _ q=>add_int q
theorem ô:OpR X (binaryOp .Sub) (rI0 fun i j=>.int (i - j)):=opI0 fun _ _ _ _ _ _ _ q=>sub_int q
theorem Ø:OpR X (binaryOp .Mod) (rI (fun _ j=>j≠0) fun i j=>.int (i.fmod j)):=opI fun _ _ _ _ _ _ _ hc q=>mod_int' hc q
theorem xH7:OpR X (binaryOp .Pow) (rI CPow fun i j=>.int (i^j.toNat)):=opI fun _ _ _ _ _ _ _ hc q=>pow_int_small hc.1 hc.2.1 hc.2.2 q
theorem unI {f:Value->Sem Value}{g:Int->Int}
  (rule:∀(i:Int) (t:Tok) (s:Shared) (Q:Value->Shared->Prop) (E:Value->Shared->Prop),Q (.int (g i) s.toks) { s with toks:=s.toks+1 }->wpAny (model X.prog X.w) X.A (f (.int i t)) Q E s) :
  UnR X f (rU fun i=>.int (g i)):=by
 intro pins s σ H x v Q I rx h;obtain⟨i,rfl,q⟩:=h;obtain⟨t,rfl⟩:=rx;exact rule i t s _ _ ⟨.int (g i),H,I.tok _,⟨_,rfl⟩,q⟩
theorem yV8:UnR X (unaryOp .USub) (rU fun i=>.int (-i)):=unI fun _ _ _ _ _ q=>neg_int q
end
noncomputable def scal:V->V->Bool
 | .non,.non=>true | .non,.int _=>true | .int _,.non=>true | .non,.bl _=>true | .bl _,.non=>true | .non,.str _=>true | .str _,.non=>true
 | .int _,.int _=>true | .bl _,.bl _=>true | .str _,.str _=>true | .byt _,.byt _=>true
 | .int _,.str _=>true | .str _,.int _=>true | .bl _,.str _=>true | .str _,.bl _=>true
 | _,_=>false
noncomputable def rEq:R2:=fun x y H Q=>scal x y=true /\ Q (.bl (decide (x=y))) H
noncomputable def rNe:R2:=fun x y H Q=>scal x y=true /\ Q (.bl (!decide (x=y))) H
theorem yP5 {i j:Int}:decide (V.int i=V.int j)=(i==j):=by
 rw[Ŧ];simp
theorem yY2 {i j:Bool}:decide (V.bl i=V.bl j)=(i==j):=by
 rw[Ŧ];simp
theorem yP4 {i j:Str}:decide (V.str i=V.str j)=(i==j):=by
 rw[Ŧ];simp
theorem yP6 {i j:Array UInt8}:decide (V.byt i=V.byt j)=(i.toList==j.toList):=by
 rw[Ŧ];cases i;cases j;simp
section
variable {X:Cx}{a b c:Expr}{ta tb tc:TE}{pos:Pos}
theorem õ {pins:List (Addr×Obj)}{σ:St}{H:Hp}{s:Shared}{Q:VK}{k k':Bool}(I:Inv X pins σ H s)(q:Q (.bl k) H)(e:k=k'):EP X pins σ Q (.bool k') s:=by
 subst e;exact⟨.bl k,H,I,rfl,q⟩
theorem ï:OpR X (compareOp .Eq) rEq:=by
 intro pins s σ H x y v u Q I rx ry h;obtain⟨hs,q⟩:=h;cases x with
 | non =>
  cases rx;cases y with
  | non=>cases ry;exact PySem.EqNone.eq_none_none (õ I q (by simp))
  | bl j=>cases ry;exact PySem.EqNone.eq_none_bool (õ I q (by simp))
  | int j=>obtain⟨t',rfl⟩:=ry;exact PySem.EqNone.eq_none_int (õ I q (by simp))
  | str j=>obtain⟨t',rfl⟩:=ry;exact PySem.EqNone.eq_none_str (õ I q (by simp))
  | _=>exact absurd (show false=true from hs) Ď
 | bl i =>
  cases rx;cases y with
  | non=>cases ry;exact PySem.EqNone.eq_bool_none (õ I q (by simp))
  | bl j=>cases ry;exact eq_bool (õ I q yY2)
  | str j=>obtain⟨t',rfl⟩:=ry;exact PySem.EqMixed.eq_bool_str (õ I q (by simp))
  | _=>exact absurd (show false=true from hs) Ď
 | int i =>
  obtain⟨t,rfl⟩:=rx;cases y with
  | non=>cases ry;exact PySem.EqNone.eq_int_none (õ I q (by simp))
  | int j=>obtain⟨t',rfl⟩:=ry;exact eq_int (õ I q yP5)
  | str j=>obtain⟨t',rfl⟩:=ry;exact PySem.EqMixed.eq_int_str (õ I q (by simp))
  | _=>exact absurd (show false=true from hs) Ď
 | str i =>
  obtain⟨t,rfl⟩:=rx;cases y with
  | non=>cases ry;exact PySem.EqNone.eq_str_none (õ I q (by simp))
  | bl j=>cases ry;exact PySem.EqMixed.eq_str_bool (õ I q (by simp))
  | int j=>obtain⟨t',rfl⟩:=ry;exact PySem.EqMixed.eq_str_int (õ I q (by simp))
  | str j=>obtain⟨t',rfl⟩:=ry;exact eq_str (õ I q yP4)
  | _=>exact absurd (show false=true from hs) Ď
 | byt i =>
  obtain⟨t,rfl⟩:=rx;cases y with
  | byt j=>obtain⟨t',rfl⟩:=ry;exact PySem.W.eq_bytes (õ I q yP6)
  | _=>exact absurd (show false=true from hs) Ď
 | _=>cases y<;>exact absurd (show false=true from hs) Ď
theorem zS2:OpR X (compareOp .NotEq) rNe:=by
 intro pins s σ H x y v u Q I rx ry h;obtain⟨hs,q⟩:=h;cases x with
 | non =>
  cases rx;cases y with
  | non=>cases ry;exact PySem.EqNone.ne_none_none (õ I q (by simp))
  | bl j=>cases ry;exact PySem.EqNone.ne_none_bool (õ I q (by simp))
  | int j=>obtain⟨t',rfl⟩:=ry;exact PySem.EqNone.ne_none_int (õ I q (by simp))
  | str j=>obtain⟨t',rfl⟩:=ry;exact PySem.EqNone.ne_none_str (õ I q (by simp))
  | _=>exact absurd (show false=true from hs) Ď
 | bl i =>
  cases rx;cases y with
  | non=>cases ry;exact PySem.EqNone.ne_bool_none (õ I q (by simp))
  | bl j=>cases ry;exact ne_bool (õ I q (congrArg not yY2))
  | str j=>obtain⟨t',rfl⟩:=ry;exact PySem.EqMixed.ne_bool_str (õ I q (by simp))
  | _=>exact absurd (show false=true from hs) Ď
 | int i =>
  obtain⟨t,rfl⟩:=rx;cases y with
  | non=>cases ry;exact PySem.EqNone.ne_int_none (õ I q (by simp))
  | int j=>obtain⟨t',rfl⟩:=ry;exact ne_int (õ I q (congrArg not yP5))
  | str j=>obtain⟨t',rfl⟩:=ry;exact PySem.EqMixed.ne_int_str (õ I q (by simp))
  | _=>exact absurd (show false=true from hs) Ď
 | str i =>
  obtain⟨t,rfl⟩:=rx;cases y with
  | non=>cases ry;exact PySem.EqNone.ne_str_none (õ I q (by simp))
  | bl j=>cases ry;exact PySem.EqMixed.ne_str_bool (õ I q (by simp))
  | int j=>obtain⟨t',rfl⟩:=ry;exact PySem.EqMixed.ne_str_int (õ I q (by simp))
  | str j=>obtain⟨t',rfl⟩:=ry;exact ne_str (õ I q (congrArg not yP4))
  | _=>exact absurd (show false=true from hs) Ď
 | byt i =>
  obtain⟨t,rfl⟩:=rx;cases y with
  | byt j=>obtain⟨t',rfl⟩:=ry;exact PySem.W.ne_bytes (õ I q (congrArg not yP6))
  | _=>exact absurd (show false=true from hs) Ď
 | _=>cases y<;>exact absurd (show false=true from hs) Ď
theorem υ:OpR X (compareOp .Lt) (rI0 fun i j=>.bl (decide (i<j))):=opB0 fun _ _ _ _ _ _ _ q=>lt_int q
theorem yT0:OpR X (compareOp .LtE) (rI0 fun i j=>.bl (decide (i<=j))):=opB0 fun _ _ _ _ _ _ _ q=>le_int q
theorem yH3:OpR X (compareOp .Gt) (rI0 fun i j=>.bl (decide (j<i))):=opB0 fun _ _ _ _ _ _ _ q=>gt_int q
theorem yL7:OpR X (compareOp .GtE) (rI0 fun i j=>.bl (decide (j<=i))):=opB0 fun _ _ _ _ _ _ _ q=>ge_int q
theorem yX0:OpR X (compareOp .Is) (fun x y H Q=>y = .non /\ Q (.bl (decide (x = .non))) H):=by
 intro pins s σ H x y v u Q I rx ry h;obtain⟨rfl,q⟩:=h;cases ry;refine is_none_gen (õ I q ?_);cases x<;>first
  | (cases rx;rfl)
  | (obtain⟨t,rfl⟩:=rx;rfl)
theorem xB8:OpR X (compareOp .IsNot) (fun x y H Q=>y = .non /\ Q (.bl (!decide (x = .non))) H):=by
 intro pins s σ H x y v u Q I rx ry h;obtain⟨rfl,q⟩:=h;cases ry;refine isnot_none_gen (õ I q ?_);cases x<;>first
  | (cases rx;rfl)
  | (obtain⟨t,rfl⟩:=rx;rfl)
theorem Ò (b:Expr){op:CmpOp}(h:op ≠ .In:=by decide)(h2:op ≠ .NotIn:=by decide):behindInMarks op b=false:=by
 have e1:(op==CmpOp.In)=false:=by cases op<;>first | rfl | exact absurd rfl h
 have e2:(op==CmpOp.NotIn)=false:=by cases op<;>first | rfl | exact absurd rfl h2
 cases b<;>simp[behindInMarks,e1,e2]
theorem ø {op:CmpOp}{r:R2}(ho:OpR X (compareOp op) r)(ha:PE X a ta)(hb:PE X b tb)(hm:behindInMarks op b=false):PE X (.Compare a [op] [b] pos) (tOp r ta tb):=by
 intro pins s σ H Q I h;exact wpAny_Compare1 (binT ha hb I h fun v u s2 x y H2 I2 rx ry q=>ho pins s2 σ H2 x y v u Q I2 rx ry q) hm
noncomputable def yZ4 (t:TE):TT:=fun σ H Q=>t σ H fun x H'=>∃k,x = .bl k /\ Q k H'
theorem Ð {op:CmpOp}{r:R2}(ho:OpR X (compareOp op) r)(ha:PE X a ta)(hb:PE X b tb)(hm:behindInMarks op b=false):PT X (.Compare a [op] [b] pos) (yZ4 (tOp r ta tb)):=by
 intro pins s σ H Q I h;refine wpAny_isTrue_Compare1 (thn (ha pins s σ H _ I h) fun v s1 ⟨x,H1,I1,r1,q1⟩=>thn (hb pins s1 σ H1 _ I1 q1) fun u s2 ⟨y,H2,I2,r2,q2⟩ =>
  thn (ho pins s2 σ H2 x y v u _ I2 r1 r2 q2) fun c s3 ⟨z,H3,I3,r3,k,e,q3⟩=>?_) hm
 subst e;cases r3;exact wpAny_truthy_bool ⟨H3,I3,q3⟩
noncomputable def xF1 (r r':R2)(ta tb tc:TE):TE:=fun σ H Q=>ta σ H fun x H1=>tb σ H1 fun y H2=>r x y H2 fun z H3=>∃k,z = .bl k /\
 (if k=true then tc σ H3 fun w' H4=>r' y w' H4 Q else Q (.bl false) H3)
theorem yS9 {op op':CmpOp}{r r':R2}(ho:OpR X (compareOp op) r)(ho':OpR X (compareOp op') r')(ha:PE X a ta)(hb:PE X b tb)(hc:PE X c tc)
  (hm:lastMarks [op,op'] [b,c]=false:=by with_unfolding_all rfl):PE X (.Compare a [op,op'] [b,c] pos) (xF1 r r' ta tb tc):=by
 intro pins s σ H Q I h;refine Compare_chain (thn (ha pins s σ H _ I h) fun v s1 ⟨x,H1,I1,r1,q1⟩=>chain_link (thn (hb pins s1 σ H1 _ I1 q1) fun u s2 ⟨y,H2,I2,r2,q2⟩ =>
  thn (ho pins s2 σ H2 x y v u _ I2 r1 r2 q2) fun d s3 ⟨z,H3,I3,r3,k,e,q3⟩=>?_)) hm
 subst e;cases r3;refine wpAny_truthy_bool ?_;cases k with
 | false=>exact ite_ff ⟨.bl false,H3,I3,rfl,q3⟩
 | true=>exact ite_tt (chain_last (thn (hc pins s3 σ H3 _ I3 q3) fun w' s4 ⟨z',H4,I4,r4,q4⟩=>ho' pins s4 σ H4 y z' u w' Q I4 r2 r4 q4))
theorem zX2:(sizeLine:Nat)<2^63:=by rw[sizeLine_eq];decide
theorem τ {x:V}{us:List Value}(r:Vals [x] us):∃u,us=[u] /\ RelV x u:=by
 cases r with
 | cons r1 r2=>cases r2;exact⟨_,rfl,r1⟩
theorem yI4 {x y:V}{us:List Value}(r:Vals [x,y] us):∃u w',us=[u,w'] /\ RelV x u /\ RelV y w':=by
 cases r with
 | cons r1 r2 =>
  cases r2 with
  | cons r3 r4=>cases r4;exact⟨_,_,rfl,r1,r3⟩
theorem yV3:δ X (.builtin "abs") (fun xs H Q=>∃i,xs=[.int i] /\ Q (.int (if i<0 then -i else i)) H):=by
 intro pins s σ H xs us Q I r h;obtain⟨i,rfl,q⟩:=h;obtain⟨u,rfl,t,rfl⟩:=τ r;exact call_abs_int fun u tk=>⟨.int (if i<0 then -i else i),H,I.tok _,⟨_,rfl⟩,q⟩
theorem zO9 (hc:X.calm=true):δ X (.builtin "max") (fun xs H Q=>∃i j,xs=[.int i,.int j] /\ Q (.int (if j > i then j else i)) H):=by
 intro pins s σ H xs us Q I r h;obtain⟨i,j,rfl,q⟩:=h;obtain⟨u,w',rfl,⟨t,rfl⟩,⟨t',rfl⟩⟩:=yI4 r;refine max_two_ints (I.ok.hd hc) fun h' tk k=>⟨_,H,I.kept k,?_,q⟩
 by_cases hj:j > i
 ·rw[if_pos hj,if_pos hj];exact⟨_,rfl⟩
 ·rw[if_neg hj,if_neg hj];exact⟨_,rfl⟩
theorem zO8 (hc:X.calm=true):δ X (.builtin "min") (fun xs H Q=>∃i j,xs=[.int i,.int j] /\ Q (.int (if j<i then j else i)) H):=by
 intro pins s σ H xs us Q I r h;obtain⟨i,j,rfl,q⟩:=h;obtain⟨u,w',rfl,⟨t,rfl⟩,⟨t',rfl⟩⟩:=yI4 r;refine min_two_ints (I.ok.hd hc) fun h' tk k=>⟨_,H,I.kept k,?_,q⟩
 by_cases hj:j<i
 ·rw[if_pos hj,if_pos hj];exact⟨_,rfl⟩
 ·rw[if_neg hj,if_neg hj];exact⟨_,rfl⟩
theorem yQ1:δ X (.type "int") (fun xs H Q=>(∃i,xs=[.int i] /\ Q (.int i) H) \/ ∃k,xs=[.bl k] /\ Q (.int (if k then 1 else 0)) H):=by
 intro pins s σ H xs us Q I r h;rcases h with⟨i,rfl,q⟩ | ⟨k,rfl,q⟩
 ·obtain⟨u,rfl,t,rfl⟩:=τ r;exact call_int_int ⟨.int i,H,I,⟨_,rfl⟩,q⟩
 ·obtain⟨u,rfl,r1⟩:=τ r;cases r1;exact call_int_bool ⟨.int (if k then 1 else 0),H,I.tok _,⟨_,rfl⟩,q⟩
noncomputable def LenV (K:Ā)(x:V)(H:Hp)(n:Nat):Prop :=
 match x with
 | .str y=>y.length<=sizeLine /\ n=y.length
 | .byt y=>y.size<=sizeLine /\ n=y.size
 | .ref p=>(∃xs,SqL K H p xs /\ n=xs.length) \/ ∃xs,SqT K H p xs /\ n=xs.length
 | _=>False
theorem yV0:δ X (.builtin "len") (fun xs H Q=>∃x n,xs=[x] /\ LenV X.K x H n /\ Q (.int n) H):=by
 intro pins s σ H xs us Q I r h;obtain⟨x,n,rfl,e,q⟩:=h;obtain⟨u,rfl,rx⟩:=τ r;have hl:=zX2;have hs:sizeLine=16777216:=sizeLine_eq;cases x with
 | str y =>
  obtain⟨t,rfl⟩:=rx;obtain⟨hy,e'⟩:y.length<=sizeLine /\ n=y.length:=e;subst e';exact len_str (by lia) ⟨.int _,H,I.tok _,⟨_,rfl⟩,q⟩
 | byt y =>
  obtain⟨t,rfl⟩:=rx;obtain⟨hy,e'⟩:y.size<=sizeLine /\ n=y.size:=e;subst e';exact PySem.W.len_bytes (by lia) ⟨.int _,H,I.tok _,⟨_,rfl⟩,q⟩
 | ref p =>
  cases rx;have e':(∃xs,SqL X.K H p xs /\ n=xs.length) \/ ∃xs,SqT X.K H p xs /\ n=xs.length:=e;rcases e' with⟨xs,hx,e'⟩ | ⟨xs,hx,e'⟩
  ·subst e';obtain⟨its,r',pl,hz⟩:=I.list hx;have hlen:=r'.length;exact Calls.call_len_list pl.isList (by simp only[ĝ];lia) ⟨.int xs.length,H,I.tok _,⟨_,by simp only[ĝ];rw[hlen]⟩,q⟩
  ·subst e';obtain⟨its,r',pl,hz⟩:=I.tuple hx;have hlen:=r'.length;exact len_tuple pl (by simp only[ĝ];lia) ⟨.int xs.length,H,I.tok _,⟨_,by simp only[ĝ];rw[hlen]⟩,q⟩
 | _=>exact(show False from e).elim
end
structure ObjM (h:Heap)(x dx C:Addr)(mA:Str->Option Value):Prop where
 obj:h.get? x=some (PySem.W.instObj C dx)
 ns:h.Ns1 dx mA
 ne:dx≠x
theorem yM4 {h:Heap}{dx:Addr}{mA:Str->Option Value}(n:h.Ns1 dx mA):∃od,h.get? dx=some od /\ ∀name,PySem.W.lookIn name od=some (mA name):=by
 obtain⟨o,es,ep,ho,hd,hk,_,hm⟩:=n;refine⟨o,ho,fun name=>?_⟩;have e:=hm name;unfold nsFind findBy at e;rw[<- Array.find?_toList]at e;unfold PySem.W.lookIn;rw[hd];dsimp only
 split
 ·rename_i y q;rw[q]at e;exact congrArg some e
 ·rename_i q;rw[q]at e;have a:es.toList.any (·.refKey)=false:=by
   rw[List.any_eq_false];intro y hy;obtain⟨z,t,hkey⟩:=hk y (Array.mem_toList_iff.mp hy);simp[DictEntry.refKey,hkey]
  have a':¬es.toList.any (·.refKey)=true:=by rw[a];exact Ď
  rw[if_neg a'];exact congrArg some e
theorem ObjM.look {h:Heap}{x dx C:Addr}{mA:Str->Option Value}(I:ObjM h x dx C mA):∃od,PySem.W.InstAt h x (PySem.W.instObj C dx) C (some od) /\ ∀name,PySem.W.lookIn name od=some (mA name) :=
 let ⟨od,ho,hl⟩:=yM4 I.ns
 ⟨od,⟨I.obj,rfl,rfl,ho⟩,hl⟩
section
variable {P:Program}{w:World}{H H':Hp}{h h':Heap}{a C dx:Addr}{fs fs':List (Str×V)}
theorem xD2 (hok:HOk P w H h)(e:H a=some (.ins C dx fs)):∃mA,ObjM h a dx C mA /\ (∀f,RelO (fs.lookup f) (mA f)) /\ PySem.Within mA (fs.map (·.1)) /\ fs.length<=1000 /\ H dx=some (.own a):=by
 obtain⟨d,z,ne,ob,mA,n,r,q⟩:=(show ObjOk P w H h a (.ins C dx fs) from hok a _ e);exact⟨mA,⟨ob,n,ne⟩,r,q,z,d⟩
end
structure Cls (K:Ā)(C:Addr):Prop where
 pg:PySem.W.plainGet K C Str.empty=true
 hd:PySem.W.hasDictIn K C=true
 po:PySem.W.plainOver K C=true
 sa:PySem.W.findIn K (.ref C) "__setattr__" = some (some (.builtin "object.__setattr__"))
theorem Cls.get {K:Ā}{C:Addr}(c:Cls K C)(f:Str):PySem.W.plainGet K C f=true:=c.pg
section
variable {X:Cx}{pins:List (Addr×Obj)}{σ:St}{H:Hp}{s:Shared}{A:Around}{E:Value->Shared->Prop}{Q:Value->Shared->Prop}{c:Value}{b:Bool}
inductive TyOf (K:Ā)(H:Hp):V->Value->Prop where
 | non:TyOf K H .non (.type "NoneType")
 | bl (x:Bool):TyOf K H (.bl x) (.type "bool")
 | int (i:Int):TyOf K H (.int i) (.type "int")
 | str (x:Str):TyOf K H (.str x) (.type "str")
 | flt (x:UInt64):TyOf K H (.flt x) (.type "float")
 | lst {a:Addr} {xs:List V} (e:H a=some (.lst xs)):TyOf K H (.ref a) (.type "list")
 | frz {a:Addr} {o:Obj} {xs:List V} (e:H a=some (.frz o (.lst xs))):TyOf K H (.ref a) (.type "list")
 | tup {a:Addr} {xs:List V} (e:H a=some (.tup xs)):TyOf K H (.ref a) (.type "tuple")
 | dK {a:Addr} {kvs:List (Key×V)} (e:H a=some (.dK kvs)):TyOf K H (.ref a) (.type "dict")
 | dT {a:Addr} {kvs:List (List Key×V)} (e:H a=some (.dT kvs)):TyOf K H (.ref a) (.type "dict")
 | ins {a C dx:Addr} {fs:List (Str×V)} (e:H a=some (.ins C dx fs)) (cl:Cls K C) (ha:PySem.W.findIn K (.ref C) "__class__" = some (some (.builtin "object.__class__")))
   (hn:PySem.W.specialIn K (.builtin "object.__class__") "__get__" = some (some (.builtin "getset_descriptor.__get__")))(htk:PySem.W.takesIn K (.builtin "object.__class__")=some true)
   (hm:PySem.W.mroIn K C (.type "object")=some true):TyOf K H (.ref a) (.ref C)
theorem yN6 {x:V}{u t:Value}(I:Inv X pins σ H s)(rx:RelV x u)(ty:TyOf X.K H x t)(e:PySem.W.kitOne X.K t c=some b)(h:∀tk,Q (.bool b) { s with toks:=tk }) :
  wpAny (model X.prog X.w) A (call (.builtin "isinstance") [u,c]) Q E s:=by
 cases ty with
 | non=>cases (show u=Value.none from rx);exact Ņ PySem.W.kitx_none I.kIn True.intro e (fun z=>nomatch z) h
 | bl y=>cases (show u=Value.bool y from rx);exact Ņ PySem.W.kitx_bool I.kIn True.intro e (fun z=>nomatch z) h
 | int i=>obtain⟨t,q⟩:=(show ∃t,u=Value.int i t from rx);cases q;exact Ņ PySem.W.kitx_int I.kIn True.intro e (fun z=>nomatch z) h
 | str y=>obtain⟨t,q⟩:=(show ∃t,u=Value.str y t from rx);cases q;exact Ņ PySem.W.kitx_str I.kIn True.intro e (fun z=>nomatch z) h
 | flt y=>obtain⟨t,q⟩:=(show ∃t,u=Value.float y t from rx);cases q;exact Ņ PySem.W.kitx_float I.kIn True.intro e (fun z=>nomatch z) h
 | @lst a xs ea =>
  cases (show u=Value.ref a from rx);obtain⟨_,_,n,_,h1⟩:=(show ObjOk X.prog X.w H s.heap a (.lst xs) from I.hok a _ ea);exact Ņ PySem.W.kitx_list I.kIn ⟨_,h1,rfl⟩ e (fun z=>nomatch z) h
 | @frz a ob xs ea =>
  cases (show u=Value.ref a from rx);obtain⟨_,_,_,n,_,h1⟩:=(show ObjOk X.prog X.w H s.heap a (.frz ob (.lst xs)) from I.hok a _ ea);exact Ņ PySem.W.kitx_list I.kIn ⟨_,h1,rfl⟩ e (fun z=>nomatch z) h
 | @tup a xs ea =>
  cases (show u=Value.ref a from rx);obtain⟨_,_,_,p⟩:=(show ObjOk X.prog X.w H s.heap a (.tup xs) from I.hok a _ ea);obtain⟨o,h1,h2,_⟩:=p;exact Ņ PySem.W.kitx_tuple I.kIn ⟨o,h1,h2⟩ e (fun z=>nomatch z) h
 | @dK a kvs ea =>
  cases (show u=Value.ref a from rx);obtain⟨_,_,vs,_,p⟩:=(show ObjOk X.prog X.w H s.heap a (.dK kvs) from I.hok a _ ea);obtain⟨o,es,ep,h1,h2,_⟩:=p;exact Ņ PySem.W.kitx_dict I.kIn ⟨o,h1,h2.1⟩ e (fun z=>nomatch z) h
 | @dT a kvs ea =>
  cases (show u=Value.ref a from rx);obtain⟨_,_,xs,_,o,es,ep,h1,h2,_⟩:=(show ObjOk X.prog X.w H s.heap a (.dT kvs) from I.hok a _ ea);exact Ņ PySem.W.kitx_dict I.kIn ⟨o,h1,h2.1⟩ e (fun z=>nomatch z) h
 | @ins a C dx fs ea cl ha hn htk hm =>
  cases (show u=Value.ref a from rx);obtain⟨mA,O,_⟩:=xD2 I.hok ea;obtain⟨od,J,_⟩:=O.look;exact Ņ (PySem.W.kitx_own (cl.get _) cl.hd ha hn htk hm) I.kIn J e (fun z=>nomatch z) h
end
structure Room (k:Nat)(A:Around):Prop where
 hd:A.handled=none
 dp:A.depth+3*k+5<recursionLimit
 un:A.units+16*k+200<cLine
theorem Room.mono {j k:Nat}{A:Around}(r:Room k A)(h:j<=k):Room j A:=⟨r.hd,by have:=r.dp;lia,by have:=r.un;lia⟩
theorem Room.deeper {k:Nat}{A:Around}(r:Room (k+1) A)(env:Env):Room k (A.deeper env) :=
 ⟨r.hd,by have:=r.dp;show A.depth+1+3*k+5<_;lia,by have:=r.un;show A.units+3+16*k+200<_;lia⟩
theorem Room.depth {k:Nat}{A:Around}(r:Room k A):A.depth<recursionLimit:=by have:=r.dp;lia
theorem Room.units {k:Nat}{A:Around}(r:Room k A):A.units+64<cLine:=by have:=r.un;lia
noncomputable def tNil:TA:=fun _ H Q=>Q [] H
noncomputable def ι (ta:TE)(tr:TA):TA:=fun σ H Q=>ta σ H fun x H1=>tr σ H1 fun xs H2=>Q (x::xs) H2
section
variable {X:Cx}{e:Expr}{es:List Expr}{te:TE}{t:TA}{pos:Pos}
theorem Â:PA X [] tNil:=fun _ _ _ _ H Q I h=>Calls.spliced_nil ⟨[],H,I,.nil,h⟩
theorem À (ha:PE X e te)(hr:PA X es t)(hs:starEach (e::es) X.env=(false,eval e X.env)::starEach es X.env:=by rfl):PA X (e::es) (ι te t):=by
 intro pos pins s σ H Q I h;rw[hs];show wpAny _ _ (spliced ((false,eval e X.env)::backTo pos (starEach es X.env))) _ _ s;refine Calls.spliced_cons (thn (ha pins s σ H _ I h) fun u s1 ⟨x,H1,I1,r1,q1⟩=>?_);exact thn (hr pos pins s1 σ H1 _ I1 q1) fun us s2 ⟨xs,H2,I2,r2,q2⟩=>⟨x::xs,H2,I2,.cons r1 r2,q2⟩
noncomputable def tTup (t:TA):TE:=fun σ H Q=>t σ H fun xs H1=>xs.length<=sizeLine /\ ∀p,H1 p=none->Q (.ref p) (upd H1 p (.tup xs))
noncomputable def tLst (t:TA):TE:=fun σ H Q=>t σ H fun xs H1=>xs.length<=sizeLine /\ ∀p,H1 p=none->Q (.ref p) (upd H1 p (.lst xs))
theorem Õ {x1}(h:PA X es t):PE X (.Tuple es x1 pos) (tTup t):=by
 intro pins s σ H Q I hq;refine wpAny_Tuple_spliced (thn (h pos pins s σ H _ I hq) fun us s1 ⟨xs,H1,I1,r,z,q⟩=>⟨by rw[<- r.length];exact z,?_⟩);have hf:H1 s1.heap.objs.size=none:=I1.hok.fresh (Ć _);refine⟨.ref s1.heap.objs.size,upd H1 s1.heap.objs.size (.tup xs),I1.laid (t':=s1.toks) (fun b u e=>Č _ e) (Ć _) ?_,rfl,q _ hf⟩;exact⟨z,us,r,⟨_,ě _ rfl,rfl,_,rfl⟩⟩
theorem é (h:PA X es t):PE X (.List es pos) (tLst t):=by
 intro pins s σ H Q I hq;refine wpAny_List_spliced (thn (h pos pins s σ H _ I hq) fun us s1 ⟨xs,H1,I1,r,z,q⟩=>⟨by rw[<- r.length];exact z,?_⟩);have hf:H1 s1.heap.objs.size=none:=I1.hok.fresh (Ć _);refine⟨.ref s1.heap.objs.size,upd H1 s1.heap.objs.size (.lst xs),I1.laid (t':=s1.toks) (fun b u e=>Č _ e) (Ć _) ?_,rfl,q _ hf⟩;exact⟨z,us,0,r,ě _ rfl⟩
end
noncomputable abbrev Sp:=List V->Hp->VK->XK->Prop
noncomputable abbrev CXT:=List Env->Hp->Shared->XK->Value->Shared->Prop
structure Env0 (P:Program)(w:World)(K:Ā)(mg:Str->Option Value)(base:Heap)(A:Around)(outer:List Env)(s:Shared)(H:Hp):Prop where
 frames:A.frames=some outer
 mod:Mod K mg base
 bs:∀b o,base.get? b=some o->s.heap.get? b=some o /\ H b=none
 bsz:base.objs.size<=s.heap.objs.size
 funs:s.heap.FunFrames base outer
 frf:∀b∈frs outer,H b=none
 hok:HOk P w H s.heap
 bare:AllBare s.gens
noncomputable def CE (outer:List Env)(P:Program)(w:World)(H:Hp)(s:Shared)(Q:VK)(u:Value)(s':Shared):Prop :=
 ∃v H',s'.os=s.os /\ AllBare s'.gens /\ Un (frs outer) [] H H' s.heap s'.heap /\ HOk P w H' s'.heap /\ RelV v u /\ Q v H'
noncomputable def CR (CX:CXT)(outer:List Env)(P:Program)(w:World)(H:Hp)(s:Shared)(Q:VK)(E:XK)(r:Result)(s':Shared):Prop :=
 match r with
 | .ok (.ret u)=>CE outer P w H s Q u s'
 | .ok _=>False
 | .error e=>CX outer H s E e s'
structure FnOk (P:Program)(w:World)(K:Ā)(mg:Str->Option Value)(base:Heap)(CX:CXT)(k:Nat)(f:Addr)(fd:FuncData)(ps:List Str)(sp:Sp):Prop where
 len:∀vs H Q E,sp vs H Q E->vs.length=ps.length
 run:∀(A:Around) (outer:List Env) (s:Shared) (H:Hp) (args:Args) (us:List Value) (vs:List V) (Q:VK) (E:XK),Room k A->Env0 P w K mg base A outer s H->BindsTo s fd args (ps.zip us)->Vals vs us->sp vs H Q E ->
  codeAny (model P w) A (.call (.ref f) args) (CR CX outer P w H s Q E) s
section
variable {X:Cx}{pins:List (Addr×Obj)}{σ:St}{H:Hp}{s s':Shared}
theorem Inv.env0 (I:Inv X pins σ H s):Env0 X.prog X.w X.K X.mg X.base X.A X.stack s H :=
 ⟨I.ok.frames,I.ok.mod,I.bs,ĉ I.ok.bsz I.sz,I.stack,I.stkFree,I.hok,I.bare⟩
theorem Inv.after {Q:VK}{u:Value}(I:Inv X pins σ H s)(h:CE X.stack X.prog X.w H s Q u s'):EP X pins σ Q u s':=by
 obtain⟨v,H',os,bare,un,hok,r,q⟩:=h;obtain⟨hh,g,d,t,os'⟩:=s';obtain rfl:os'=s.os:=os;exact⟨v,H',I.call (h':=hh) (g':=g) (d':=d) (t':=t) (ch:=[]) un hok bare (fun b z=>absurd z (by simp)),r,q⟩
end
noncomputable def zZ6 (sp:Sp)(dvs:List V)(E:XK)(t:TA):TE:=fun σ H Q=>t σ H fun vs H1=>sp (vs++dvs) H1 Q E
noncomputable def Binds (K:Ā)(fd:FuncData)(ps:List Str)(ds:List Value):Prop :=
 ∀(s:Shared) (us:List Value),K.In s.heap->(us++ds).length=ps.length->BindsTo s fd ⟨us,[]⟩ (ps.zip (us++ds))
theorem Binds.all {K:Ā}{fd:FuncData}{ps:List Str}(h:∀us:List Value,us.length=ps.length->bindArgs fd ⟨us,[]⟩=pure (ps.zip us)):Binds K fd ps []:=fun s us _ hl=>by
 rw[List.append_nil]at hl ⊢;exact .of_eq (h us hl)
noncomputable def zZ2 (CX:CXT)(X:Cx)(E:XK):Prop:=∀(pins:List (Addr×Obj)) (σ:St) (H:Hp) (s:Shared) (e:Value) (s':Shared),Inv X pins σ H s->CX X.stack H s E e s'->X.xe e s'
section
variable {X:Cx}{CX:CXT}{k:Nat}{f C:Addr}{fd:FuncData}{ps:List Str}{sp:Sp}{dvs:List V}{ds:List Value}{E:XK}{x m:Str}{p pos apos:Pos}{e o:Expr}{es:List Expr}{ta:TE}{t:TA}
theorem xG0 {pins:List (Addr×Obj)}{σ:St}{H:Hp}{s:Shared}{Q:VK}{us:List Value}{vs:List V}(F:FnOk X.prog X.w X.K X.mg X.base CX k f fd ps sp)(hr:Room k X.A)(hb:Binds X.K fd ps ds)(hd:Vals dvs ds)(hx:zZ2 CX X E)
  (I:Inv X pins σ H s)(r:Vals vs us)(h:sp (vs++dvs) H Q E):wpAny (model X.prog X.w) X.A (call (.ref f) us) (EP X pins σ Q) X.xe s:=by
 have r2:Vals (vs++dvs) (us++ds):=r.append hd;have hl:(us++ds).length=ps.length:=by rw[<- r2.length];exact F.len _ _ _ _ h
 refine wpAny_call (codeAny_mono (F.run X.A X.stack s H ⟨us,[]⟩ (us++ds) (vs++dvs) Q E hr I.env0 (hb s us I.kIn hl) r2 h) fun r s' hq=>?_);cases r with
 | error e=>exact hx pins σ H s e s' I hq
 | ok fl =>
  cases fl with
  | ret u=>exact I.after hq
  | next=>exact False.elim hq
  | brk=>exact False.elim hq
  | cont=>exact False.elim hq
theorem xB7 (F:FnOk X.prog X.w X.K X.mg X.base CX k f fd ps sp)(hr:Room k X.A)(hg:Gl X x)(hm:X.mg x=some (.ref f))(hk:PySem.W.keepIn X.K (.ref f)=true)(hb:Binds X.K fd ps ds)(hd:Vals dvs ds)(hx:zZ2 CX X E)
  (ha:PA X (e::es) t)(hdb:(x==("__debug__":Str))=false:=by decide)(he:starEach (e::es) X.env=(false,eval e X.env)::starEach es X.env:=by rfl)(hpl:(backTo pos (starEach es X.env)).any (·.1)=false:=by rfl) :
  PE X (.Call (.Name x p) (e::es) [] pos) (zZ6 sp dvs E t):=by
 intro pins s σ H Q I h;refine wpAny_Call_Name_kw (yM7 I hg hm ?_ hdb);refine PySem.W.callWith_K (h₀:=X.base) I.ok.mod.kin hk (thn (ha pos pins s σ H _ I h) fun us s1 ⟨vs,H1,I1,r,q⟩=>⟨I1.kIn,?_⟩) he hpl;exact xG0 F hr hb hd hx I1 r q
end
structure Ï (N P:List Str)(sc:Scope):Prop where
 kind:sc.kind = .function
 co:sc.isCoroutine=false
 gen:sc.isGenerator=false
 nd:N.Nodup
 pre:N.take P.length=P
 par:∀x∈P,sc.names.lookup x=some .local \/ sc.names.lookup x=some .cell
 nofree:∀y∈sc.names,y.2 ≠ .free
theorem zY7 {kindOf:Str->Option NameKind}{x:Str}:∀{binds:List (Str×Value)} {m:Str->Option Value},(∀v,(x,v)∉binds)->bindL kindOf binds m x=m x
 | [],_,_=>rfl
 | (n,v)::r,m,h=>by
  unfold bindL;rw[zY7 fun w hw=>h w (ć _ hw)]
  split
  ·have:x≠n:=by rintro rfl;exact h v Ĉ
   simp[this]
  ·rfl
theorem zY9 {kindOf:Str->Option NameKind}{x:Str}:∀{binds:List (Str×Value)} {m:Str->Option Value},(∀v,(x,v)∉binds)->bindC kindOf binds m x=m x
 | [],_,_=>rfl
 | (n,v)::r,m,h=>by
  unfold bindC;rw[zY9 fun w hw=>h w (ć _ hw)]
  split
  ·rfl
  ·have:x≠n:=by rintro rfl;exact h v Ĉ
   simp[this]
theorem zY8 {kindOf:Str->Option NameKind}{x:Str}{v:Value}:∀{P:List Str} {vs:List Value} {i:Nat} {m:Str->Option Value},P.Nodup->P[i]?=some x->vs[i]?=some v->kindOf x=some .local ->
  bindL kindOf (P.zip vs) m x=some v
 | [],_,_,_,_,h,_,_=>by simp at h
 | _::_,[],_,_,_,_,h,_=>by simp at h
 | p::P,w::vs,0,m,nd,h1,h2,hk=>by
  simp at h1 h2;subst h1;subst h2;show bindL kindOf ((p,w)::P.zip vs) m p=_;unfold bindL;rw[zY7 fun v hv=>(ō.mp nd).1 (List.of_mem_zip hv).1,if_pos hk];simp
 | p::P,w::vs,i+1,m,nd,h1,h2,hk=>by
  show bindL kindOf ((p,w)::P.zip vs) m x=_;unfold bindL;exact zY8 (i:=i) (ō.mp nd).2 (by simpa using h1) (by simpa using h2) hk
theorem zZ0 {kindOf:Str->Option NameKind}{x:Str}{v:Value}:∀{P:List Str} {vs:List Value} {i:Nat} {m:Str->Option Value},P.Nodup->P[i]?=some x->vs[i]?=some v->kindOf x≠some .local ->
  bindC kindOf (P.zip vs) m x=some v
 | [],_,_,_,_,h,_,_=>by simp at h
 | _::_,[],_,_,_,_,h,_=>by simp at h
 | p::P,w::vs,0,m,nd,h1,h2,hk=>by
  simp at h1 h2;subst h1;subst h2;show bindC kindOf ((p,w)::P.zip vs) m p=_;unfold bindC;rw[zY9 fun v hv=>(ō.mp nd).1 (List.of_mem_zip hv).1,if_neg hk];simp
 | p::P,w::vs,i+1,m,nd,h1,h2,hk=>by
  show bindC kindOf ((p,w)::P.zip vs) m x=_;unfold bindC;exact zZ0 (i:=i) (ō.mp nd).2 (by simpa using h1) (by simpa using h2) hk
noncomputable def start (N:List Str)(vs:List V):St:=vs.map some++ď (N.length - vs.length) none
noncomputable def cxOf (CX:CXT)(P:Program)(w:World)(K:Ā)(mg:Str->Option Value)(base:Heap)(N:List Str)(qual:Str)(scope:Scope)(f:Addr)(cd:Value)(A:Around)(outer:List Env)(s:Shared)(H:Hp)(E:XK):Cx where
 prog:=P
 w:=w
 K:=K
 mg:=mg
 base:=base
 A:=A.deeper (envOfC qual scope s.heap.objs.size f cd)
 N:=N
 s₀:=s
 H₀:=H
 env:=envOfC qual scope s.heap.objs.size f cd
 outer:=outer
 stack:=envOfC qual scope s.heap.objs.size f cd::outer
 ex:=[]
 calm:=true
 fn:=fun _=>true
 pn:=[]
 xe:=fun e s'=>wpAny (model P w) (A.deeper (envOfC qual scope s.heap.objs.size f cd)) (leaving (envOfC qual scope s.heap.objs.size f cd) e) (fun _ s''=>CX outer H s E e s'') (fun e' s''=>CX outer H s E e' s'') s'
theorem yG0 {sc:Scope}{n:Nat}{x:Str}(h:sc.names.lookup x=some .cell):∃c,(cellsFrom n sc.names []).lookup x=some c:=by
 have q:=PySem.W.cellsFrom_some sc.names n [] (.inl h);exact Option.isSome_iff_exists.mp q
theorem yN7 {CX:CXT}{P:Program}{w:World}{K:Ā}{mg:Str->Option Value}{base:Heap}{N ps:List Str}{qual:Str}{scope:Scope}{f:Addr}{cd:Value}{A:Around}{outer:List Env}{s s1:Shared}{H:Hp}{E:XK}{us:List Value}{vs:List V}
  (S:Ï N ps scope)(hd:A.handled=none)(e0:Env0 P w K mg base A outer s H)(hl:vs.length=ps.length)(r:Vals vs us)
  (x:InCallC s s.heap.objs.size (bindL (envOfC qual scope s.heap.objs.size f cd).kindOf (ps.zip us) fun _=>none) (cellsFrom (s.heap.objs.size+1) scope.names []) (bindC (envOfC qual scope s.heap.objs.size f cd).kindOf (ps.zip us) fun _=>none) s1) :
  Inv (cxOf CX P w K mg base N qual scope f cd A outer s H E) [] (start N vs) H s1:=by
 have hpl:ps.length<=N.length:=by have:=congrArg List.length S.pre;rw[Ĥ]at this;lia
 obtain⟨h1,tk,rfl,hk⟩:=x.done;have noA:∀b:Addr,b∉(cxOf CX P w K mg base N qual scope f cd A outer s H E).ex:=fun b z=>absurd (show b∈([]:List Addr) from z) (by simp);refine⟨⟨e0.mod,S.kind,rfl,rfl,Ć _,fun y z c h1 h2=>?_,fun y hy=>?_,fun y c _ h=>?_,fun _=>hd,Around.frames_deeper e0.frames,.inr ⟨rfl,rfl⟩,fun b z=>absurd z (noA b),e0.bs,e0.bsz,fun b _ _=>noA b,fun b z=>absurd z (noA b),e0.funs,e0.frf⟩,
  rfl,e0.bare,Un.kept hk,⟨_,x.toInCall.ns,fun i y v h1 h2 h3=>?_⟩,fun y c h=>⟨_,x.cell y c h⟩,e0.hok.fresh (Ć _),fun y c h=>?_,fun p hp=>absurd (show p∈([]:List (Addr×Obj)) from hp) (by simp),e0.hok.kept hk,?_⟩
 ·exact name_of_addr x.apart (PySem.mem_of_lookup h1) (PySem.mem_of_lookup h2)
 ·have hy:scope.names.lookup y=some .cell \/ scope.names.lookup y=some .free:=hy;rcases hy with hy | hy
  ·exact yG0 hy
  ·exact absurd rfl (S.nofree _ (PySem.mem_of_lookup hy))
 ·exact Ĩ (x.above y c (PySem.mem_of_lookup h))
 ·have hi:i<vs.length:=by
   unfold start at h2
   by_cases hi:i<vs.length
   ·exact hi
   ·rw[ş (by simpa using hi)]at h2;rw[List.getElem?_replicate]at h2
    split at h2<;>cases h2
  have ha:vs[i]?=some v:=by
   unfold start at h2;rw[Ũ (by simpa using hi),č]at h2;cases e:vs[i]? with
   | none=>rw[e]at h2;cases h2
   | some a=>rw[e]at h2;cases h2;rfl
  obtain⟨u,hu,rv⟩:=r.get ha;have hp:ps[i]?=some y:=by
   rw[<- S.pre,List.getElem?_take_of_lt (by lia)];exact h1
  have ndP:ps.Nodup:=by rw[<- S.pre];exact S.nd.sublist (List.take_sublist _ _)
  refine⟨u,rv,?_⟩;rcases S.par y (đ hp) with k | k
  ·exact .inl ⟨k,zY8 ndP hp hu k⟩
  ·obtain⟨c,e⟩:=yG0 (n:=s.heap.objs.size+1) k;refine .inr ⟨.inl k,c,e,?_⟩;have q:=x.cell y c e;rw[zZ0 ndP hp hu (by show scope.names.lookup y≠_;rw[k];decide)]at q;exact q
 ·exact e0.hok.fresh (Ĩ (x.above y c (PySem.mem_of_lookup h)))
 ·unfold start;show _=N.length;rw[Ĕ,ą,List.length_replicate];lia
theorem xK2 {CX:CXT}{P:Program}{w:World}{K:Ā}{mg:Str->Option Value}{base:Heap}{k:Nat}{f:Addr}{name qual:Str}{params:Arguments}{body:List Stmt}{scope:Scope}{dV kV doc pm cdv ct oc:Value}{an od:Option Addr}
  {osl:Array (Option Value)}{N ps:List Str}{sp:Sp}(lk:K.lookup f=some ⟨oc,od,.func (Ś name qual params body scope dV kV doc pm an cdv ct),osl⟩)(hcd:PySem.W.codeIn K cdv qual=true)(S:Ï N ps scope)
  (len:∀vs H Q E,sp vs H Q E->vs.length=ps.length)
  (hbody:∀(A:Around) (outer:List Env) (s:Shared) (H:Hp) (vs:List V) (Q:VK) (E:XK),Room k (A.deeper (envOfC qual scope s.heap.objs.size f cdv))->sp vs H Q E ->
   ∃t,PSs (cxOf CX P w K mg base N qual scope f cdv A outer s H E) body t /\ t { nx:=fun _ H'=>Q .non H',rt:=Q } (start N vs) H) :
  FnOk P w K mg base CX (k+1) f (Ś name qual params body scope dV kV doc pm an cdv ct) ps sp:=by
 refine⟨len,fun A outer s H args us vs Q E hr e0 hb r hsp=>?_⟩;have hl:=len _ _ _ _ hsp;have KX:K.In s.heap:=e0.mod.kin.keeps fun b o e=>(e0.bs b o e).1;have lim:s.heap.NoLimit:=e0.mod.nolimit.keeps fun b o e=>(e0.bs b o e).1;have hkind:∀y∈ps.zip us,scope.names.lookup y.1=some .local \/ (scope.names.lookup y.1=some .cell /\ ((cellsFrom (s.heap.objs.size+1) scope.names []).lookup y.1).isSome=true):=fun⟨n,v⟩ hy=>by
  rcases S.par n (List.of_mem_zip hy).1 with q | q
  ·exact .inl q
  ·exact .inr ⟨q,PySem.W.cellsFrom_some _ _ _ (.inl q)⟩
 refine codeAny_call_function hr.depth (KX _ _ lk) rfl S.co S.gen rfl (PySem.W.codeRec_of KX hcd) (hb _ _ _ _ ?_);refine wpAny_newFunctionEnv_cells S.kind hkind fun env he s1 x=>?_;subst he;refine⟨lim.keeps x.toInCall.keep,codeAny_func ?_⟩;obtain⟨t,ht,hq⟩:=hbody A outer s H vs Q E (hr.deeper _) hsp;have I:Inv (cxOf CX P w K mg base N qual scope f cdv A outer s H E) [] (start N vs) H s1:=yN7 S hr.hd e0 hl r x;refine wpAny_mono (ht [] s1 (start N vs) H _ I hq) (fun fl s' hs=>?_) fun e s' hs=>hs;have fin:∀{σ':St} {H':Hp} {v:V} {u:Value},Inv (cxOf CX P w K mg base N qual scope f cdv A outer s H E) [] σ' H' s'->RelV v u->Q v H'->CE outer P w H s Q u s' :=
  fun {σ' H' v u} J rv q=>⟨v,H',J.os,J.bare,J.base,J.hok,rv,q⟩
 cases fl with
 | ret u =>
  obtain⟨v,σ',H',J,rv,q⟩:=hs;exact fin J rv q
 | next =>
  obtain⟨σ',H',J,q⟩:=hs;exact fin (v:=V.non) (u:=Value.none) J rfl q
 | brk =>
  obtain⟨_,_,_,q⟩:=hs;exact False.elim q
 | cont =>
  obtain⟨_,_,_,q⟩:=hs;exact False.elim q
section
variable {X:Cx}{x:Str}{p pos:Pos}{e:Expr}{es:List Expr}{t:TA}{id T:String}{r:List V->Hp->VK->Prop}
noncomputable def tCB (r:List V->Hp->VK->Prop)(t:TA):TE:=fun σ H Q=>t σ H fun vs H1=>r vs H1 Q
theorem Ë (hc:δ X (.builtin id) r)(hg:Gl X x)(hm:X.mg x=none)(hv:bootBuiltins x=some (.builtin id))(ha:PA X (e::es) t)(hn:x ≠ "__name__":=by decide)(hdb:(x==("__debug__":Str))=false:=by decide)
  (he:starEach (e::es) X.env=(false,eval e X.env)::starEach es X.env:=by rfl)(hpl:(backTo pos (starEach es X.env)).any (·.1)=false:=by rfl):PE X (.Call (.Name x p) (e::es) [] pos) (tCB r t):=by
 intro pins s σ H Q I h;refine wpAny_Call_Name_kw (π I hg hm hv ?_ hn hdb);exact PyProof.Rows.callWith_builtin1 (thn (ha pos pins s σ H _ I h) fun us s1 ⟨vs,H1,I1,r1,q1⟩=>hc pins s1 σ H1 vs us Q I1 r1 q1) he hpl
theorem ÿ (hc:δ X (.type T) r)(hg:Gl X x)(hm:X.mg x=none)(hv:bootBuiltins x=some (.type T))(ha:PA X (e::es) t)(hn:x ≠ "__name__":=by decide)(hdb:(x==("__debug__":Str))=false:=by decide)
  (he:starEach (e::es) X.env=(false,eval e X.env)::starEach es X.env:=by rfl)(hpl:(backTo pos (starEach es X.env)).any (·.1)=false:=by rfl):PE X (.Call (.Name x p) (e::es) [] pos) (tCB r t):=by
 intro pins s σ H Q I h;refine wpAny_Call_Name_kw (π I hg hm hv ?_ hn hdb);exact PyProof.Rows.callWith_type1 (thn (ha pos pins s σ H _ I h) fun us s1 ⟨vs,H1,I1,r1,q1⟩=>hc pins s1 σ H1 vs us Q I1 r1 q1) he hpl
end
section
variable {κ:Type}[DecidableEq κ]
noncomputable def valV (kvs:List (κ×V))(k:κ):Option V:=(kvs.find? fun kv=>decide (kv.1=k)).map (·.2)
noncomputable def putK (kvs:List (κ×V))(k:κ)(v:V):List (κ×V) :=
 if (kvs.any fun kv=>decide (kv.1=k))=true then kvs.map (fun kv=>if kv.1=k then (kv.1,v) else kv) else kvs++[(k,v)]
theorem yD3 {p:κ×V}{r:List (κ×V)}{k:κ}(e:p.1=k):valV (p::r) k=some p.2:=by simp[valV,List.find?_cons,e]
theorem yD4 {p:κ×V}{r:List (κ×V)}{k:κ}(e:¬p.1=k):valV (p::r) k=valV r k:=by simp[valV,List.find?_cons,e]
theorem yD5 (k:κ):∀kvs:List (κ×V),(kvs.any fun kv=>decide (kv.1=k))=(valV kvs k).isSome
 | []=>rfl
 | p::r=>by
  rw[List.any_cons]
  by_cases e:p.1=k
  ·simp only[yD3 e,decide_eq_true e,Bool.true_or,Option.isSome_some]
  ·rw[yD4 e,decide_eq_false e,Bool.false_or];exact yD5 k r
theorem zO2 (kvs:List (κ×V))(k:κ)(v:V):(putK kvs k v).length<=kvs.length+1:=by
 unfold putK
 split
 ·rw[ą];lia
 ·rw[Ĕ,ī,List.length_nil];lia
theorem RelO.isSome_eq {o:Option V}{u:Option Value}(r:RelO o u):o.isSome=u.isSome:=by
 cases o with
 | none=>cases u with
  | none=>rfl
  | some _=>exact(show False from r).elim
 | some _=>cases u with
  | none=>exact(show False from r).elim
  | some _=>rfl
theorem KV.any {kvs:List (κ×V)}{vs:List (κ×Value)}(r:KV kvs vs)(k:κ):(kvs.any fun kv=>decide (kv.1=k))=vs.any fun kv=>decide (kv.1=k):=by
 unfold KV at r
 induction r with
 | nil=>rfl
 | cons h t ih=>rw[List.any_cons,List.any_cons,ih,h.1]
theorem KV.repl {kvs:List (κ×V)}{vs:List (κ×Value)}(r:KV kvs vs)(k:κ){y:V}{u:Value}(ry:RelV y u) :
  KV (kvs.map fun kv=>if kv.1=k then (kv.1,y) else kv) (vs.map fun kv=>if kv.1=k then (kv.1,u) else kv):=by
 unfold KV at r ⊢
 induction r with
 | nil=>exact .nil
 | @cons p q ps qs h t ih =>
  rw[ľ,ľ];refine .cons ?_ ih;obtain⟨h1,h2⟩:=h
  by_cases e:p.1=k
  ·rw[if_pos e,if_pos (h1.symm.trans e)];exact⟨h1,ry⟩
  ·rw[if_neg e,if_neg (fun z=>e (h1.trans z))];exact⟨h1,h2⟩
theorem KV.put {kvs:List (κ×V)}{vs:List (κ×Value)}(r:KV kvs vs)(k:κ){y:V}{u:Value}(ry:RelV y u):KV (putK kvs k y) (stored vs k u):=by
 unfold putK stored;rw[r.any k]
 by_cases e:(vs.any fun kv=>decide (kv.1=k))=true
 ·rw[if_pos e,if_pos e];exact r.repl k ry
 ·rw[if_neg e,if_neg e];exact Paired.snoc r ⟨rfl,ry⟩
theorem KV.length {kvs:List (κ×V)}{vs:List (κ×Value)}(r:KV kvs vs):kvs.length=vs.length:=Paired.length r
end
theorem xJ5 {P:Program}{w:World}{k:Key}{u:Value}(r:RelV (kV k) u):(Ŷ P w).is k u=true:=by
 cases k with
 | inl i=>obtain⟨t,e⟩:=(show ∃t,u=Value.int i t from r);subst e;exact yB9 P w i t
 | inr x=>obtain⟨t,e⟩:=(show ∃t,u=Value.str x t from r);subst e;exact yB8 P w x t
theorem zX3 {P:Program}{w:World}:∀{ks:List Key} {us:List Value},Vals (ks.map kV) us->ItemsAre (Ŷ P w) ks us
 | [],_,r=>by rw[List.map_nil]at r;cases r;exact .nil
 | k::ks,_,r=>by
  rw[ľ]at r;cases r with
  | cons h t=>exact .cons (xJ5 h) (zX3 t)
noncomputable abbrev KT (H:Hp):List (List Key×V)->List (List Key×Addr×Value)->Prop:=Paired fun p q=>p.1=q.1 /\ H q.2.1=some (.tup (p.1.map kV)) /\ RelV p.2 q.2.2
theorem KT.val {H:Hp}{kvs:List (List Key×V)}{xs:List (List Key×Addr×Value)}(r:KT H kvs xs)(k:List Key):RelO (valV kvs k) ((atKey xs k).map (·.2)):=by
 induction r with
 | nil=>exact True.intro
 | @cons p q ps qs h t ih =>
  obtain⟨h1,_,h2⟩:=h
  by_cases e:p.1=k
  ·have e':q.1=k:=h1.symm.trans e;have b:atKey (q::qs) k=some q.2:=by simp[atKey,List.find?_cons,e']
   rw[yD3 e,b];exact h2
  ·have e':¬q.1=k:=fun z=>e (h1.trans z);have b:atKey (q::qs) k=atKey qs k:=by simp[atKey,List.find?_cons,e']
   rw[yD4 e,b];exact ih
theorem KT.repl {H:Hp}{kvs:List (List Key×V)}{xs:List (List Key×Addr×Value)}(r:KT H kvs xs)(k:List Key){y:V}{u:Value}(ry:RelV y u) :
  KT H (kvs.map fun kv=>if kv.1=k then (kv.1,y) else kv) (xs.map (putAt k u)):=by
 induction r with
 | nil=>exact .nil
 | @cons p q ps qs h t ih =>
  rw[ľ,ľ];refine .cons ?_ ih;obtain⟨h1,h2,h3⟩:=h;unfold putAt
  by_cases e:p.1=k
  ·rw[if_pos e,if_pos (h1.symm.trans e)];exact⟨h1,h2,ry⟩
  ·rw[if_neg e,if_neg (fun z=>e (h1.trans z))];exact⟨h1,h2,h3⟩
theorem KT.put {H:Hp}{kvs:List (List Key×V)}{xs:List (List Key×Addr×Value)}(r:KT H kvs xs)(k:List Key){b:Addr}{y:V}{u:Value}(hb:H b=some (.tup (k.map kV)))(ry:RelV y u) :
  KT H (putK kvs k y) (storedH xs k b u):=by
 have e:(kvs.any fun kv=>decide (kv.1=k))=(atKey xs k).isSome:=by
  rw[yD5,(r.val k).isSome_eq,Option.isSome_map]
 unfold putK storedH;rw[e]
 by_cases q:(atKey xs k).isSome=true
 ·rw[if_pos q,if_pos q];exact r.repl k ry
 ·rw[if_neg q,if_neg q];exact Paired.snoc r ⟨rfl,hb,ry⟩
theorem KT.keeps {H H':Hp}{kvs:List (List Key×V)}{xs:List (List Key×Addr×Value)}(r:KT H kvs xs)(ht:∀b ys,H b=some (.tup ys)->H' b=some (.tup ys)):KT H' kvs xs :=
 Paired.mapP r fun _ _ z=>⟨z.1,ht _ _ z.2.1,z.2.2⟩
section
variable {P:Program}{w:World}{H:Hp}{h:Heap}{a:Addr}
theorem xG4 {u:HO}(ok:HOk P w H h)(e:Rd H a u):ObjOk P w H h a u:=e.ok ok
theorem xO9 {kvs:List (Key×V)}(ok:HOk P w H h)(e:Rd H a (.dK kvs)):kvs.length<=sizeLine /\ (a==sysModules)=false /\ ∃vs,KV kvs vs /\ h.DictOf (Ŷ P w) a vs :=
 show ObjOk P w H h a (.dK kvs) from xG4 ok e
theorem xP0 {kvs:List (Key×V)}(ok:HOk P w H h)(e:H a=some (.dK kvs)):kvs.length<=sizeLine /\ (a==sysModules)=false /\ ∃vs,KV kvs vs /\ h.DictOf (Ŷ P w) a vs:=xO9 ok (.inl e)
theorem yX8 {ks:List Key}(ok:HOk P w H h)(e:H a=some (.tup (ks.map kV))):(tupleKind (Ŷ P w)).is h ks a:=by
 obtain⟨_,its,r,o,h1,h2,n,h3⟩:=(show ObjOk P w H h a (.tup (ks.map kV)) from ok a _ e);exact⟨o,its.toArray,n,h1,h2,h3,by simpa using zX3 r⟩
theorem xO7 {kvs:List (List Key×V)}(ok:HOk P w H h)(e:Rd H a (.dT kvs)):kvs.length<=sizeLine /\ (a==sysModules)=false /\
  ∃xs,KT H kvs xs /\ h.DictOfH (tupleKind (Ŷ P w)) a xs:=by
 obtain⟨z,y,xs,r,o,es,ep,h1,h2,h3,h4,h5⟩:=(show ObjOk P w H h a (.dT kvs) from xG4 ok e);refine⟨z,y,xs,r,o,es,ep,h1,h2,h3,h4,fun x hx=>?_,h5⟩;have all:∀{l:List (List Key×V)} {m:List (List Key×Addr×Value)},KT H l m->∀x∈m,(tupleKind (Ŷ P w)).is h x.1 x.2.1:=by
  intro l m q
  induction q with
  | nil=>intro x hx;exact nomatch hx
  | @cons p q ps qs hq t ih =>
   intro x hx;rcases Ė.mp hx with e | hx
   ·subst e;exact yX8 ok (by rw[<- hq.1];exact hq.2.1)
   ·exact ih x hx
 exact all r x hx
theorem xO8 {kvs:List (List Key×V)}(ok:HOk P w H h)(e:H a=some (.dT kvs)):kvs.length<=sizeLine /\ (a==sysModules)=false /\
  ∃xs,KT H kvs xs /\ h.DictOfH (tupleKind (Ŷ P w)) a xs:=xO7 ok (.inl e)
end
noncomputable def DPut (H:Hp)(a:Addr)(y v:V)(H':Hp):Prop :=
 (∃kvs k,H a=some (.dK kvs) /\ y=kV k /\ kvs.length<sizeLine /\ H'=upd H a (.dK (putK kvs k v))) \/
 ∃kvs k b,H a=some (.dT kvs) /\ y = .ref b /\ H b=some (.tup (k.map kV)) /\ kvs.length<sizeLine /\ H'=upd H a (.dT (putK kvs k v))
theorem DPut.t {H:Hp}{a b:Addr}{kvs:List (List Key×V)}{k:List Key}{v:V}(e:H a=some (.dT kvs))(eb:H b=some (.tup (k.map kV)))(hl:kvs.length<sizeLine) :
  DPut H a (.ref b) v (upd H a (.dT (putK kvs k v))):=.inr ⟨kvs,k,b,e,rfl,eb,hl,rfl⟩
section
variable {X:Cx}{pins:List (Addr×Obj)}{σ:St}{H:Hp}{s:Shared}{a:Addr}{y v:V}{u r:Value}{o:Option V}{A:Around}{E:Value->Shared->Prop}
theorem Inv.big (I:Inv X pins σ H s):sysModules<s.heap.objs.size:=by
 have h:mainGlobals<s.heap.objs.size:=(I.mod.glob.keeps I.bk).lt;exact Nat.lt_trans (by decide) h
theorem yP7 {h':Heap}{t':Nat}{ob:HO}(I:Inv X pins σ H s)(mu:Mut (H a))(hs:Heap.SameBut a s.heap h')(he:∃q,h'.get? a=some q)(new:ObjOk X.prog X.w (upd H a ob) h' a ob) :
  Inv X pins σ (upd H a ob) { s with heap:=h',toks:=t' } :=
 I.write (x:=a) (e:=a) mu (.inl rfl) (fun b q hb z=>(hs.2 b hb).trans z) he new
theorem xK8 {P:Program}{w:World}{H':Hp}{h':Heap}{kvs:List (Key×V)}{vs:List (Key×Value)}(z:kvs.length<=sizeLine)(hd:(a==sysModules)=false)(rel:KV kvs vs)(dd:h'.DictOf (Ŷ P w) a vs) :
  ObjOk P w H' h' a (.dK kvs):=⟨z,hd,vs,rel,dd⟩
theorem yP8 {H':Hp}{Q:Unit->Shared->Prop}(hu:A.units+1<cLine)(I:Inv X pins σ H s)(g:DPut H a y v H')(ry:RelV y u)(rv:RelV v r)(h:∀s',Inv X pins σ H' s'->Q () s') :
  wpAny (model X.prog X.w) A (setItem (.ref a) u r) Q E s:=by
 rcases g with⟨kvs,k,e,ey,l,eH⟩ | ⟨kvs,k,b,e,ey,eb,l,eH⟩
 ·subst ey eH;obtain⟨z,hd,vs,rel,dd⟩:=xP0 I.hok e;have hz:vs.length<=sizeLine:=by rw[<- rel.length];exact z
  have hl:(putK kvs k v).length<=sizeLine:=by have:=zO2 kvs k v;lia
  refine wpAny_setItem_pairs (hsz:=hz) (xJ5 ry) dd fun h' dd' hs=>h _ ?_;have he:∃q,h'.get? a=some q:=let ⟨q,_,_,hq,_⟩:=dd';⟨q,hq⟩;exact yP7 I (by rw[e];exact True.intro) hs he (xK8 hl hd (rel.put k rv) dd')
 ·subst ey eH;cases (show u=Value.ref b from ry);obtain⟨z,hd,xs,rel,dd⟩:=xO8 I.hok e;have hz:xs.length<=sizeLine:=by rw[<- Paired.length rel];exact z
  have hl:(putK kvs k v).length<=sizeLine:=by have:=zO2 kvs k v;lia
  refine wpAny_setItem_heap (hsz:=hz) (tupleKind_room_in1 hu) (yX8 I.hok eb) dd fun h' dd' hs=>h _ ?_;obtain⟨q,es,ep,hq,h2,h3,h4,_,h5⟩:=dd';refine yP7 I (by rw[e];exact True.intro) hs ⟨q,hq⟩ ⟨hl,hd,_,(rel.put k eb rv).keeps fun c ys ec=>?_,q,es,ep,hq,h2,h3,h4,h5⟩;rw[upd_ne (zU2 ec e (fun z=>nomatch z))];exact ec
end
noncomputable def xN1 (td ty tv:TE):TS:=fun D σ H=>tv σ H fun v H1=>td σ H1 fun x H2=>ty σ H2 fun y H3=>∃a H4,x = .ref a /\ DPut H3 a y v H4 /\ D.nx σ H4
section
variable {X:Cx}{o i e value:Expr}{pos pos' tpos:Pos}{td ty tv:TE}
theorem xB2 (hu:X.A.units+1<cLine)(ho:PE X o td)(hi:PE X i ty)(hv:PE X value tv)(hs:swapsWith value (some (.Subscript o i pos')) pos.line X.env=pure false) :
  PS X (.Assign [.Subscript o i pos'] value pos) (xN1 td ty tv):=by
 intro pins s σ H D I h;refine wpAny_Assign_Subscript (thn (hv pins s σ H _ I h) fun r s1 ⟨v,H1,I1,rv,q1⟩=>thn (ho pins s1 σ H1 _ I1 q1) fun u s2 ⟨x,H2,I2,rx,q2⟩=>thn (hi pins s2 σ H2 _ I2 q2) fun iv s3 ⟨y,H3,I3,ry,a,H4,ex,g,q3⟩=>?_) hs;subst ex;obtain rfl:u=Value.ref a:=rx;exact yP8 hu I3 g ry rv fun s4 I4=>⟨σ,H4,I4,q3⟩
end
theorem yU7 {P:Program}{w:World}{H:Hp}(h:Heap)(hb:sysModules<h.objs.size):ObjOk P w H (h.push { cls:=.type "dict",data:=.dict #[] }) h.objs.size (.dT []) :=
 ⟨Ń _,beq_eq_false_iff_ne.mpr (Ne.symm (Ķ hb)),[],.nil,_,#[],0,ě _ rfl,⟨rfl,rfl,rfl⟩,rfl,rfl,List.nodup_nil⟩
noncomputable def yW1:TE:=fun _ H Q=>∀p,H p=none->Q (.ref p) (upd H p (.dT []))
section
variable {X:Cx}{pos:Pos}
theorem yE8:PE X (.Dict [] [] pos) yW1:=fun pins s σ H Q I h =>
 wpAny_Dict_empty ⟨.ref s.heap.objs.size,_,I.laid (a:=s.heap.objs.size) (o:=.dT []) (t':=s.toks) (fun _ _ q=>Č _ q) (Ć _) (yU7 s.heap I.big),rfl,h _ (I.hok.fresh (Ć _))⟩
end
end L2
namespace HT
open PySem PyProof.Rows
section
variable {prog:Program}{w:World}{A:Around}{E:Value->Shared->Prop}{s:Shared}
noncomputable def sIx (n d:Nat):Option Int->Nat
 | none=>d
 | some v=>if v<0 then (v+(n:Int)).toNat else min v.toNat n
theorem sIx_none (n d:Nat):sIx n d none=d:=rfl
theorem sIx_nat (n d k:Nat):sIx n d (some (k:Int))=min k n:=by
 show (if (k:Int)<0 then ((k:Int)+(n:Int)).toNat else min (k:Int).toNat n)=min k n;rw[if_neg (by lia),ń]
end
end HT
namespace L2
open PySem PySem.Spec PyProof.Rows
noncomputable abbrev TO:=St->Hp->(Option Int->Hp->Prop)->Prop
noncomputable def PO (X:Cx)(e:Option Expr)(t:TO):Prop :=
 ∀(pins:List (Addr×Obj)) (s:Shared) (σ:St) (H:Hp) (Q:Option Int->Hp->Prop),Inv X pins σ H s->t σ H Q ->
  wpAny (model X.prog X.w) X.A (evalPart e X.env) (fun u s'=>∃o H',Inv X pins σ H' s' /\ IsPart u o /\ Q o H') X.xe s
noncomputable def yZ5:TO:=fun _ H Q=>Q none H
noncomputable def xM7 (t:TE):TO:=fun σ H Q=>t σ H fun x H1=>∃i,x = .int i /\ Q (some i) H1
section
variable {X:Cx}{e:Expr}{te:TE}{lo hi:Option Expr}{tl th:TO}{pos p2:Pos}
theorem yA7:PO X none yZ5:=by
 intro pins s σ H Q I h;rw[evalPart_none];exact wpAny_pure ⟨none,H,I,.none,h⟩
theorem Ξ (h:PE X e te):PO X (some e) (xM7 te):=by
 intro pins s σ H Q I hw;rw[evalPart_some];refine thn (h pins s σ H _ I hw) fun u s1 ⟨x,H1,I1,r1,q1⟩=>?_;obtain⟨i,rfl,q⟩:=q1;obtain⟨t,rfl⟩:=r1;exact⟨some i,H1,I1,.int i t,q⟩
noncomputable def SlR (X:Cx)(r:V->Option Int->Option Int->Hp->VK->Prop):Prop :=
 ∀(pins:List (Addr×Obj)) (s:Shared) (σ:St) (H:Hp) (x:V) (v vl vu:Value) (lo hi:Option Int) (sl:Addr) (Q:VK),Inv X pins σ H s->RelV x v->s.heap.IsSliceOf sl vl vu .none->IsPart vl lo->IsPart vu hi->r x lo hi H Q ->
  ∃T id,typeLookup (.type T) "__getitem__" = pure (some (.builtin id)) /\ s.TypeIs v T /\ wpAny (model X.prog X.w) X.A (getItem v (.ref sl)) (EP X pins σ Q) X.xe s
noncomputable def tSl (r:V->Option Int->Option Int->Hp->VK->Prop)(te:TE)(tl th:TO):TE:=fun σ H Q=>te σ H fun x H1=>tl σ H1 fun l H2=>th σ H2 fun u H3=>r x l u H3 Q
theorem zD5 {r:V->Option Int->Option Int->Hp->VK->Prop}(hr:SlR X r)(he:PE X e te)(hl:PO X lo tl)(hu:PO X hi th):PE X (.Subscript e (.Slice lo hi none p2) pos) (tSl r te tl th):=by
 intro pins s σ H Q I h;refine Subscript_ (thn (he pins s σ H _ I h) fun v s1 ⟨x,H1,I1,r1,q1⟩=>?_);refine wpAny_Slice (thn (hl pins s1 σ H1 _ I1 q1) fun vl s2 ⟨l,H2,I2,pl,q2⟩=>thn (hu pins s2 σ H2 _ I2 q2) fun vu s3 ⟨u,H3,I3,pu,q3⟩=>?_);rw[evalPart_none];refine wpAny_pure ?_;have I4:Inv X pins σ H3 { s3 with heap:=s3.heap.push { cls:=.type "slice",data:=.fields #[vl,vu,.none] } }:=I3.kept (t':=s3.toks) fun b ob q=>Č _ q;obtain⟨T,id,hT,ht,hg⟩:=hr pins { s3 with heap:=s3.heap.push { cls:=.type "slice",data:=.fields #[vl,vu,.none] } } σ H3 x v vl vu l u s3.heap.objs.size Q I4 r1 (Heap.IsSliceOf.new ..) pl pu q3;show wpAny (model X.prog X.w) X.A (subscriptTail e (.Slice lo hi none p2) v (.ref s3.heap.objs.size)) (EP X pins σ Q) X.xe { s3 with heap:=s3.heap.push { cls:=.type "slice",data:=.fields #[vl,vu,.none] } };exact tail_any (ops:=[.ref s3.heap.objs.size,v]) ht hT hg (by with_unfolding_all rfl)
noncomputable def cutV (xs:List V)(lo hi:Option Int):List V:=(xs.drop (HT.sIx xs.length 0 lo)).take (HT.sIx xs.length xs.length hi - HT.sIx xs.length 0 lo)
theorem yC2 (xs:List V)(lo hi:Option Int):(cutV xs lo hi).length<=xs.length:=by
 unfold cutV;rw[Ĥ,List.length_drop];lia
end
noncomputable def ixN (n:Nat)(i:Int):Option Nat:=if 0<=i then (if i<n then some i.toNat else none) else if -(n:Int)<=i then some (i+n).toNat else none
noncomputable def atI {α:Type}(xs:List α)(i:Int):Option α:=(ixN xs.length i).bind fun j=>xs[j]?
theorem yN5 {n:Nat}{i:Int}{j:Nat}(h:ixN n i=some j):seqIndex? i n=some j /\ j<n /\ -(n:Int)<=i /\ i<n:=by
 unfold ixN at h
 by_cases h0:0<=i
 ·rw[if_pos h0]at h
  by_cases h1:i<n
  ·rw[if_pos h1]at h;have e:i.toNat=j:=Option.some.inj h;exact⟨by rw[seqIndex_of h0 h1,e],by lia,by lia,h1⟩
  ·rw[if_neg h1]at h;cases h
 ·rw[if_neg h0]at h
  by_cases h1:-(n:Int)<=i
  ·rw[if_pos h1]at h;have e:(i+n).toNat=j:=Option.some.inj h;exact⟨by rw[seqIndex_neg (by lia) h1,e],by lia,h1,by lia⟩
  ·rw[if_neg h1]at h;cases h
theorem yC6 {α:Type}{xs:List α}{i:Int}{v:α}(h:atI xs i=some v):∃j,seqIndex? i xs.length=some j /\ xs[j]?=some v /\ j<xs.length /\ -(xs.length:Int)<=i /\ i<xs.length:=by
 unfold atI at h;cases e:ixN xs.length i with
 | none=>rw[e]at h;cases h
 | some j =>
  rw[e]at h;obtain⟨h1,h2,h3,h4⟩:=yN5 e;exact⟨j,h1,h,h2,h3,h4⟩
theorem Ŭ {α:Type}{xs:List α}{j:Nat}{v:α}(h:xs[j]?=some v):atI xs (j:Int)=some v:=by
 have hj:j<xs.length:=(Ą.mp h).1;have e:ixN xs.length (j:Int)=some j:=by
  unfold ixN;rw[if_pos (by lia),if_pos (by lia)];simp
 unfold atI;rw[e];exact h
noncomputable def yC8 (b:Expr):Prop:=∀o i,subscripted b false o i=operate [o,i] (getItem o i)
noncomputable def IxR (X:Cx)(r:R2):Prop :=
 ∀(value slice:Expr) (pins:List (Addr×Obj)) (s:Shared) (σ:St) (H:Hp) (x y:V) (v u:Value) (Q:VK),Inv X pins σ H s->RelV x v->RelV y u->r x y H Q ->
  subscripted slice false v u=operate [v,u] (getItem v u)->wpAny (model X.prog X.w) X.A (subscriptTail value slice v u) (EP X pins σ Q) X.xe s
noncomputable def MtR (X:Cx)(id:String)(r:V->List V->Hp->VK->Prop):Prop :=
 ∀(pins:List (Addr×Obj)) (s:Shared) (σ:St) (H:Hp) (x:V) (xs:List V) (v:Value) (us:List Value) (Q:VK),Inv X pins σ H s->RelV x v->Vals xs us->r x xs H Q ->
  wpAny (model X.prog X.w) X.A (call (.builtin id) (v::us)) (EP X pins σ Q) X.xe s
section
variable {X:Cx}{a b:Expr}{ta tb:TE}{pos:Pos}
theorem xB6 {r:R2}(hr:IxR X r)(ha:PE X a ta)(hb:PE X b tb)(hs:yC8 b):PE X (.Subscript a b pos) (tOp r ta tb):=by
 intro pins s σ H Q I h;exact Subscript_ (binT ha hb I h fun v u s2 x y H2 I2 rx ry q=>hr a b pins s2 σ H2 x y v u Q I2 rx ry q (hs _ _))
noncomputable def rIxL (K:Ā):R2:=fun x y H Q=>∃p xs i v,x = .ref p /\ y = .int i /\ SqL K H p xs /\ atI xs i=some v /\ Q v H
noncomputable def rIxT (K:Ā):R2:=fun x y H Q=>∃p xs i v,x = .ref p /\ y = .int i /\ SqT K H p xs /\ atI xs i=some v /\ Q v H
noncomputable def rIxS:R2:=fun x y H Q=>∃z i c,x = .str z /\ y = .int i /\ z.length<=sizeLine /\ atI z.cps.toList i=some c /\ Q (.str ⟨#[c]⟩) H
theorem xD0:IxR X (rIxL X.K):=by
 intro value slice pins s σ H x y v u Q I rx ry h hs;obtain⟨p,xs,i,z,rfl,rfl,hq,he,q⟩:=h;cases rx;obtain⟨t,rfl⟩:=ry;obtain⟨its,r,pl,hz⟩:=I.list hq;obtain⟨j,h1,h2,h3,h4,h5⟩:=yC6 he;obtain⟨w,ew,rw'⟩:=r.get h2;have hl:=r.length;have hn:=zX2;have fin:EP X pins σ Q w s:=⟨z,H,I,rw',q⟩
 by_cases h0:0<=i
 ·have hj:i.toNat=j:=by
   rw[seqIndex_of h0 h5]at h1;exact Option.some.inj h1
  exact item_listR pl.isList h0 (by lia) (by rw[hj];simpa using ew) fin hs
 ·have hj:(i+(its.toArray.size:Int)).toNat=j:=by
   rw[seqIndex_neg (by lia) h4]at h1;rw[ĝ,<- hl];exact Option.some.inj h1
  exact subscriptTail_builtinR (x:=w) pl.isList.typeIs slot_list_getitem.lookup
   (wpAny_getItem_list_neg (Q:=fun r s'=>r=w /\ EP X pins σ Q r s') pl.isList (by lia) (by rw[ĝ]<;>lia) (by lia) (by rw[hj];simpa using ew) ⟨rfl,fin⟩) hs
theorem xJ6:IxR X (rIxT X.K):=by
 intro value slice pins s σ H x y v u Q I rx ry h hs;obtain⟨p,xs,i,z,rfl,rfl,hq,he,q⟩:=h;cases rx;obtain⟨t,rfl⟩:=ry;obtain⟨its,r,pl,hz⟩:=I.tuple hq;obtain⟨j,h1,h2,h3,h4,h5⟩:=yC6 he;obtain⟨w,ew,rw'⟩:=r.get h2;have hl:=r.length;have hn:=zX2;have fin:EP X pins σ Q w s:=⟨z,H,I,rw',q⟩;exact subscriptTail_builtinR (x:=w) pl.typeIs slot_tuple_getitem.lookup
  (getItem_tuple (j:=j) (Q:=fun r s'=>r=w /\ EP X pins σ Q r s') pl (by lia) (by lia) (by rw[ĝ,<- hl];exact h1) (by simpa using ew) ⟨rfl,fin⟩) hs
theorem xJ7:IxR X rIxS:=by
 intro value slice pins s σ H x y v u Q I rx ry h hs;obtain⟨z,i,c,rfl,rfl,hz,he,q⟩:=h;obtain⟨t,rfl⟩:=rx;obtain⟨t',rfl⟩:=ry;obtain⟨j,h1,h2,h3,h4,h5⟩:=yC6 he;have hl:z.cps.toList.length=z.length:=by simp[Str.length]
 rw[hl]at h1 h4 h5;have hn:=zX2;exact tail_any (typeIs_str s z t) slot_str_getitem.lookup (getItem_str (c:=c) (by
  have e1:decide (i < -(2^63:Int))=false:=decide_eq_false (by lia);have e2:decide (i ≥ 2^63)=false:=decide_eq_false (by lia);rw[e1,e2,Bool.or_false]) (by rw[h1];simpa using h2) ⟨.str ⟨#[c]⟩,H,I.tok _,⟨_,rfl⟩,q⟩) hs
theorem yH9 (its:List Value)(n j:Nat)(u:Value):Obj.mapSeq (·.setIfInBounds j u) { cls:=.type "list",data:=.seq its.toArray n }={ cls:=.type "list",data:=.seq (its.set j u).toArray n }:=by
 simp[Obj.mapSeq]
theorem Inv.lst {pins:List (Addr×Obj)}{σ:St}{H:Hp}{s:Shared}{p:Addr}{xs:List V}(I:Inv X pins σ H s)(h:H p=some (.lst xs)) :
  ∃(its:List Value) (n:Nat),Vals xs its /\ s.heap.get? p=some { cls:=.type "list",data:=.seq its.toArray n } /\ xs.length<=sizeLine:=by
 obtain⟨z,its,n,r,e⟩:=I.hok p _ h;exact⟨its,n,r,e,z⟩
theorem Inv.lstUpd {pins:List (Addr×Obj)}{σ:St}{H:Hp}{s:Shared}{p:Addr}{xs ys:List V}{its its':List Value}{n n':Nat}{f:Obj->Obj}(I:Inv X pins σ H s)(h:H p=some (.lst xs))
  (ho:s.heap.get? p=some { cls:=.type "list",data:=.seq its.toArray n })(hf:f { cls:=.type "list",data:=.seq its.toArray n }={ cls:=.type "list",data:=.seq its'.toArray n' })(r:Vals ys its')(hz:ys.length<=sizeLine)(t:Nat) :
  Inv X pins σ (upd H p (.lst ys)) { s with heap:=s.heap.update p f,toks:=t }:=by
 have e:(s.heap.update p f).get? p=some { cls:=.type "list",data:=.seq its'.toArray n' }:=by
  rw[Heap.get?_update_self f ho (by rw[hf]<;>rfl),hf]
 refine I.write (x:=p) (e:=p) (by rw[h];trivial) (.inl rfl) (fun b u hb q=>(Heap.get?_update_other _ _ (Ne.symm hb)).trans q) ⟨_,e⟩ ?_;exact⟨hz,its',n',r,e⟩
noncomputable def xN3:V->V->V->Hp->(Hp->Prop)->Prop:=fun o i v H Q=>∃p xs k j,o = .ref p /\ i = .int k /\ H p=some (.lst xs) /\ ixN xs.length k=some j /\ Q (upd H p (.lst (xs.set j v)))
theorem Ι:PSet X xN3:=by
 intro pins s σ H o i v ov iv u Q I ro ri rv h;obtain⟨p,xs,k,j,rfl,rfl,hp,hj,q⟩:=h;cases ro;obtain⟨t,rfl⟩:=ri;obtain⟨its,n,r,ho,hz⟩:=I.lst hp;obtain⟨h1,h2,h3,h4⟩:=yN5 hj;have hl:=r.length;have hn:=zX2;have I':Inv X pins σ (upd H p (.lst (xs.set j v))) { s with heap:=s.heap.update p (Obj.mapSeq (·.setIfInBounds j u)) } :=
  I.lstUpd hp ho (yH9 its n j u) (r.set rv j) (by rw[List.length_set];exact hz) s.toks
 by_cases h0:0<=k
 ·have hk:k.toNat=j:=by
   rw[seqIndex_of h0 h4]at h1;exact Option.some.inj h1
  exact PySem.W.ki_setAt ho h0 (by lia) (by rw[ĝ,<- hl];exact h4) (by rw[hk];exact⟨_,I',q⟩)
 ·have hk:(k+(its.toArray.size:Int)).toNat=j:=by
   rw[seqIndex_neg (by lia) h3]at h1;rw[ĝ,<- hl];exact Option.some.inj h1
  exact PySem.W.ki_setBack ho (by lia) (by rw[ĝ,<- hl];exact h3) (by lia) (by rw[hk];exact⟨_,I',q⟩)
theorem zW4 (lo hi:Option Int)(n:Nat):(sliceBounds lo hi none n).1=((HT.sIx n 0 lo:Nat):Int) /\ (sliceBounds lo hi none n).2.1=((HT.sIx n n hi:Nat):Int) /\ (sliceBounds lo hi none n).2.2=1:=by
 refine⟨?_,?_,rfl⟩
 ·cases lo with
  | none=>simp[sliceBounds,HT.sIx]
  | some i =>
   simp only[sliceBounds,HT.sIx,Option.getD_none,show (1:Int) > 0 by decide,if_true]
   by_cases h:i<0
   ·simp only[h,if_true]<;>lia
   ·simp only[h,if_false]<;>lia
 ·cases hi with
  | none=>simp[sliceBounds,HT.sIx]
  | some i =>
   simp only[sliceBounds,HT.sIx,Option.getD_none,show (1:Int) > 0 by decide,if_true]
   by_cases h:i<0
   ·simp only[h,if_true]<;>lia
   ·simp only[h,if_false]<;>lia
theorem zR3 (its:List Value)(lo hi:Option Int):slicePick its.toArray lo hi none=((its.drop (HT.sIx its.length 0 lo)).take (HT.sIx its.length its.length hi - HT.sIx its.length 0 lo)).toArray:=by
 obtain⟨h1,h2,h3⟩:=zW4 lo hi its.toArray.size;unfold slicePick;rw[h1,h2,h3];simp only[sliceRange_one,pick_run,ĝ]<;>rfl
noncomputable def rSlL (K:Ā):V->Option Int->Option Int->Hp->VK->Prop:=fun x lo hi H Q=>∃a xs,x = .ref a /\ SqL K H a xs /\ ∀p,H p=none->Q (.ref p) (upd H p (.lst (cutV xs lo hi)))
theorem xA2:SlR X (rSlL X.K):=by
 intro pins s σ H x v vl vu lo hi sl Q I rx hs pl pu h;obtain⟨a,xs,rfl,hx,q⟩:=h;cases rx;obtain⟨its,r,ht,hz⟩:=I.list hx;have hlen:=r.length;refine⟨"list",_,slot_list_getitem.lookup,ht.isList.typeIs,?_⟩;refine wpAny_getItem_list_slice ht.isList hs pl pu .none (by simp) ?_ (by rw[ĝ]<;>lia);rw[zR3,<- hlen];refine⟨.ref s.heap.objs.size,_,I.laid (t':=s.toks) (o:=.lst (cutV xs lo hi)) (fun b ob q=>Č _ q) (Ć _) ?_,rfl,q _ (I.hok.fresh (Ć _))⟩;exact⟨ĉ (yC2 xs lo hi) hz,_,0,(r.drop (HT.sIx xs.length 0 lo)).take (HT.sIx xs.length xs.length hi - HT.sIx xs.length 0 lo),ě _ rfl⟩
noncomputable def ς:V->Bool
 | .non=>true
 | .bl _=>true
 | .int _=>true
 | .str _=>true
 | _=>false
noncomputable def eqV:V->V->Bool
 | .non,.non=>true
 | .bl a,.bl b=>a==b
 | .bl a,.int b=>(if a then 1 else 0)==b
 | .int a,.bl b=>a==(if b then 1 else 0)
 | .int a,.int b=>a==b
 | .str a,.str b=>a==b
 | _,_=>false
theorem xK7 {A:Around}{s:Shared}{y x:V}{u v:Value}(ry:RelV y u)(rx:RelV x v)(fy:ς y=true)(fx:ς x=true):SeqAt.EqAt A s u v (eqV y x):=by
 cases y with
 | non =>
  cases ry;cases x with
  | non=>cases rx;exact SeqAt.EqAt.same _
  | bl b=>cases rx;exact SeqAt.EqAt.none_bool b
  | int b=>obtain⟨t,rfl⟩:=rx;exact SeqAt.EqAt.none_int b t
  | str b=>obtain⟨t,rfl⟩:=rx;exact SeqAt.EqAt.none_str b t
  | _=>exact absurd (show false=true from fx) Ď
 | bl a =>
  cases ry;cases x with
  | non=>cases rx;exact SeqAt.EqAt.bool_none a
  | bl b=>cases rx;exact SeqAt.EqAt.bool_bool a b
  | int b=>obtain⟨t,rfl⟩:=rx;exact SeqAt.EqAt.bool_int a b t
  | str b=>obtain⟨t,rfl⟩:=rx;exact SeqAt.EqAt.bool_str a b t
  | _=>exact absurd (show false=true from fx) Ď
 | int a =>
  obtain⟨t',rfl⟩:=ry;cases x with
  | non=>cases rx;exact SeqAt.EqAt.int_none a t'
  | bl b=>cases rx;exact SeqAt.EqAt.int_bool a t' b
  | int b=>obtain⟨t,rfl⟩:=rx;exact SeqAt.EqAt.int_int a t' b t
  | str b=>obtain⟨t,rfl⟩:=rx;exact SeqAt.EqAt.int_str a t' b t
  | _=>exact absurd (show false=true from fx) Ď
 | str a =>
  obtain⟨t',rfl⟩:=ry;cases x with
  | non=>cases rx;exact SeqAt.EqAt.str_none a t'
  | bl b=>cases rx;exact SeqAt.EqAt.str_bool a t' b
  | int b=>obtain⟨t,rfl⟩:=rx;exact SeqAt.EqAt.str_int a t' b t
  | str b=>obtain⟨t,rfl⟩:=rx;exact SeqAt.EqAt.str_str a t' b t
  | _=>exact absurd (show false=true from fx) Ď
 | _=>exact absurd (show false=true from fy) Ď
noncomputable def eqU (x:V)(u:Value):Bool:=match u with
 | .none=>eqV .non x
 | .bool b=>eqV (.bl b) x
 | .int i _=>eqV (.int i) x
 | .str z _=>eqV (.str z) x
 | _=>false
theorem yO8 {x y:V}{u:Value}(r:RelV y u)(f:ς y=true):eqU x u=eqV y x:=by
 cases y with
 | non=>cases r;rfl
 | bl b=>cases r;rfl
 | int i=>obtain⟨t,rfl⟩:=r;rfl
 | str z=>obtain⟨t,rfl⟩:=r;rfl
 | _=>exact absurd (show false=true from f) Ď
theorem yC7 {x:V}:∀{xs:List V} {us:List Value},Vals xs us->xs.all ς=true->us.any (eqU x)=xs.any fun y=>eqV y x
 | _,_,.nil,_=>rfl
 | y::xs,u::us,.cons r t,f=>by
  rw[List.all_cons,Œ]at f;rw[List.any_cons,List.any_cons,yO8 r f.1,yC7 t f.2]
theorem zM0 {A:Around}{s:Shared}{x:V}{v:Value}(rx:RelV x v)(fx:ς x=true):∀{xs:List V} {us:List Value},Vals xs us->xs.all ς=true->∀u∈us,SeqAt.EqAt A s u v (eqU x u)
 | _,_,.nil,_=>fun u hu=>by cases hu
 | y::xs,u::us,.cons r t,f=>fun u' hu=>by
  rw[List.all_cons,Œ]at f;rcases Ė.mp hu with rfl | hu
  ·rw[yO8 r f.1];exact xK7 r rx f.1 fx
  ·exact zM0 rx fx t f.2 u' hu
noncomputable def inV (x:V)(xs:List V):Bool:=xs.any fun y=>eqV y x
noncomputable def rIn (K:Ā)(neg:Bool):R2:=fun x y H Q=>∃p xs,y = .ref p /\ (SqL K H p xs \/ SqT K H p xs) /\ ς x=true /\ xs.all ς=true /\ Q (.bl (if neg then !inV x xs else inV x xs)) H
theorem yL6:OpR X (compareOp .In) (rIn X.K false):=by
 intro pins s σ H x y v u Q I rx ry h;obtain⟨p,xs,rfl,hq,fx,fs,q⟩:=h;cases ry;rcases hq with hq | hq
 ·obtain⟨its,r,pl,hz⟩:=I.list hq;refine SeqAt.in_listAt (eqU x) pl.isList (fun w hw=>zM0 rx fx r fs w (by simpa using hw)) ⟨.bl _,H,I,rfl,?_⟩;rw[show its.toArray.any (eqU x)=its.any (eqU x) by simp,yC7 r fs];exact q
 ·obtain⟨its,r,pl,hz⟩:=I.tuple hq;refine SeqAt.in_tupleAt (eqU x) pl (fun w hw=>zM0 rx fx r fs w (by simpa using hw)) ⟨.bl _,H,I,rfl,?_⟩;rw[show its.toArray.any (eqU x)=its.any (eqU x) by simp,yC7 r fs];exact q
theorem zY4:δ X (.type "list") (fun xs H Q=>∃p ys,xs=[.ref p] /\ (SqL X.K H p ys \/ SqT X.K H p ys) /\ ∀l,H l=none->Q (.ref l) (upd H l (.lst ys))):=by
 intro pins s σ H xs us Q I r h;obtain⟨p,ys,rfl,hq,q⟩:=h;obtain⟨u,rfl,rx⟩:=τ r;cases rx;have fin:∀(its:List Value),Vals ys its->ys.length<=sizeLine->∀(h':Heap) (c':Nat),(∀b o',s.heap.get? b=some o'->h'.get? b=some o') ->
   h'.get? s.heap.objs.size=some { cls:=.type "list",dict:=none,data:=.seq its.toArray c',slots:=#[] }->EP X pins σ Q (.ref s.heap.objs.size) { s with heap:=h' }:=fun its r' hz h' c' kp e =>
  ⟨.ref s.heap.objs.size,_,I.laid (t':=s.toks) kp (Ć _) (show ObjOk X.prog X.w _ h' _ (.lst ys) from⟨hz,its,c',r',e⟩),rfl,q _ (I.hok.fresh (Ć _))⟩
 rcases hq with hq | hq
 ·obtain⟨its,r',pl,hz⟩:=I.list hq;have hlen:=r'.length;obtain⟨o,ho,hc,n,hd⟩:=pl.isList;exact call_list_seq p (.inl rfl) ho hc hd (fun h' c' kp e=>fin its r' hz h' c' kp e) (by simp only[ĝ]<;>lia)
 ·obtain⟨its,r',pl,hz⟩:=I.tuple hq;have hlen:=r'.length;obtain⟨o,ho,hc,n,hd⟩:=pl;exact call_list_seq p (.inr rfl) ho hc hd (fun h' c' kp e=>fin its r' hz h' c' kp e) (by simp only[ĝ]<;>lia)
theorem zV3:δ X (.type "tuple") (fun xs H Q=>∃p ys,xs=[.ref p] /\ ((SqL X.K H p ys /\ ∀l,H l=none->Q (.ref l) (upd H l (.tup ys))) \/ (SqT X.K H p ys /\ Q (.ref p) H))):=by
 intro pins s σ H xs us Q I r h;obtain⟨p,ys,rfl,h⟩:=h;obtain⟨u,rfl,rx⟩:=τ r;cases rx;rcases h with⟨hq,q⟩ | ⟨hq,q⟩
 ·obtain⟨its,r',pl,hz⟩:=I.list hq;have hlen:=r'.length;refine call_tuple_list pl.isList (fun h' kp=>?_) (by simp only[ĝ]<;>lia);have I1:Inv X pins σ H { s with heap:=h' }:=I.kept (t':=s.toks) kp;have I2:Inv X pins σ (upd H h'.objs.size (.tup ys)) { s with heap:=h'.push { cls:=.type "tuple",data:=.seq its.toArray } } :=
   I1.laid (t':=s.toks) (fun b o e=>Č _ e) (Ć _) (show ObjOk X.prog X.w _ _ _ (.tup ys) from⟨hz,its,r',IsTup.new _ _⟩)
  exact⟨.ref h'.objs.size,_,I2,rfl,q _ (I1.hok.fresh (Ć _))⟩
 ·obtain⟨its,r',pl,hz⟩:=I.tuple hq;exact call_tuple_same pl ⟨.ref p,H,I,rfl,q⟩
noncomputable def tyV (K:Ā)(T:String)(x:V)(H:Hp):Prop:=match x with
 | .str _=>T = "str"
 | .int _=>T = "int"
 | .ref p=>(T = "list" /\ ∃xs,SqL K H p xs) \/ (T = "tuple" /\ ∃o,K.lookup p=some o /\ o.cls = .type "tuple" /\ o.dict=none) \/
   (T = "dict" /\ ((∃kvs,H p=some (.dK kvs)) \/ ∃kvs,H p=some (.dT kvs))) \/ (T = "set" /\ ∃S n,H p=some (.set S n))
 | _=>False
theorem yV9 {pins:List (Addr×Obj)}{σ:St}{H:Hp}{s:Shared}{T:String}{x:V}{v:Value}(I:Inv X pins σ H s)(r:RelV x v)(ty:tyV X.K T x H) :
  s.TypeIs v T /\ ∀a,v = .ref a->∃ob,s.heap.get? a=some ob /\ ob.dict=none:=by
 cases x with
 | str z =>
  obtain⟨t,rfl⟩:=r;cases (show T = "str" from ty);exact⟨typeIs_str s z t,fun _ e=>nomatch e⟩
 | int i =>
  obtain⟨t,rfl⟩:=r;cases (show T = "int" from ty);exact⟨typeIs_int s i t,fun _ e=>nomatch e⟩
 | ref p =>
  cases r;rcases ty with⟨rfl,xs,hq⟩ | ⟨rfl,o,hk,hc,hd⟩ | ⟨rfl,hk⟩ | ⟨rfl,S,n,hk⟩
  ·obtain⟨its,_,pl,_⟩:=I.list hq;refine⟨pl.isList.typeIs,fun a e=>?_⟩;cases e;obtain⟨o,n,e,c,hd,_⟩:=pl;exact⟨o,e,hd⟩
  ·refine⟨⟨o,I.kIn p o hk,hc⟩,fun a e=>?_⟩;cases e;exact⟨o,I.kIn _ o hk,hd⟩
  ·have z:∃o,s.heap.get? p=some o /\ o.ExactDict:=by
    rcases hk with⟨kvs,hk⟩ | ⟨kvs,hk⟩
    ·obtain⟨_,_,_,_,o,_,_,e,ex,_⟩:=I.hok p _ hk;exact⟨o,e,ex⟩
    ·obtain⟨_,_,_,_,o,_,_,e,ex,_⟩:=I.hok p _ hk;exact⟨o,e,ex⟩
   obtain⟨o,e,ex⟩:=z;refine⟨⟨o,e,ex.1⟩,fun a e2=>?_⟩;cases e2;exact⟨o,e,ex.2.1⟩
  ·obtain⟨o,_,_,_,e,ex,_⟩:=I.hok p _ hk;refine⟨⟨o,e,ex.1⟩,fun a e2=>?_⟩;cases e2;exact⟨o,e,ex.2.1⟩
 | _=>exact False.elim ty
noncomputable def tBM0 (K:Ā)(T:String)(r:V->List V->Hp->VK->Prop)(to:TE):TE:=fun σ H Q=>to σ H fun x H1=>tyV K T x H1 /\ r x [] H1 Q
noncomputable def tBM (K:Ā)(T:String)(r:V->List V->Hp->VK->Prop)(to:TE)(t:TA):TE:=fun σ H Q=>to σ H fun x H1=>tyV K T x H1 /\ t σ H1 fun xs H2=>r x xs H2 Q
variable {o e:Expr}{es:List Expr}{to:TE}{t:TA}{name:Str}{apos cpos:Pos}{T id:String}{r:V->List V->Hp->VK->Prop}
theorem xH5 (pa:PlainAttrs T)(slot:Slot T name id)(hty:typeOf (.builtin id)=pure (.type "method_descriptor"))(hm:MtR X id r)(ho:PE X o to)
  (hbase:attributeBase o name X.env (eval o X.env)=eval o X.env:=by rfl)(hline:(apos.endLine==cpos.line)=true:=by rfl):PE X (.Call (.Attribute o name apos) [] [] cpos) (tBM0 X.K T r to):=by
 intro pins s σ H Q I h;refine wpAny_Call_method0_late hbase hline (thn (ho pins s σ H _ I h) fun v s1 ⟨x,H1,I1,r1,ty,q1⟩=>?_);obtain⟨h1,h2⟩:=yV9 I1 r1 ty;exact⟨T,id,pa,slot,hty,h1,h2,Calls.callWith_builtin rfl (PySem.evalArgs_none (hm pins s1 σ H1 x [] v [] Q I1 r1 .nil q1))⟩
theorem xH6 (pa:PlainAttrs T)(slot:Slot T name id)(hty:typeOf (.builtin id)=pure (.type "method_descriptor"))(hm:MtR X id r)(ho:PE X o to)(ha:PA X (e::es) t)
  (hbase:attributeBase o name X.env (eval o X.env)=eval o X.env:=by rfl)
  (hfew:((backTo cpos (starEach (e::es) X.env)).all (fun x=>!x.1)&&(backToKw cpos (keywordEach [] X.env)).all (fun x=>x.1.isSome)
   && decide ((e::es).length+([]:List Keyword).length+(if ([]:List Keyword).isEmpty then 0 else 1)<30))=true:=by rfl)
  (hline:(apos.endLine==cpos.line)=true:=by rfl)(hs:starEach (e::es) X.env=(false,eval e X.env)::starEach es X.env:=by rfl)(hplain:(backTo cpos (starEach es X.env)).any (·.1)=false:=by rfl) :
  PE X (.Call (.Attribute o name apos) (e::es) [] cpos) (tBM X.K T r to t):=by
 intro pins s σ H Q I h;refine wpAny_Call_method_late hbase hfew hline rfl (thn (ho pins s σ H _ I h) fun v s1 ⟨x,H1,I1,r1,ty,q1⟩=>?_);obtain⟨h1,h2⟩:=yV9 I1 r1 ty;refine⟨T,id,pa,slot,hty,h1,h2,?_⟩;have hA:=ha cpos pins s1 σ H1 _ I1 q1;rw[hs]at hA ⊢;refine Calls.callWith_builtin (by show (false||(backTo cpos (starEach es X.env)).any (·.1))=false;rw[hplain]<;>rfl) (Calls.evalArgs_plain ?_);exact thn hA fun us s2 ⟨vs,H2,I2,r2,q2⟩=>hm pins s2 σ H2 x vs v us Q I2 r1 r2 q2
end
noncomputable def MtM (X:Cx)(id:String)(r:V->List V->Hp->VK->Prop):Prop :=
 ∀(pins:List (Addr×Obj)) (s:Shared) (σ:St) (H:Hp) (x:V) (xs:List V) (v:Value) (us:List Value) (Q:VK),Inv X pins σ H s->RelV x v->Vals xs us->r x xs H Q ->
  wpAny (model X.prog X.w) X.A (call (.builtin id) (v::us)) (EP X pins σ Q) X.xe s
theorem Vals.one:∀{x:V} {us:List Value},Vals [x] us->∃u,us=[u] /\ RelV x u
 | _,_,.cons r .nil=>⟨_,rfl,r⟩
theorem Vals.rep {xs:List V}{us:List Value}(h:Vals xs us):∀k:Nat,Vals (ď k xs).flatten (ď k us).flatten
 | 0=>.nil
 | k+1=>by
  rw[ŝ,ŝ,List.flatten_cons,List.flatten_cons];exact Vals.append h (Vals.rep h k)
theorem zX6 (its:List Value):∀(k:Nat) (acc:List Value),
  List.foldl (fun x1 x2=>x1++x2) acc.toArray (ď k its.toArray)=(acc++(ď k its).flatten).toArray
 | 0,acc=>by simp
 | k+1,acc=>by
  have e:acc.toArray++its.toArray=(acc++its).toArray:=by simp
  have e2:(acc++its)++(ď k its).flatten=acc++(ď (k+1) its).flatten:=by
   rw[ŝ,List.flatten_cons,List.append_assoc]
  rw[<- e2,<- zX6 its k (acc++its),<- e,ŝ,List.foldl_cons]
section
variable {X:Cx}{pins:List (Addr×Obj)}{σ:St}{H:Hp}{s:Shared}{l b:Addr}{xs ys zs:List V}
theorem Inv.lset {its its':List Value}{n:Nat}{f:Array Value->Array Value}{t':Nat}(I:Inv X pins σ H s)(hH:H l=some (.lst xs))
  (e:s.heap.get? l=some { cls:=.type "list",data:=.seq its.toArray n })(hf:f its.toArray=its'.toArray)(hv:Vals ys its')(hz:ys.length<=sizeLine) :
  Inv X pins σ (upd H l (.lst ys)) { s with heap:=s.heap.update l (Obj.mapSeq f),toks:=t' }:=by
 have q:=PySem.IsL.update e f;rw[hf]at q;refine I.write (x:=l) (e:=l) (by rw[hH];exact trivial) (.inl rfl) (fun b' u hb hu=>(Heap.get?_update_other s.heap (Obj.mapSeq f) (Ne.symm hb)).trans hu) ⟨_,q⟩ ?_;exact⟨hz,its',_,hv,q⟩
theorem Inv.lnew {its:List Value}{t':Nat}(I:Inv X pins σ H s)(hv:Vals ys its)(hz:ys.length<=sizeLine) :
  Inv X pins σ (upd H s.heap.objs.size (.lst ys)) { s with heap:=s.heap.push { cls:=.type "list",data:=.seq its.toArray },toks:=t' } :=
 I.laid (fun _ _ q=>Č _ q) (Ć _) ⟨hz,its,0,hv,ě _ rfl⟩
theorem Inv.fresh (I:Inv X pins σ H s):H s.heap.objs.size=none:=I.hok.fresh (Ć _)
theorem Inv.lstM (I:Inv X pins σ H s)(hH:H l=some (.lst xs)):xs.length<=sizeLine /\ ∃(its:List Value) (n:Nat),Vals xs its /\ xs.length=its.length /\ s.heap.get? l=some { cls:=.type "list",data:=.seq its.toArray n }:=by
 obtain⟨z,its,n,r,e⟩:=I.hok l _ hH;exact⟨z,its,n,r,r.length,e⟩
theorem yT7 {n:Nat}(h:n<=sizeLine):Builtin.List.listTooLong n=false:=by
 unfold Builtin.List.listTooLong;exact decide_eq_false (by lia)
end
section
variable {X:Cx}
noncomputable def yK8:V->List V->Hp->VK->Prop:=fun x vs H Q=>∃l xs y,x = .ref l /\ vs=[y] /\ H l=some (.lst xs) /\ xs.length<sizeLine /\ Q .non (upd H l (.lst (xs++[y])))
theorem í:MtM X "list.append" yK8:=by
 intro pins s σ H x vs v us Q I rx rv h;obtain⟨l,xs,y,rfl,rfl,hH,hz,q⟩:=h;cases rx;obtain⟨u,rfl,ru⟩:=rv.one;obtain⟨z,its,n,r,hl,e⟩:=I.lstM hH;refine call_meets F.slot_list_append ⟨_,e,rfl⟩ F.entry_list_append (F.args_list_append_2 _ _) (PySem.list_append l its.toArray n u (by rw[ĝ];lia)) ⟨e,?_⟩;refine⟨.non,_,I.lset (its':=its++[u]) hH e (by simp) (r.append (.cons ru .nil)) ?_,rfl,q⟩;rw[Ĕ,List.length_singleton];lia
noncomputable def rCat:R2:=fun x y H Q=>∃l b xs zs,x = .ref l /\ y = .ref b /\ H l=some (.lst xs) /\ H b=some (.lst zs) /\ xs.length+zs.length<=sizeLine /\ ∀p,H p=none->Q (.ref p) (upd H p (.lst (xs++zs)))
theorem Ρ:OpR X (binaryOp .Add) rCat:=by
 intro pins s σ H x y v u Q I rx ry h;obtain⟨l,b,xs,zs,rfl,rfl,hH,hB,hz,q⟩:=h;cases rx;cases ry;obtain⟨z,its,n,r,hl,e⟩:=I.lstM hH;obtain⟨z2,its2,n2,r2,hl2,e2⟩:=I.lstM hB;refine PySem.P.add_list e e2 ?_ (by rw[ĝ,ĝ];lia);have ea:its.toArray++its2.toArray=(its++its2).toArray:=by simp
 rw[ea];exact⟨.ref _,_,I.lnew (t':=s.toks) (r.append r2) (by rw[Ĕ];lia),rfl,q _ I.fresh⟩
noncomputable def rRep:R2:=fun x y H Q=>∃l k xs,x = .ref l /\ y = .int k /\ H l=some (.lst xs) /\ -(2^63)<=k /\ k<2^63 /\ xs.length*k.toNat<=sizeLine /\
 ∀p,H p=none->Q (.ref p) (upd H p (.lst (ď k.toNat xs).flatten))
theorem xC7 {α:Type}(xs:List α)(k:Nat):(ď k xs).flatten.length=k*xs.length:=by
 induction k with
 | zero=>simp
 | succ k ih=>rw[ŝ,List.flatten_cons,Ĕ,ih,Nat.succ_mul,Nat.add_comm]
theorem zW7:OpR X (binaryOp .Mult) rRep:=by
 intro pins s σ H x y v u Q I rx ry h;obtain⟨l,k,xs,rfl,rfl,hH,h1,h2,hz,q⟩:=h;cases rx;obtain⟨t,rfl⟩:=ry;obtain⟨z,its,n,r,hl,e⟩:=I.lstM hH;have hlen:its.toArray.size*k.toNat<=sizeLine:=by rw[ĝ,<- hl];exact hz
 have hcap:¬its.toArray.size*k.toNat > (2^63 - 1) / 8:=by
  have:(sizeLine:Nat)<=(2^63 - 1) / 8:=by decide
  lia
 have hfit:¬(!Builtin.List.listFitsIndex k)=true:=by
  rw[fitsIndex_both h1 h2];exact Ď
 have hlong:¬Builtin.List.listTooLong (its.toArray.size*k.toNat)=true:=by
  rw[yT7 hlen];exact Ď
 have hnew:List.foldl (fun x1 x2=>x1++x2) #[] (ď (if its.toArray.isEmpty=true then 0 else k.toNat) its.toArray)=(ď k.toNat its).flatten.toArray:=by
  have f0:∀m:Nat,List.foldl (fun x1 x2=>x1++x2) #[] (ď m its.toArray)=(ď m its).flatten.toArray:=fun m=>by
   have:=zX6 its m [];rw[List.nil_append]at this;exact this
  rw[f0];cases its with
  | nil=>simp
  | cons a r'=>rw[if_neg (by simp)]
 refine wpAny_binaryOp_repeat_ref (T:="list") (U:="int") (by decide) ⟨_,e,rfl⟩ (fun s'=>typeIs_int s' k t) noFill_list_mul F.fills_int_mul F.slot_int_rmul repeat_list F.slot_int_index.lookup
  (call_meets F.slot_int_rmul (typeIs_int s k t) F.entry_int_rmul (F.args_int_rmul_2 _ _) (int___rmul___int_list k t l its.toArray n)
   ⟨e,rfl,⟨_,e,rfl⟩,call_meets F.slot_list_mul ⟨_,e,rfl⟩ F.entry_list_mul (F.args_list_mul_2 _ _) (AutoListH.list___mul___list_int_3 l its.toArray n k t hfit hcap hlong) ⟨e,?_⟩⟩)
 rw[hnew];exact⟨.ref _,_,I.lnew (t':=s.toks) (r.rep k.toNat) (by rw[xC7,ť];exact hz),rfl,q _ I.fresh⟩
end
end L2
namespace Att
open PySem PySem.W PySem.Calls PyProof.Rows
theorem zO3 {P:Params}{h:Heap}:∀(ns:List Int) (vs:List Value),WellAll P h vs (ns.map WData.int)->IntsAre vs ns:=by
 intro ns
 induction ns with
 | nil =>
  intro vs w;rw[List.map_nil]at w;cases w;exact .nil
 | cons n ns ih =>
  intro vs w;rw[ľ]at w;cases w with
  | cons a b =>
   cases a;exact .cons _ _ (ih _ b)
theorem yJ6 {l:OpenLaw}{n:Nat}(hn:l.most=some n){P:Params}{h:Heap}{args:List WData}{vals:List Value}
  (hpre:l.row.toRowW.claim.pre args=true)(hwl:WellAll P h vals args) :
  ∃a vs ns,vals=[Value.ref a] /\ args=[WData.list (ns.map WData.int)] /\ h.get? a=some { cls:=.type "list",data:=.seq vs.toArray } /\ IntsAre vs ns /\ ns.length<=n:=by
 have hsh:WShape.hasAll [] args [.list .int]=true:=(pre_splitW hpre).1;have hc:l.pre.holds [] { args:=args }=true:=(pre_splitW hpre).2;obtain⟨d,r,rfl,h1,h2⟩:=hasAllW_cons hsh;obtain rfl:=hasAllW_nil h2;obtain⟨xs,rfl,h3⟩:=hasW_list h1;obtain⟨ns,rfl⟩:=items_int h3;have hlen:ns.length<=n:=by
  unfold OpenLaw.pre at hc;have h4:(WTm.not (.lt (.lit (.int (n:Int))) (.len (.arg 0)))).holds [] { args:=[.list (ns.map .int)] }=true:=by
   have h4:=(holds_andW hc).1;rw[hn]at h4;exact h4
  have h5:=condW_of h4 (w_not (w_lt w_lit (w_len_list (w_arg rfl))));rw[ą]at h5;refine Nat.le_of_not_lt fun q=>?_;have q':(n:Int)<((ns.length:Nat):Int):=by lia
  first
   | (rw[decide_eq_true q']at h5;exact absurd h5 (by decide))
   | (simp at h5;lia)
 cases hwl with
 | cons w1 w2 =>
  cases w2;cases w1 with
  | list ho hall=>exact⟨_,_,ns,rfl,rfl,ho,zO3 ns _ hall,hlen⟩
theorem yL1 (l:OpenLaw)(args:List WData):l.row.toRowW.claim.post args (.bool true) args=true :=
 postW_of (r:=l.row.toRowW) (X:=(true==true))
  (show WShape.has [] (.bool true) .bool=true by first | rfl | decide | simp[WShape.has,WShape.arms,WShape.armsAll])
  (show (WTm.eq .res (.lit (.bool true))).value [] { args:=args,res:=some (.bool true),after:=args }=some (.bool (true==true)) from w_eq_bool (w_res rfl) w_lit) rfl
theorem attach_call {l:OpenLaw}{n:Nat}{q:Program}{loose:List Str}{XP:(Str->Option Value)->Heap->Prop}{YP:World->Heap->Prop}{d:DefRec}
  (hn:l.most=some n)(hdf:d.params.defaults=[])
  (call:∀(w:World) (s₀ s₁:Shared) (mg mb:Str->Option Value) (fa:Addr) (o:Obj) (pm cd doc:Value) (a:Addr) (vs:List Value) (ns:List Int),
   Ground q loose [] XP w s₀ mg mb s₁.heap->YP w s₁.heap ->
   s₁.heap.get? fa=some o->o.data = .func (docDef d.name d.params d.body d.scope pm cd doc)->s₁.heap.CodeRec cd d.name->mg d.name=some (.ref fa) ->
   s₁.heap.get? a=some { cls:=.type "list",data:=.seq vs.toArray }->IntsAre vs ns->ns.length<=n->s₁.gens=#[] ->
   codeAny (model l.prog w) callerA (.call (.ref fa) ⟨[.ref a],[]⟩) (fun r s'=>r = .ok (.ret (.bool true)) /\ OldK s₁.heap s'.heap /\ s'.os=s₁.os /\ AllBare s'.gens) s₁) :
  WalkO q loose XP YP l.row.toRowW d [] (fun f vs=>PySem.call f vs):=by
 intro w s₀ s₁ mg mb G Y fa o pm cd doc dV kV ho hd hcd hD hmg hg args vals as hpre hlay hrd hwl hlo;obtain rfl:dV = .none:=Dflts.none hD hdf;obtain rfl:kV = .none:=Dflts.noKw hD;obtain⟨a,vs,ns,rfl,rfl,hobj,hints,hlen⟩:=yJ6 hn hpre hwl;refine enter_call (codeAny_mono (call w s₀ s₁ mg mb fa o pm cd doc a vs ns G Y ho (fd_plain hd) hcd hmg hobj hints hlen hg) fun r s' hq=>?_);obtain⟨rfl,h2,h3,h4⟩:=hq;exact⟨.inl ⟨.bool true,.bool true,[],rfl,fun _=>rfl,.bool true,yL1 l _,fun _=>⟨List.Pairwise.nil,fun _ hm=>(nomatch hm)⟩⟩,h2,h3,h4⟩
end Att
namespace L2
open PySem PySem.Spec PyProof.Rows
theorem zV6:∀{vs:List Value} {ns:List Int},IntsAre vs ns->Vals (ns.map V.int) vs
 | _,_,.nil=>.nil
 | _,_,.cons n t h=>.cons ⟨t,rfl⟩ (zV6 h)
noncomputable def Only (H:Hp):Prop:=∀b,H b=none \/ ∃o xs,H b=some (.frz o (.lst xs))
theorem yU0 {P:Program}{w:World}{K:Ā}{mg mb:Str->Option Value}{CX:CXT}{k:Nat}{fa a:Addr}{fd:FuncData}{x:Str}{sp:Sp}{s₁:Shared}{vs:List Value}{ns:List Int}
  (KX:K.In s₁.heap)(hns:s₁.heap.Ns mainGlobals mg)(hb:s₁.heap.Ns builtinsNs mb)(hbb:∀x:Str,x ≠ "__name__"->mb x=bootBuiltins x)(hlim:s₁.heap.NoLimit)(hg:s₁.gens=#[])
  (ha:s₁.heap.get? a=some { cls:=.type "list",data:=.seq vs.toArray })(hi:IntsAre vs ns)(hl:ns.length<=sizeLine)(hr:Room k callerA)
  (F:∀base:Heap,K.In base->base.Ns mainGlobals mg->FnOk P w K mg base CX k fa fd [x] sp)(hbind:∀(s:Shared) (u:Value),BindsTo s fd ⟨[u],[]⟩ [(x,u)])
  (hsp:∀H:Hp,Only H->SqL K H a (ns.map V.int)->sp [.ref a] H (fun v _=>v = .bl true) fun _ _ _=>False)
  (hCX:∀H e s',CX [] H s₁ (fun _ _ _=>False) e s'->False) :
  codeAny (model P w) callerA (.call (.ref fa) ⟨[.ref a],[]⟩) (fun r s'=>r = .ok (.ret (.bool true)) /\ OldK s₁.heap s'.heap /\ s'.os=s₁.os /\ AllBare s'.gens) s₁:=by
 have rv:=zV6 hi;have lenV:=hi.length;have core:∀H:Hp,Only H->SqL K H a (ns.map V.int)->HOk P w H s₁.heap->(∀b,H b≠none->b=a)->(H a≠none->K.lookup a=none) ->
   codeAny (model P w) callerA (.call (.ref fa) ⟨[.ref a],[]⟩) (fun r s'=>r = .ok (.ret (.bool true)) /\ OldK s₁.heap s'.heap /\ s'.os=s₁.os /\ AllBare s'.gens) s₁:=by
  intro H hO hS hok hA hK;have base_of:∀{b:Addr} {o:Obj},s₁.heap.get? b=some o->H b=none->(hidT s₁.heap H).get? b=some o:=fun e n=>yU5 e n;have noA:∀{b:Addr} {o:Obj} {es:Array DictEntry} {ep:Nat},s₁.heap.get? b=some o->o.data = .dict es ep->H b=none:=fun {b o es ep} e d=>by
   cases q:H b with
   | none=>rfl
   | some u =>
    have e':b=a:=hA b (by rw[q];simp);subst e';rw[ha]at e;cases e;have d':Data.seq vs.toArray _=Data.dict es ep:=d;cases d'
  have nsK:∀{b:Addr} {m:Str->Option Value},s₁.heap.Ns b m->(hidT s₁.heap H).Ns b m:=fun {b m} ⟨o,es,ep,e,d,r⟩=>⟨o,es,ep,base_of e (noA e d),d,r⟩;have hKb:K.In (hidT s₁.heap H):=fun b o e=>base_of (KX b o e) (by
   cases q:H b with
   | none=>rfl
   | some u =>
    have e':b=a:=hA b (by rw[q];simp);subst e';rw[hK (by rw[q];simp)]at e;cases e)
  have hM:Mod K mg (hidT s₁.heap H):=⟨hKb,nsK hns,⟨mb,nsK hb,hbb⟩,let ⟨mc,h1,h2⟩:=hlim;⟨mc,nsK h1,h2⟩⟩;have e0:Env0 P w K mg (hidT s₁.heap H) callerA [] s₁ H:=⟨rfl,hM,fun b o e=>xC3 e,Nat.le_of_eq (yN8 _ _),trivial,fun b hb=>absurd (show b∈([]:List Addr) from hb) (by simp),hok,.of_eq hg⟩;refine codeAny_mono ((F _ hKb (nsK hns)).run callerA [] s₁ H ⟨[.ref a],[]⟩ [.ref a] [.ref a] _ _ hr e0 (hbind s₁ (.ref a)) (.cons rfl .nil) (hsp H hO hS)) fun r s' h=>?_;cases r with
  | error e=>exact(hCX H e s' h).elim
  | ok fl =>
   cases fl with
   | next=>exact False.elim h
   | brk=>exact False.elim h
   | cont=>exact False.elim h
   | ret u =>
    obtain⟨v,H',os,bare,un,hok',r',q⟩:=h;have q':v = .bl true:=q;subst q';obtain rfl:u=Value.bool true:=r';refine⟨rfl,OldK.of_keep fun b o e=>?_,os,bare⟩;cases q:H b with
    | none=>exact un.keep b o e q (by intro z;exact absurd (show b∈([]:List Addr) from z) (by simp)) (by simp)
    | some u =>
     rcases hO b with z | ⟨ob,xs,z⟩
     ·rw[q]at z;cases z
     ·have z2:=un.frzs b ob _ z;obtain⟨e1,_⟩:=hok b _ z;obtain⟨e2,_⟩:=hok' b _ z2;rw[e]at e1;cases e1;exact e2
 cases hk:K.lookup a with
 | some o =>
  have e:=KX a o hk;rw[ha]at e;cases e;refine core (fun _=>none) (fun _=>.inl rfl) (.inr ⟨_,vs.toArray,_,hk,rfl,rfl,rfl,by rw[ĝ,lenV];exact hl,by simpa using rv⟩) (fun b u z=>by have z':(none:Option HO)=some u:=z;cases z') (fun b z=>absurd rfl z) fun z=>absurd rfl z
 | none =>
  refine core (fun b=>if b=a then some (.frz { cls:=.type "list",data:=.seq vs.toArray } (.lst (ns.map V.int))) else none) (fun b=>?_) (.inl (.inr ⟨{ cls:=.type "list",data:=.seq vs.toArray },if_pos rfl⟩)) (fun b u z=>?_) (fun b z=>?_) fun _=>hk
  ·by_cases hb:b=a
   ·exact .inr ⟨_,_,if_pos hb⟩
   ·exact .inl (if_neg hb)
  ·by_cases hb:b=a
   ·have z':=(if_pos hb).symm.trans z;cases z';subst hb;exact⟨ha,by rw[ą];exact hl,vs,_,rv,ha⟩
   ·have z':=(if_neg hb).symm.trans z;cases z'
  ·by_cases hb:b=a
   ·exact hb
   ·exact absurd (if_neg hb) z
theorem walk_of {l:PySem.W.OpenLaw}{n k:Nat}{q:Program}{loose:List Str}{XP:(Str->Option Value)->Heap->Prop}{YP:World->Heap->Prop}{d:DefRec}{K:Params->Ā}{CX:World->CXT}{sp:World->Sp}{x:Str}
  (hn:l.most=some n)(hn2:n<=sizeLine)(hdf:d.params.defaults=[])(hr:Room k callerA)
  (hY:∀(w:World) (h:Heap),YP w h->(K w.params).In h)
  (F:∀(w:World) (mg:Str->Option Value) (fa:Addr) (h:Heap),(K w.params).In h->h.Ns mainGlobals mg->mg d.name=some (.ref fa) ->
   ∃fd:FuncData,(∀(s:Shared) (u:Value),BindsTo s fd ⟨[u],[]⟩ [(x,u)]) /\
    ∀base:Heap,(K w.params).In base->base.Ns mainGlobals mg->FnOk l.prog w (K w.params) mg base (CX w) k fa fd [x] (sp w))
  (hsp:∀(w:World) (H:Hp) (a:Addr) (ns:List Int),ns.length<=n->Only H->SqL (K w.params) H a (ns.map V.int)->sp w [.ref a] H (fun v _=>v = .bl true) fun _ _ _=>False)
  (hCX:∀(w:World) (H:Hp) (s:Shared) (e:Value) (s':Shared),CX w [] H s (fun _ _ _=>False) e s'->False) :
  PySem.W.WalkO q loose XP YP l.row.toRowW d [] (fun f vs=>PySem.call f vs):=by
 refine Att.attach_call hn hdf fun w s₀ s₁ mg mb fa o pm cd doc a vs ns G Y ho hd hcd hmg hobj hints hlen hg=>?_;have KX:=hY w _ Y;obtain⟨fd,hb,hF⟩:=F w mg fa _ KX G.T.g hmg;exact yU0 KX G.T.g G.T.b G.T.builtins G.T.nolimit hg hobj hints (ĉ hlen hn2) hr hF hb (fun H hO hS=>hsp w H a ns hlen hO hS) fun H e s'=>hCX w H s₁ e s'
theorem walk_ofK {l:PySem.W.OpenLaw}{n k:Nat}{q:Program}{loose:List Str}{XP:(Str->Option Value)->Heap->Prop}{YP:World->Heap->Prop}{d:DefRec}{K:Params->Ā}{CX:CXT}{sp:Ā->Sp}{x:Str}
  (hn:l.most=some n)(hn2:n<=sizeLine)(hdf:d.params.defaults=[])(hr:Room k callerA)
  (hY:∀(w:World) (h:Heap),YP w h->(K w.params).In h)
  (F:∀(w:World) (mg:Str->Option Value) (fa:Addr) (h:Heap),(K w.params).In h->h.Ns mainGlobals mg->mg d.name=some (.ref fa) ->
   ∃fd:FuncData,(∀(s:Shared) (u:Value),BindsTo s fd ⟨[u],[]⟩ [(x,u)]) /\
    ∀base:Heap,(K w.params).In base->base.Ns mainGlobals mg->FnOk l.prog w (K w.params) mg base CX k fa fd [x] (sp (K w.params)))
  (hsp:∀(K:Ā) (H:Hp) (a:Addr) (ns:List Int),ns.length<=n->Only H->SqL K H a (ns.map V.int)->sp K [.ref a] H (fun v _=>v = .bl true) fun _ _ _=>False)
  (hCX:∀(H:Hp) (s:Shared) (e:Value) (s':Shared),CX [] H s (fun _ _ _=>False) e s'->False) :
  PySem.W.WalkO q loose XP YP l.row.toRowW d [] (fun f vs=>PySem.call f vs) :=
 walk_of (K:=K) (CX:=fun _=>CX) (sp:=fun w=>sp (K w.params)) hn hn2 hdf hr hY F (fun w H a ns h1 h2 h3=>hsp (K w.params) H a ns h1 h2 h3) fun _ H s e s'=>hCX H s e s'
end L2
namespace L2
open PySem PySem.Spec PyProof.Rows
noncomputable def Ω (s:Stmt):Arguments:=match s with
 | .FunctionDef _ a _ _ _ _ _ _ _ _=>a
 | _=>{ posonlyargs:=[],args:=[],vararg:=none,kwonlyargs:=[],kw_defaults:=[],kwarg:=none,defaults:=[] }
noncomputable def Η (s:Stmt):List Stmt:=match s with
 | .FunctionDef _ _ b _ _ _ _ _ _ _=>b
 | _=>[]
noncomputable def Ç (s:Stmt):Scope:=match s with
 | .FunctionDef _ _ _ _ _ _ sc _ _ _=>sc
 | _=>{ kind:=.function,names:=[],isGenerator:=false,isCoroutine:=false }
noncomputable abbrev CX0:CXT:=fun _ _ _ _ _ _=>False
noncomputable abbrev E0:XK:=fun _ _ _=>False
theorem ρ {X:Cx}:zZ2 CX0 X E0:=fun _ _ _ _ _ _ _ h=>h.elim
structure Fun (K:Ā)(x qual:Str)(st:Stmt)(f:Addr)(fd:FuncData):Prop where
 ex:∃(oc:Value) (od:Option Addr) (kV doc pm:Value) (an:Option Addr) (cdv ct:Value) (osl:Array (Option Value)),
  fd=Ś x qual (Ω st) (Η st) (Ç st) .none kV doc pm an cdv ct /\ K.lookup f=some ⟨oc,od,.func fd,osl⟩ /\ PySem.W.codeIn K cdv qual=true
 kp:PySem.W.keepIn K (.ref f)=true
section
variable {P:Program}{w:World}{K:Ā}{mg:Str->Option Value}{base:Heap}
theorem Fun.ok {x qual:Str}{st:Stmt}{f:Addr}{fd:FuncData}{N ps:List Str}{k:Nat}{sp:Sp}(F:Fun K x qual st f fd)(S:Ï N ps (Ç st))(len:∀vs H Q E,sp vs H Q E->vs.length=ps.length)
  (hbody:∀(cdv:Value) (A:Around) (outer:List Env) (s:Shared) (H:Hp) (vs:List V) (Q:VK) (E:XK),Room k (A.deeper (envOfC qual (Ç st) s.heap.objs.size f cdv))->sp vs H Q E ->
   ∃t,PSs (cxOf CX0 P w K mg base N qual (Ç st) f cdv A outer s H E).nox (Η st) t /\ t { nx:=fun _ H'=>Q .non H',rt:=Q } (start N vs) H):FnOk P w K mg base CX0 (k+1) f fd ps sp:=by
 obtain⟨oc,od,kV,doc,pm,an,cdv,ct,osl,rfl,lk,hcd⟩:=F.ex;refine xK2 lk hcd S len fun A outer s H vs Q E hr hsp=>?_;obtain⟨t,h,q⟩:=hbody cdv A outer s H vs Q E hr hsp;exact⟨t,h.nox,q⟩
theorem Fun.binds {x qual:Str}{st:Stmt}{f:Addr}{fd:FuncData}{ps:List Str}(F:Fun K x qual st f fd)
  (h:∀(kV doc pm:Value) (an:Option Addr) (cdv ct:Value) (us:List Value),us.length=ps.length->bindArgs (Ś x qual (Ω st) (Η st) (Ç st) .none kV doc pm an cdv ct) ⟨us,[]⟩=pure (ps.zip us)):Binds K fd ps []:=by
 obtain⟨oc,od,kV,doc,pm,an,cdv,ct,osl,rfl,lk,hcd⟩:=F.ex;exact .all (h kV doc pm an cdv ct)
theorem yX9 {x qual:Str}{st:Stmt}{f:Addr}{oc:Value}{od an:Option Addr}{osl:Array (Option Value)}{kV doc pm cdv ct:Value}(l:K.lookup f=some ⟨oc,od,.func (Ś x qual (Ω st) (Η st) (Ç st) .none kV doc pm an cdv ct),osl⟩)
  (c:PySem.W.codeIn K cdv qual=true)(k:PySem.W.keepIn K (.ref f)=true):Fun K x qual st f (Ś x qual (Ω st) (Η st) (Ç st) .none kV doc pm an cdv ct):=⟨⟨oc,od,kV,doc,pm,an,cdv,ct,osl,rfl,l,c⟩,k⟩
end
theorem xO1 {A:Around}{k:Nat}(hr:Room k A):A.units+1<cLine:=ă (Nat.add_le_add_left (by decide:1<=64) _) hr.units
theorem zI1 {n:Nat}(h:n<=1000):n<sizeLine:=ă h (by decide)
section
variable {X:Cx}
theorem pv (i:Nat){x:Str}{pos:Pos}(hN:X.N[i]?=some x:=by rfl)(hv:Vis X.env.scope x:=by first | exact Or.inl rfl | exact Or.inr (Or.inl rfl) | exact Or.inr (Or.inr rfl))(hd:(x==("__debug__":Str))=false:=by decide)
  (hcd:(x==("__classdict__":Str))=false:=by decide):PE X (.Name x pos) (tVar i):=xH2 hN hv hd hcd
end
theorem iteF {A B:Prop}(h:B):if false=true then A else B:=by
 rw[if_neg Ď];exact h
theorem iteT {A B:Prop}(h:A):if true=true then A else B:=by
 rw[if_pos rfl];exact h
theorem ite2 {c A B:Prop}[Decidable c](h1:c->A)(h2:¬c->B):if c then A else B:=by
 by_cases h:c
 ·rw[if_pos h];exact h1 h
 ·rw[if_neg h];exact h2 h
noncomputable def Same (H H':Hp):Prop:=∀b o,H b=some o->H' b=some o
theorem Same.refl (H:Hp):Same H H:=fun _ _ h=>h
theorem Same.trans {H H1 H2:Hp}(a:Same H H1)(b:Same H1 H2):Same H H2:=fun c o h=>b c o (a c o h)
theorem Same.free {H H':Hp}(e:Same H H'){l:Addr}(h:H' l=Option.none):H l=Option.none:=by
 cases q:H l with
 | none=>rfl
 | some o =>
  rw[e l o q]at h;cases h
theorem Same.seq {K:Ā}{H H':Hp}{a:Addr}{xs:List V}(e:Same H H')(h:SqL K H a xs):SqL K H' a xs:=by
 rcases h with (h | ⟨o,h⟩) | h
 ·exact .inl (.inl (e _ _ h))
 ·exact .inl (.inr ⟨o,e _ _ h⟩)
 ·exact .inr h
end L2
namespace Tc
noncomputable def dv (t b:Int):Int:=if b<0 then -(ħ t b:Int) else (ħ t b:Int)
theorem zM1 {t b:Int}(h:0<b):0<=t.fmod b /\ t.fmod b<b:=by
 rw[Int.fmod_eq_emod_of_nonneg _ (Int.le_of_lt h)];exact⟨Int.emod_nonneg _ (by lia),Int.emod_lt_of_pos _ h⟩
theorem yF6 {t b:Int}(h:b<0):b<t.fmod b /\ t.fmod b<=0:=by
 have e:t.fmod b = -((-t).fmod (-b)):=by
  have h1:=Int.mul_fdiv_add_fmod t b;have h2:=Int.mul_fdiv_add_fmod (-t) (-b);rw[Int.neg_fdiv_neg]at h2;have h3:-b*t.fdiv b = -(b*t.fdiv b):=Int.neg_mul _ _;rw[h3]at h2;lia
 have p:=zM1 (t:=-t) (b:=-b) (by lia);lia
theorem yF5 (t b:Int):ħ b (t.fmod b)=ħ t b:=by
 have h1:=Int.mul_fdiv_add_fmod t b;have e:t.fmod b=t+b*(-(t.fdiv b)):=by
  rw[Int.mul_neg];lia
 rw[e,Int.gcd_comm,Int.gcd_add_mul_left_left]
structure Dv (t₀ b₀ t b:Int):Prop where
 g:ħ t b=ħ t₀ b₀
 p:0<b₀->0<=b /\ (b=0->0<t)
 n:b₀<0->b<=0 /\ (b=0->t<0)
theorem Dv.start {t b:Int}(h:b≠0):Dv t b t b:=⟨rfl,fun p=>⟨Int.le_of_lt p,fun e=>absurd e h⟩,fun p=>⟨Int.le_of_lt p,fun e=>absurd e h⟩⟩
theorem Dv.turn {t₀ b₀ t b:Int}(d:Dv t₀ b₀ t b)(h:b≠0):Dv t₀ b₀ b (t.fmod b):=by
 refine⟨(yF5 t b).trans d.g,fun p=>?_,fun p=>?_⟩
 ·have q:=d.p p;have r:=zM1 (t:=t) (b:=b) (by lia);exact⟨r.1,fun _=>by lia⟩
 ·have q:=d.n p;have r:=yF6 (t:=t) (b:=b) (by lia);exact⟨r.2,fun _=>by lia⟩
theorem Dv.less {t b:Int}(h:b≠0):(t.fmod b).natAbs<b.natAbs:=by
 rcases Int.lt_or_gt_of_ne h with q | q
 ·have r:=yF6 (t:=t) q;lia
 ·have r:=zM1 (t:=t) q;lia
theorem Dv.done {t₀ b₀ t b:Int}(d:Dv t₀ b₀ t b)(h:b=0)(h0:b₀≠0):t=dv t₀ b₀:=by
 subst h;have g:=d.g;rw[Int.gcd_zero_right]at g;unfold dv;rw[<- g]
 split
 ·rename_i q;have:=(d.n q).2 rfl;lia
 ·have:=(d.p (by lia)).2 rfl;lia
theorem zU9 {t b:Int}(h:b≠0):0<ħ t b:=Nat.pos_of_ne_zero fun e=>h (Int.gcd_eq_zero_iff.mp e).2
theorem zX8 {t b:Int}(h:b≠0):dv t b≠0:=by
 have:=zU9 (t:=t) h;unfold dv;split<;>lia
theorem zD7 (t b:Int):dv t b∣t:=by
 have:=Int.gcd_dvd_left t b;unfold dv;split
 ·exact Int.neg_dvd.mpr this
 ·exact this
theorem zB5 (t b:Int):dv t b∣b:=by
 have:=Int.gcd_dvd_right t b;unfold dv;split
 ·exact Int.neg_dvd.mpr this
 ·exact this
theorem yP0 (t b:Int):(dv t b).natAbs=ħ t b:=by
 unfold dv;split<;>lia
theorem yO9 {t b:Int}(h:b≠0):(dv t b).natAbs<=b.natAbs:=by
 rw[yP0];have:=Int.gcd_dvd_right t b;exact Nat.le_of_dvd (by lia) (Int.natAbs_dvd_natAbs.mpr this |> (by simpa using ·))
theorem zX7 {t b:Int}(h:b≠0):t.fdiv (dv t b)=(Ċ t b).num:=by
 rw[Int.fdiv_eq_ediv_of_dvd (zD7 t b),Rat.num_divInt,Int.gcd_comm];unfold dv;rcases Int.lt_or_gt_of_ne h with q | q
 ·rw[if_pos q,Int.sign_eq_neg_one_of_neg q,Int.ediv_neg,Int.neg_one_mul,Int.neg_ediv_of_dvd (Int.gcd_dvd_left t b)]
 ·rw[if_neg (by lia),Int.sign_eq_one_of_pos q,Int.one_mul]
theorem zX9 {t b:Int}(h:b≠0):b.fdiv (dv t b)=((Ċ t b).den:Int):=by
 rw[Int.fdiv_eq_ediv_of_dvd (zB5 t b),Rat.den_divInt,if_neg h,Int.gcd_comm];unfold dv;rw[Int.natCast_ediv];rcases Int.lt_or_gt_of_ne h with q | q
 ·rw[if_pos q,Int.ediv_neg,<- Int.neg_ediv_of_dvd (Int.gcd_dvd_right t b)]
  congr 1;lia
 ·rw[if_neg (by lia)]
  congr 1;lia
theorem zL2 {t b:Int}(h:0<b):dv t b=(ħ t b:Int):=by unfold dv;rw[if_neg (by lia)]
theorem low {n d:Int}(hd:0<d)(hg:ħ n d=1):(Ċ n d).num=n /\ ((Ċ n d).den:Int)=d:=by
 have h1:=zX7 (t:=n) (b:=d) (by lia);have h2:=zX9 (t:=n) (b:=d) (by lia);rw[zL2 hd,hg]at h1 h2
 constructor
 ·rw[<- h1];simp
 ·rw[<- h2];simp
theorem Î (r:Rat):(0:Int)<r.den:=by have:=r.den_pos;lia
theorem zG0 (r:Rat):ħ r.num r.den=1:=by
 have:=r.reduced;unfold Nat.Coprime at this;unfold ħ;simpa using this
theorem xB3 (r q:Rat){s rest top d:Int}(hs:s=dv r.den q.den)(hr:rest=(r.den:Int).fdiv s)(ht:top=r.num*((q.den:Int).fdiv s)+q.num*rest)(hd:d=dv top s) :
  top.fdiv d=(r+q).num /\ rest*((q.den:Int).fdiv d)=((r+q).den:Int):=by
 have p1:=r.den_pos;have p2:=q.den_pos;have gp:0<š r.den q.den:=Nat.gcd_pos_of_pos_left _ p1;have es:s=((š r.den q.den:Nat):Int):=by
  rw[hs,zL2 (by lia)];unfold ħ;simp
 have e1:(r.den:Int).fdiv s=((r.den / š r.den q.den:Nat):Int):=by
  rw[es,Ŀ _ (by lia),Int.natCast_ediv]
 have e2:(q.den:Int).fdiv s=((q.den / š r.den q.den:Nat):Int):=by
  rw[es,Ŀ _ (by lia),Int.natCast_ediv]
 have er:rest=((r.den / š r.den q.den:Nat):Int):=hr.trans e1;have et:top=r.num*((q.den / š r.den q.den:Nat):Int)+q.num*((r.den / š r.den q.den:Nat):Int):=by rw[ht,e2,er]
 have key:top.natAbs.gcd (š r.den q.den)=top.natAbs.gcd ((r.den / š r.den q.den)*q.den):=by
  rw[et];exact Rat.add.aux r q rfl rfl rfl
 have ed:d=((top.natAbs.gcd (š r.den q.den):Nat):Int):=by
  rw[hd,es,zL2 (by lia)];unfold ħ;simp
 have hrd:š r.den q.den∣r.den:=Nat.gcd_dvd_left _ _;have hqd:š r.den q.den∣q.den:=Nat.gcd_dvd_right _ _;have rp:0<r.den / š r.den q.den:=Nat.div_pos (Nat.le_of_dvd p1 hrd) gp;have sum:r+q=Ċ top (((r.den / š r.den q.den)*q.den:Nat):Int):=by
  have h:=Rat.divInt_add_divInt r.num q.num (d₁:=r.den) (d₂:=q.den) (by lia) (by lia);rw[ġ,ġ]at h;rw[h];rw[Rat.divInt_eq_divInt_iff (Int.mul_ne_zero (by lia) (by lia)) (by have:=ň rp p2;lia)];rw[et];obtain⟨a,ha⟩:=hrd;obtain⟨b,hb⟩:=hqd;generalize š r.den q.den=g at *;have a1:r.den / g=a:=by rw[ha];exact Nat.mul_div_cancel_left _ gp
  have b1:q.den / g=b:=by rw[hb];exact Nat.mul_div_cancel_left _ gp
  rw[a1,b1];rw[ha,hb]
  push_cast
  grind
 have dp:(0:Int)<(((r.den / š r.den q.den)*q.den:Nat):Int):=by have:=ň rp p2;lia
 have n1:=zX7 (t:=top) (b:=(((r.den / š r.den q.den)*q.den:Nat):Int)) (by lia);have n2:=zX9 (t:=top) (b:=(((r.den / š r.den q.den)*q.den:Nat):Int)) (by lia);have edd:dv top (((r.den / š r.den q.den)*q.den:Nat):Int)=d:=by
  rw[ed,zL2 dp,key];unfold ħ;rw[Int.natAbs_natCast]
 rw[<- sum,edd]at n1 n2;refine⟨n1,?_⟩;rw[<- n2,er];have dq:d∣(q.den:Int):=by
  rw[ed];exact Int.natCast_dvd_natCast.mpr (Nat.dvd_trans (Nat.gcd_dvd_right _ _) hqd)
 have dpos:0<d:=by
  rw[ed];have:=Nat.gcd_pos_of_pos_right top.natAbs gp;lia
 rw[Ŀ _ (by lia),Ŀ _ (by lia)]
 push_cast
 exact(Int.mul_ediv_assoc _ dq).symm
theorem yP9 {a d t b:Int}(h:ħ t b=1)(ha:a∣t)(hd:d∣b):ħ a d=1 :=
 Nat.Coprime.coprime_dvd_left (Int.natAbs_dvd_natAbs.mpr ha) (Nat.Coprime.coprime_dvd_right (Int.natAbs_dvd_natAbs.mpr hd) h)
theorem xD5 {a b c d:Int}(h1:ħ a d=1)(h2:ħ a b=1)(h3:ħ c d=1)(h4:ħ c b=1):ħ (a*c) (d*b)=1:=by
 show Nat.Coprime (a*c).natAbs (d*b).natAbs;rw[Ĵ,Ĵ];exact Nat.coprime_mul_iff_left.mpr ⟨Nat.coprime_mul_iff_right.mpr ⟨h1,h2⟩,Nat.coprime_mul_iff_right.mpr ⟨h3,h4⟩⟩
theorem yR4 {t1 b1 t2 b2:Int}(h1:0<b1)(h2:b2≠0)(c1:ħ t1 b1=1)(c2:ħ t2 b2=1){l r:Int}(hl:l=dv t1 b2)(hr:r=dv t2 b1) :
  (t1.fdiv l)*(t2.fdiv r)=(Ċ (t1*t2) (b1*b2)).num /\ (b1.fdiv r)*(b2.fdiv l)=((Ċ (t1*t2) (b1*b2)).den:Int):=by
 have l0:l≠0:=by rw[hl];exact zX8 h2
 have r0:0<r:=by rw[hr,zL2 h1];have:=zU9 (t:=t2) (b:=b1) (by lia);lia
 obtain⟨a,ha⟩:l∣t1:=by rw[hl];exact zD7 _ _
 obtain⟨b,hb⟩:l∣b2:=by rw[hl];exact zB5 _ _
 obtain⟨c,hc⟩:r∣t2:=by rw[hr];exact zD7 _ _
 obtain⟨d,hd⟩:r∣b1:=by rw[hr];exact zB5 _ _
 have e1:t1.fdiv l=a:=by rw[ha,Ū _ l0]
 have e2:b2.fdiv l=b:=by rw[hb,Ū _ l0]
 have e3:t2.fdiv r=c:=by rw[hc,Ū _ (by lia)]
 have e4:b1.fdiv r=d:=by rw[hd,Ū _ (by lia)]
 have gl:ħ t1 b2=l.natAbs:=by rw[hl,yP0]
 have gr:ħ t2 b1=r.natAbs:=by rw[hr,yP0]
 have la:0<l.natAbs:=by lia
 have ra:0<r.natAbs:=by lia
 have cab:ħ a b=1:=by
  rw[ha,hb,Int.gcd_mul_left]at gl;exact Nat.eq_of_mul_eq_mul_left la (by lia)
 have ccd:ħ c d=1:=by
  rw[hc,hd,Int.gcd_mul_left]at gr;exact Nat.eq_of_mul_eq_mul_left ra (by lia)
 have cad:ħ a d=1:=yP9 c1 ⟨l,by rw[ha,Int.mul_comm]⟩ ⟨r,by rw[hd,Int.mul_comm]⟩;have cbc:ħ c b=1:=yP9 c2 ⟨r,by rw[hc,Int.mul_comm]⟩ ⟨l,by rw[hb,Int.mul_comm]⟩;have dp:0<d:=by
  rcases Int.lt_trichotomy d 0 with z | z | z
  ·have:=Int.mul_neg_of_pos_of_neg r0 z;lia
  ·subst z;lia
  ·exact z
 have bp:0<b:=by
  rcases Int.lt_or_gt_of_ne h2 with z | z
  ·have ln:l<0:=by
    rw[hl];unfold dv;rw[if_pos z];have:=zU9 (t:=t1) h2;lia
   rcases Int.lt_trichotomy b 0 with y | y | y
   ·have:=Int.mul_pos_of_neg_of_neg ln y;lia
   ·subst y;lia
   ·exact y
  ·have lp:0<l:=by
    rw[hl,zL2 z];have:=zU9 (t:=t1) h2;lia
   rcases Int.lt_trichotomy b 0 with y | y | y
   ·have:=Int.mul_neg_of_pos_of_neg lp y;lia
   ·subst y;lia
   ·exact y
 have lw:=low (n:=a*c) (d:=d*b) (Int.mul_pos dp bp) ?_
 ·have ee:Ċ (t1*t2) (b1*b2)=Ċ (a*c) (d*b):=by
   rw[Rat.divInt_eq_divInt_iff (Int.mul_ne_zero (by lia) h2) (Int.mul_ne_zero (by lia) (by lia))];rw[ha,hb,hc,hd];grind
  rw[e1,e2,e3,e4,ee];exact⟨lw.1.symm,lw.2.symm⟩
 ·exact xD5 cad cab ccd cbc
theorem yX3 (r q:Rat):Ċ (r.num*q.num) (r.den*q.den)=r*q:=by
 rw[<- Š,ġ,ġ]
theorem xL0 (r q:Rat)(h:q.num≠0):Ċ (r.num*q.den) (r.den*q.num)=r / q:=by
 rw[<- Š,ġ,ę]
 congr 1
 rw[Rat.inv_def]
theorem yF4 (r:Rat):ħ (r.den:Int) r.num=1:=by rw[Int.gcd_comm];exact zG0 r
theorem yF2 (r:Rat):(0 - r.num)=(-r).num /\ (r.den:Int)=((-r).den:Int):=by
 constructor
 ·rw[Rat.neg_num];lia
 ·rw[Rat.neg_den]
theorem xF2 (r q:Rat):r + -q=r - q:=(Rat.sub_eq_add_neg r q).symm
theorem lt_ok (r q:Rat):decide (r.num*q.den<q.num*r.den)=decide (r<q):=by
 rw[decide_eq_decide,Rat.lt_iff]
theorem xK1 {r q:Rat}(h1:r.num=q.num)(h2:(r.den:Int)=q.den):r=q:=Rat.ext h1 (by lia)
end Tc
namespace L2
open PySem PySem.Spec PyProof.Rows
theorem xL5:bootBuiltins "abs" = some (.builtin "abs"):=by decide +kernel
theorem â:bootBuiltins "isinstance" = some (.builtin "isinstance"):=by decide +kernel
theorem yQ4:bootBuiltins "min" = some (.builtin "min"):=by decide +kernel
theorem yQ5:bootBuiltins "max" = some (.builtin "max"):=by decide +kernel
theorem yQ3:bootBuiltins "sum" = some (.builtin "sum"):=by decide +kernel
theorem yQ6:bootBuiltins "int" = some (.type "int"):=by decide +kernel
theorem zV4:bootBuiltins "bool" = some (.type "bool"):=by decide +kernel
theorem xL4:bootBuiltins "str" = some (.type "str"):=by decide +kernel
theorem Α:bootBuiltins "list" = some (.type "list"):=by decide +kernel
theorem zD8:bootBuiltins "tuple" = some (.type "tuple"):=by decide +kernel
section
variable {X:Cx}
theorem ß:OpR X (binaryOp .Mult) (rI IntMulOk fun i j=>.int (i*j)):=opI fun _ _ _ _ _ _ _ hc q=>mul_int q hc
noncomputable def ε (_ j:Int):Prop:=j≠0 /\ j.natAbs.log2<9000
theorem Ú:OpR X (binaryOp .FloorDiv) (rI ε fun i j=>.int (i.fdiv j)):=opI fun _ _ _ _ _ _ _ hc q=>floordiv_int hc.1 q (.inl (PyProof.noPylong_of_log2 hc.2))
theorem log2_lt {n k:Nat}(h:n<2^k)(hk:0<k):n.log2<k:=by
 rcases Nat.eq_zero_or_pos n with h0 | hp
 ·subst h0;have:Nat.log2 0=0:=by decide
  lia
 ·exact(Nat.log2_lt (ŧ hp)).mpr h
theorem Ü {a b:Int}(k:Nat)(ha:a.natAbs<2^k)(hb:b.natAbs<2^k)(h:k<=67108864):IntMulOk a b:=by
 have bits:∀x:Int,x.natAbs<2^k->Builtin.Int.intBits x<=k:=fun x hx=>by
  unfold Builtin.Int.intBits
  split
  ·exact Ń _
  ·rename_i hx0;rcases Nat.eq_zero_or_pos k with h0 | hp
   ·subst h0;have:x=0:=by
     have:x.natAbs<1:=hx;lia
    simp[this]at hx0
   ·have:=log2_lt hx hp;lia
 exact IntMulOk.of_le (bits a ha) (bits b hb) (by lia)
theorem ű {i j:Int}(h:j≠0)(hb:j.natAbs<2^9000):ε i j:=⟨h,log2_lt hb (by decide)⟩
theorem yV1:δ X (.builtin "isinstance") (fun xs H Q=>∃x n t b,xs=[x,.ty n] /\ TyOf X.K H x t /\ PySem.W.kitOne X.K t (.type n)=some b /\ Q (.bl b) H):=by
 intro pins s σ H xs us Q I r h;obtain⟨x,n,t,b,rfl,ty,e,q⟩:=h;obtain⟨u,u',rfl,ru,ru'⟩:=yI4 r;cases ru';exact yN6 I ru ty e fun tk=>⟨.bl b,H,I.tok tk,rfl,q⟩
noncomputable def ItrS (lo c:Int)(n:Nat):It:=⟨fun i _=>i<n,fun i H x H'=>H'=H /\ x = .int (lo+(i:Int)*c),fun i _=>n<=i⟩
theorem zZ4 {P:Program}{w:World}{K:Ā}{tg:Expr}(it:Addr)(lo c:Int)(n:Nat):Turn P w K tg (ItrS lo c n) [it] it (fun i h=>IsRangeIter h it (lo+(i:Nat)*c) ((n:Int) - (i:Nat)) c) where
 mem:=by simp
 obj:=fun i h st b hb=>by
  have e:b=it:=by simpa using hb
  subst e;exact⟨_,st,fun v z=>by
   have z':Data.fields _=Data.cell v:=z;cases z'⟩
 keep:=fun i h h' st k=>k it (by simp) _ st
 item:=by
  intro X hP hw hK hc i pins s σ H E I hf st hg;subst hP hw hK;obtain⟨f0,f1,f2,f3,f4,f5⟩:=hf it (by simp);have W:=Walks.range (prog:=X.prog) (w:=X.w) (I.ok.hd hc) it lo c n;refine W.item i s _ _ hg st fun v h' tk hv st' kk=>?_;obtain⟨t,rfl⟩:=hv;have I1:Inv X pins σ H { s with heap:=h',toks:=tk }:=I.turned (fun b o hb e=>kk b o (by simpa using hb) e) f0 f1 f3 f4 f5;exact⟨_,rfl,xD3 (s:={ s with heap:=h',toks:=tk }) (n:="range_iterator") st' rfl rfl (by decide) ⟨.int (lo+(i:Int)*c),H,I1,⟨t,rfl⟩,⟨rfl,rfl⟩,st',fun b hb=>(hf b hb).1⟩⟩
 done:=by
  intro X hP hw hK hc i pins s σ H E I hf st hg;subst hP hw hK;obtain⟨f0,f1,f2,f3,f4,f5⟩:=hf it (by simp);exact wpAny_pyNext_range_end (I.ok.hd hc) st (by have:n<=i:=hg;lia) fun h' eb=>⟨rfl,I.turned (t':=s.toks) (fun b o hb e=>eb b o hb e) f0 f1 f3 f4 f5⟩
 self:=fun _ _ _ _ _ st h=>wpAny_pyIter_rangeiter st h
noncomputable def rngN (lo hi c:Int):Nat:=if lo<hi then ((hi - lo - 1) / c+1).toNat else 0
theorem xA7 {lo hi c:Int}(h:0<c):((rngN lo hi c:Nat):Int)=Builtin.Range.rangeSize lo hi c:=by
 unfold rngN Builtin.Range.rangeSize;rw[if_pos h]
 split
 ·have:=Int.ediv_nonneg (a:=hi - lo - 1) (b:=c) (by lia) (by lia);lia
 ·rfl
theorem yG7 {a b c:Int}(ha:-(2^60)<=a)(ha':a<2^60)(hb:-(2^60)<=b)(hb':b<2^60)(hc:0<c)(hc':c<2^60):Builtin.Range.small a b c=true:=by
 have hs:0<=Builtin.Range.rangeSize a b c /\ Builtin.Range.rangeSize a b c<2^62:=by
  unfold Builtin.Range.rangeSize;rw[if_pos hc]
  split
  ·have h1:=Int.ediv_nonneg (a:=b - a - 1) (b:=c) (by lia) (by lia);have h2:(b - a - 1) / c<=b - a - 1:=Int.ediv_le_self _ (by lia);lia
  ·lia
 unfold Builtin.Range.small;simp only[Builtin.Range.rangeFitsLong,Œ,Bool.or_eq_true,decide_eq_true_eq,beq_iff_eq,if_pos (show c > 0 from hc)];lia
theorem yK6 {tg:Expr}{pins:List (Addr×Obj)}{σ:St}{H:Hp}{s:Shared}{R:It->Hp->Prop}{E:Value->Shared->Prop}{lo hi c:Int}{t u v:Tok}{tk:Nat}(I:Inv X pins σ H s)(h1:-(2^60)<=lo)(h2:lo<2^60)(h3:-(2^60)<=hi)(h4:hi<2^60)(hc:0<c)(hc':c<2^60)
  (q:R (ItrS lo c (rngN lo hi c)) H):wpAny (model X.prog X.w) X.A (pyIter (.ref s.heap.objs.size)) (PIE X pins σ tg R) E { s with heap:=s.heap.push { cls:=.type "range",data:=.fields #[.int lo t,.int hi u,.int c v] },toks:=tk }:=by
 refine wpAny_pyIter_range (IsRange.new ..) (yG7 h1 h2 h3 h4 hc hc') ?_;have I1:Inv X pins σ H { s with heap:=s.heap.push { cls:=.type "range",data:=.fields #[.int lo t,.int hi u,.int c v] },toks:=tk }:=I.kept fun b o e=>Č _ e;refine⟨(s.heap.push { cls:=.type "range",data:=.fields #[.int lo t,.int hi u,.int c v] }).objs.size,[(s.heap.push { cls:=.type "range",data:=.fields #[.int lo t,.int hi u,.int c v] }).objs.size],_,_,H,rfl,
  I1.kept (t':=tk) fun b o e=>Č _ e,zZ4 _ lo c (rngN lo hi c),?_,fun b hb=>?_,q⟩
 ·have e1:lo+((0:Nat):Int)*c=lo:=by simp
  have e2:((rngN lo hi c:Nat):Int) - ((0:Nat):Int)=Builtin.Range.rangeSize lo hi c:=by rw[xA7 hc];simp
  show IsRangeIter _ _ (lo+((0:Nat):Int)*c) (((rngN lo hi c:Nat):Int) - ((0:Nat):Int)) c;rw[e1,e2];exact ě _ rfl
 ·have e:b=(s.heap.push { cls:=.type "range",data:=.fields #[.int lo t,.int hi u,.int c v] }).objs.size:=by simpa using hb
  subst e;exact I1.fpOk (Ć _) (I1.hok.fresh (Ć _))
noncomputable def xN8 (ta:TA):TI:=fun σ H R=>ta σ H fun vs H1=>∃i j c:Int,vs=[.int i,.int j,.int c] /\ (-(2^60)<=i /\ i<2^60 /\ -(2^60)<=j /\ j<2^60 /\ 0<c /\ c<1073741824) /\ R (ItrS i c (rngN i j c)) H1
theorem yL2 {tg a b c:Expr}{ta:TA}{p pos:Pos}(hg:Gl X "range")(hm:X.mg "range" = none)(ha:PA X [a,b,c] ta)(hs:starEach [a,b,c] X.env=[(false,eval a X.env),(false,eval b X.env),(false,eval c X.env)]:=by rfl)
  (hs2:starEach [b,c] X.env=[(false,eval b X.env),(false,eval c X.env)]:=by rfl):PI X tg (.Call (.Name "range" p) [a,b,c] [] pos) (xN8 ta):=by
 intro pins s σ H R I h;refine Call_ (π I hg hm boot_range (PyProof.Rows.callWith_type1 (thn (ha pos pins s σ H _ I h) fun us s1 ⟨vs,H1,I1,r1,q1⟩=>?_) (by rw[hs,hs2]) (by rw[hs2];rfl)));obtain⟨i,j,k,e,⟨q1,q2,q3,q4,q5,q6⟩,q⟩:=q1;subst e;cases r1 with
 | cons r rr =>
  cases rr with
  | cons r' rr =>
   cases rr with
   | cons r'' rr =>
    cases rr;obtain⟨t,rfl⟩:=r;obtain⟨t',rfl⟩:=r';obtain⟨t'',rfl⟩:=r'';exact call_range_3 (by lia) (yK6 I1 q1 q2 q3 q4 q5 (by lia) q) (.inl (PyProof.noPylong_small (by lia)))
theorem yI1 {lo c:Int}{n:Nat}{g:TG}{tb:TS}{D:Ends}{σ:St}{H:Hp}(Pv:Nat->St->Hp->Prop)(h0:Pv 0 σ H)
  (hs:∀i σ H,i<n->Pv i σ H->g (.int (lo+(i:Int)*c)) σ H fun σ2 H2=>tb { D with nx:=Pv (i+1),ct:=Pv (i+1),bk:=D.nx } σ2 H2)(hd:∀σ H,Pv n σ H->D.nx σ H) :
  ∃W:Nat->Nat->St->Hp->Prop,(∃m,W 0 m σ H) /\ ∀i m σ H,W i m σ H ->
   ((ItrS lo c n).stop i H /\ D.nx σ H) \/ ((ItrS lo c n).go i H /\ ∃N:St->Hp->Prop,(∀σ' H',N σ' H'->∃m',m'<m /\ W (i+1) m' σ' H') /\ ∀x H',(ItrS lo c n).yld i H x H'->g x σ H' fun σ2 H2=>tb { D with nx:=N,ct:=N,bk:=D.nx } σ2 H2):=by
 refine⟨fun i m σ H=>m=n - i /\ i<=n /\ Pv i σ H,⟨n,by simp,Ń _,h0⟩,?_⟩;rintro i m σ H ⟨rfl,hi,p⟩
 by_cases hlt:i<n
 ·refine .inr ⟨hlt,Pv (i+1),fun σ' H' p'=>⟨n - (i+1),by lia,rfl,hlt,p'⟩,fun x H' y=>?_⟩;obtain⟨e,y⟩:=y;subst e y;exact hs i σ _ hlt p
 ·have e:i=n:=by lia
  subst e;exact .inl ⟨Ć _,hd σ H p⟩
end
structure FnAt (P:Program)(w:World)(K:Ā)(mg:Str->Option Value)(base:Heap)(CX:CXT)(k:Nat)(x:Str)(ps:List Str)(sp:Sp):Prop where
 ex:∃(f:Addr) (fd:FuncData),FnOk P w K mg base CX k f fd ps sp /\ mg x=some (.ref f) /\ PySem.W.keepIn K (.ref f)=true /\ Binds K fd ps []
structure DefAt (K:Ā)(mg:Str->Option Value)(x:Str)(st:Stmt):Prop where
 ex:∃(f:Addr) (fd:FuncData),Fun K x x st f fd /\ mg x=some (.ref f)
theorem DefAt.mk' {K:Ā}{h:Heap}{mg:Str->Option Value}{x:Str}{st:Stmt}{f:Addr}{oc:Value}{od an:Option Addr}{osl:Array (Option Value)}{kV doc pm cdv ct:Value}(X:K.In h)(G:h.Ns mainGlobals mg)
  (a:ĭ K mainGlobals x=some (some (.ref f)))(l:K.lookup f=some ⟨oc,od,.func (Ś x x (Ω st) (Η st) (Ç st) .none kV doc pm an cdv ct),osl⟩)
  (c:PySem.W.codeIn K cdv x=true)(k:PySem.W.keepIn K (.ref f)=true):DefAt K mg x st:=⟨f,_,yX9 (st:=st) l c k,PySem.W.mg_of X G a⟩
section
variable {P:Program}{w:World}{K:Ā}{mg:Str->Option Value}{base:Heap}
theorem DefAt.ok {x:Str}{st:Stmt}{N ps:List Str}{k:Nat}{sp:Sp}(D:DefAt K mg x st)(S:Ï N ps (Ç st))(len:∀vs H Q E,sp vs H Q E->vs.length=ps.length)
  (hb:∀(kV doc pm:Value) (an:Option Addr) (cdv ct:Value) (us:List Value),us.length=ps.length->bindArgs (Ś x x (Ω st) (Η st) (Ç st) .none kV doc pm an cdv ct) ⟨us,[]⟩=pure (ps.zip us))
  (hbody:∀(f:Addr) (cdv:Value) (A:Around) (outer:List Env) (s:Shared) (H:Hp) (vs:List V) (Q:VK) (E:XK),Room k (A.deeper (envOfC x (Ç st) s.heap.objs.size f cdv))->sp vs H Q E ->
   ∃t,PSs (cxOf CX0 P w K mg base N x (Ç st) f cdv A outer s H E).nox (Η st) t /\ t { nx:=fun _ H'=>Q .non H',rt:=Q } (start N vs) H):FnAt P w K mg base CX0 (k+1) x ps sp:=by
 obtain⟨f,fd,F,m⟩:=D.ex;exact⟨f,fd,F.ok S len fun cdv A outer s H vs Q E hr h=>hbody f cdv A outer s H vs Q E hr h,m,F.kp,F.binds hb⟩
end
section
variable {X:Cx}{CX:CXT}{k j:Nat}{ps:List Str}{sp:Sp}{E:XK}{x:Str}{p pos:Pos}{e:Expr}{es:List Expr}{t:TA}
theorem ο (F:FnAt X.prog X.w X.K X.mg X.base CX j x ps sp)(hr:Room k X.A)(hg:Gl X x)(hx:zZ2 CX X E)(ha:PA X (e::es) t)(hj:j<=k:=by decide)
  (hdb:(x==("__debug__":Str))=false:=by decide)(he:starEach (e::es) X.env=(false,eval e X.env)::starEach es X.env:=by rfl)(hpl:(backTo pos (starEach es X.env)).any (·.1)=false:=by rfl) :
  PE X (.Call (.Name x p) (e::es) [] pos) (zZ6 sp [] E t):=by
 obtain⟨f,fd,G,m,kp,b⟩:=F.ex;exact xB7 G (hr.mono hj) hg m kp b .nil hx ha hdb he hpl
end
noncomputable def tyH:Option HO->Option String
 | some (.lst _)=>some "list"
 | some (.frz _ (.lst _))=>some "list"
 | some (.tup _)=>some "tuple"
 | some (.dK _)=>some "dict"
 | some (.dT _)=>some "dict"
 | _=>none
noncomputable def tyS (H:Hp):V->Option String
 | .non=>some "NoneType"
 | .bl _=>some "bool"
 | .int _=>some "int"
 | .str _=>some "str"
 | .ref a=>tyH (H a)
 | _=>none
theorem zV7 {o:Option HO}{n:String}(h:tyH o=some n) :
  (n = "list" /\ ((∃xs,o=some (.lst xs)) \/ ∃ob xs,o=some (.frz ob (.lst xs)))) \/ (n = "tuple" /\ ∃xs,o=some (.tup xs)) \/ (n = "dict" /\ ((∃kvs,o=some (.dK kvs)) \/ ∃kvs,o=some (.dT kvs))):=by
 cases o with
 | none=>cases h
 | some u =>
  cases u with
  | lst xs=>cases h;exact .inl ⟨rfl,.inl ⟨xs,rfl⟩⟩
  | tup xs=>cases h;exact .inr (.inl ⟨rfl,xs,rfl⟩)
  | dK kvs=>cases h;exact .inr (.inr ⟨rfl,.inl ⟨kvs,rfl⟩⟩)
  | dT kvs=>cases h;exact .inr (.inr ⟨rfl,.inr ⟨kvs,rfl⟩⟩)
  | frz ob v =>
   cases v with
   | lst xs=>cases h;exact .inl ⟨rfl,.inr ⟨ob,xs,rfl⟩⟩
   | _=>cases h
  | _=>cases h
theorem þ {K:Ā}{H:Hp}{v:V}{n:String}(h:tyS H v=some n):TyOf K H v (.type n):=by
 cases v with
 | non=>cases h;exact .non
 | bl b=>cases h;exact .bl b
 | int i=>cases h;exact .int i
 | str x=>cases h;exact .str x
 | byt b=>cases h
 | flt b=>cases h
 | ty b=>cases h
 | ref a =>
  rcases zV7 (show tyH (H a)=some n from h) with⟨rfl,⟨xs,e⟩ | ⟨ob,xs,e⟩⟩ | ⟨rfl,xs,e⟩ | ⟨rfl,⟨kvs,e⟩ | ⟨kvs,e⟩⟩
  ·exact .lst e
  ·exact .frz e
  ·exact .tup e
  ·exact .dK e
  ·exact .dT e
theorem zE0 {H:Hp}{v:V}{n:String}(h:tyS H v=some n):n∈["NoneType","bool","int","str","list","tuple","dict"]:=by
 cases v with
 | ref a=>rcases zV7 (show tyH (H a)=some n from h) with⟨rfl,_⟩ | ⟨rfl,_⟩ | ⟨rfl,_⟩<;>simp
 | _=>first | (cases h;done) | (cases h;simp)
noncomputable def subS (n m:String):Bool:=n==m||(n == "bool" && m == "int")
theorem ŷ {K:Ā}{n m:String}(hn:n∈["NoneType","bool","int","str","list","tuple","dict"])(hm:m∈["int","bool","str","list","tuple","dict"]) :
  PySem.W.kitOne K (.type n) (.type m)=some (subS n m):=by
 simp only[Ė,Ő,or_false]at hn hm;rcases hn with rfl | rfl | rfl | rfl | rfl | rfl | rfl<;>rcases hm with rfl | rfl | rfl | rfl | rfl | rfl<;>first | rfl | (with_unfolding_all rfl) | decide +kernel
theorem Same.upd {H:Hp}{p:Addr}{o:HO}(h:H p=none):Same H (upd H p o):=fun b u e=>by
 rw[upd_ne (ê e h)];exact e
section
variable {P:Program}{w:World}{H H':Hp}{h h':Heap}{a:Addr}{o:HO}
theorem ObjOk.there (x:ObjOk P w H h a o):∃ob,h.get? a=some ob:=by
 cases o with
 | lst xs=>obtain⟨_,_,_,_,e⟩:=x;exact⟨_,e⟩
 | tup xs=>obtain⟨_,_,_,ob,e,_⟩:=x;exact⟨ob,e⟩
 | dK kvs=>obtain⟨_,_,_,_,ob,_,_,e,_⟩:=x;exact⟨ob,e⟩
 | dT kvs=>obtain⟨_,_,_,_,ob,_,_,e,_⟩:=x;exact⟨ob,e⟩
 | set S n=>obtain⟨ob,_,_,_,e,_⟩:=x;exact⟨ob,e⟩
 | ins C dx fs=>obtain⟨_,_,_,e,_⟩:=x;exact⟨_,e⟩
 | own y=>obtain⟨ob,e⟩:=x;exact⟨ob,e⟩
 | xd fs=>obtain⟨_,⟨ob,_,_,e,_⟩,_⟩:=x;exact⟨ob,e⟩
 | rng lo hi=>obtain⟨_,_,_,e⟩:=x;exact⟨_,e⟩
 | frz ob u=>obtain⟨e,_⟩:=x;exact⟨_,e⟩
 | tbl ps=>exact⟨_,(show h.get? a=some _ from x)⟩
 | met f y=>exact⟨_,(show h.get? a=some _ from x)⟩
 | ext φ=>obtain⟨_,⟨ob,e⟩,_⟩:=x;exact⟨ob,e⟩
theorem HOk.via (x:HOk P w H h)(k:∀b u ob,H b=some u->h.get? b=some ob->h'.get? b=some ob):HOk P w H h':=fun b u e =>
 (x b u e).stay (fun c ob hc q=>by
  rcases hc with z | z
  ·subst z;exact k c u ob e q
  ·exact k c _ ob z q) (fun _ q=>q) fun _ _ q=>q
end
theorem yU6 {env:Env}{L:Addr}{outer:List Env}(hf:env.frame=some L):frs (env::outer)=L::frs outer:=by
 unfold frs;rw[List.filterMap_cons,hf]
structure Kp (P:Program)(w:World)(outer:List Env)(H:Hp)(h:Heap)(H':Hp)(h':Heap)(B:Heap):Prop where
 hok:HOk P w H' h'
 un:Un (frs outer) [] H H' h h'
 old:∀b o,h.get? b=some o->H b=none->b∉frs outer->B.get? b=some o
 has:∀b o,h.get? b=some o->b∉frs outer->∃o',B.get? b=some o'
 trk:∀b u,H' b=some u->∃o,h'.get? b=some o /\ B.get? b=some o
section
variable {X:Cx}{pins:List (Addr×Obj)}{σ:St}{H1 H2:Hp}{s1:Shared}{h2 h3 B:Heap}{a:Addr}{C a0:Value}{vs:List Value}
theorem Kp.raise (I:Inv X pins σ H1 s1)(hx:Heap.MadeExcOf s1.heap h2 a C vs):Kp X.prog X.w X.stack H1 s1.heap H1 h2 (PySem.W.hideAll s1.heap (frs X.stack)) where
 hok:=I.hok.kept hx.keeps
 un:=Un.kept hx.keeps
 old:=fun b o e _ hb=>PySem.W.hideAll_get _ e hb
 has:=fun b o e hb=>⟨o,PySem.W.hideAll_get _ e hb⟩
 trk:=fun b u e=>by
  obtain⟨o,q⟩:=(I.hok b u e).there;refine⟨o,hx.keeps b o q,PySem.W.hideAll_get _ q fun hb=>?_⟩;rw[I.stkFree b hb]at e;cases e
theorem Kp.slots (I:Inv X pins σ H1 s1)(K:Kp X.prog X.w X.stack H1 s1.heap H2 h2 B)(st:B.StaysIn h3)(sl:h2.UpToSlots h3):Kp X.prog X.w X.stack H1 s1.heap H2 h3 B:=by
 have trk3:∀b u,H2 b=some u->∃o,h3.get? b=some o /\ B.get? b=some o:=fun b u e=>by
  obtain⟨o,_,q⟩:=K.trk b u e;exact⟨o,st b o q,q⟩
 have fr:∀b o,s1.heap.get? b=some o->H1 b=none->b∈frs X.stack->∃sl,h3.get? b=some { o with slots:=sl }:=fun b o e n hb=>by
  obtain⟨sl1,e1⟩:=K.un.slot b o e n hb (by simp);obtain⟨_,o',e',d⟩:=I.stack.mem hb;rw[e]at e';cases e';obtain⟨sl2,e2⟩:=sl b _ e1 d;exact⟨sl2,e2⟩
 refine⟨K.hok.via fun b u ob e q=>?_,⟨fun b o e n hb _=>st b o (K.old b o e n hb),fun b o e n hb _=>fr b o e n hb,K.un.free,fun b o e hx=>?_,K.un.tups,K.un.frzs,K.un.tbls⟩,K.old,K.has,trk3⟩
 ·obtain⟨o,q1,q2⟩:=K.trk b u e;rw[q]at q1;cases q1;exact st b ob q2
 ·by_cases hb:b∈frs X.stack
  ·obtain⟨sl1,e1⟩:=fr b o e (I.stkFree b hb) hb;exact⟨_,e1⟩
  ·obtain⟨o',e'⟩:=K.has b o e hb;exact⟨o',st b o' e'⟩
theorem Kp.leave (I:Inv X pins σ H1 s1)(hex:X.ex=[])(hst:X.stack=X.env::X.outer)(hf:X.env.frame=some X.env.locals)(K:Kp X.prog X.w X.stack H1 s1.heap H2 h2 B)(st:B.StaysIn h3)(sl:h2.UpToSlots h3) :
  Kp X.prog X.w X.outer X.H₀ X.s₀.heap H2 h3 B:=by
 have K3:=K.slots I st sl;have fe:frs X.stack=X.env.locals::X.fs:=by rw[hst];exact yU6 hf
 have nex:∀b:Addr,b∉X.ex:=fun b z=>by rw[hex]at z;cases z
 have nin:∀b o,X.s₀.heap.get? b=some o->b∉X.fs->b∉frs X.stack:=fun b o e hb z=>by
  rw[fe]at z;rcases Ė.mp z with z | z
  ·have h1:=ċ e;have h2:=I.ok.above;rw[z]at h1;exact absurd (Ă h1 h2) (ĸ _)
  ·exact hb z
 have old:∀b o,X.s₀.heap.get? b=some o->X.H₀ b=none->b∉frs X.outer->B.get? b=some o:=fun b o e n hb =>
  K.old b o (I.base.keep b o e n hb (nex b)) (I.base.free b o e n (nex b)) (nin b o e hb)
 refine⟨K3.hok,⟨fun b o e n hb _=>st b o (old b o e n hb),fun b o e n hb _=>?_,fun b o e n _=>?_,fun b o e _=>?_,fun b xs e=>K3.un.tups b xs (I.base.tups b xs e),fun b o u e=>K3.un.frzs b o u (I.base.frzs b o u e),fun b ps e=>?_⟩,old,fun b o e hb=>?_,K3.trk⟩
 ·obtain⟨sl1,e1⟩:=I.base.slot b o e n hb (nex b);obtain⟨sl2,e2⟩:=K3.un.slot b _ e1 (I.base.free b o e n (nex b)) (by rw[fe];exact ć _ hb) (by simp);exact⟨sl2,e2⟩
 ·obtain⟨o1,e1⟩:=I.base.there b o e (nex b);exact K3.un.free b o1 e1 (I.base.free b o e n (nex b)) (by simp)
 ·obtain⟨o1,e1⟩:=I.base.there b o e (nex b);exact K3.un.there b o1 e1 (by simp)
 ·obtain⟨m1,e1⟩:=I.base.tbls b ps e;obtain⟨m2,e2⟩:=K3.un.tbls b _ e1;exact⟨m1++m2,by rw[e2,Array.append_assoc]⟩
 ·obtain⟨o1,e1⟩:=I.base.there b o e (nex b);exact K.has b o1 e1 (nin b o e hb)
end
noncomputable def CXE (P:Program)(w:World):CXT:=fun outer H s E e s'=>∃(a:Addr) (C:Value) (H':Hp) (B:Heap) (a0:Value),
 e = .ref a /\ s'.os=s.os /\ AllBare s'.gens /\ Kp P w outer H s.heap H' s'.heap B /\ Heap.FlyingW B outer a C a0 s'.heap /\ E C none H'
noncomputable def yY8 (X:Cx)(E:XK):Prop:=∀(C:Value) (pins:List (Addr×Obj)) (σ:St) (H1:Hp) (s1:Shared) (h2:Heap) (a:Addr) (vs:List Value),Inv X pins σ H1 s1->Heap.MadeExcOf s1.heap h2 a C vs->E C none H1->X.xe (.ref a) { s1 with heap:=h2 }
section
variable {P:Program}{w:World}{K:Ā}{mg:Str->Option Value}{base:Heap}{N:List Str}{qual:Str}{scope:Scope}{f:Addr}{cd:Value}{A:Around}{outer:List Env}{s:Shared}{H:Hp}{E:XK}
theorem yK7:yY8 (cxOf (CXE P w) P w K mg base N qual scope f cd A outer s H E) E:=by
 intro C pins σ H1 s1 h2 a vs I hx q;have hl:=PySem.W.funFrames_hide (as:=frs (cxOf (CXE P w) P w K mg base N qual scope f cd A outer s H E).stack) I.stack fun env he b hb=>ū.mpr ⟨env,he,hb⟩;refine wpAny_leaves_madeW I.ok.frames rfl (fun b o q=>PySem.W.of_hideAll _ q) hl hx fun h3 t fl _ _ sl=>?_;exact⟨a,C,H1,_,.ref t,rfl,I.os,I.bare,(Kp.raise I hx).leave I rfl rfl rfl fl.1 sl,fl,q⟩
end
theorem yO7 {K:Ā}{h:Heap}{C:Addr}{bmB:List Value}{newId:String}(X:K.In h)(q:PySem.W.excIn K C bmB newId=true) :
  ∃bm N nm qn bs hdct sn sub ab col dd k0 k1 k2 k3 k5 mN,h.get? C=some (excClassObj nm qn C N bs bm hdct sn sub ab col dd k0 k1 k2 k3 k5 newId) /\ h.Ns N mN /\ mN "__init__" = none /\ OwnTail h bmB bm:=by
 unfold PySem.W.excIn at q
 split at q
 ·rename_i d1 cd1 sl1 look
  split at q
  ·rename_i C1 bm1 s0 s1 s2 s3 n1 s5 hmro hslots;simp only[beq_iff_eq,Bool.not_eq_true',Œ]at q;obtain⟨⟨⟨⟨⟨q1,q2⟩,hdel⟩,htl⟩,hns⟩,hini⟩:=q;subst q1 q2;obtain⟨u1,u2,u3,u4,u5,u6,u7,u8,u9,u10,u11⟩:=cd1;dsimp only at hmro hdel hns hini;subst hmro hdel;have es:sl1=#[s0,s1,s2,s3,some (.builtin n1),s5]:=by
    cases sl1 with
    | mk l =>
     have:l=[s0,s1,s2,s3,some (.builtin n1),s5]:=hslots;rw[this]
   subst es;have at_:=X _ _ look;refine⟨bm1,u4,u1,u5,u2,u6,u7,u8,u9,u10,d1,s0,s1,s2,s3,s5,_,at_,.of_isNs (PySem.W.isNs_of_in X hns),?_,PySem.W.tail_of_in X htl⟩;exact PySem.W.nsMap_none_of_in X hns hini
  ·cases q
 ·cases q
section
variable {X:Cx}{E:XK}{C:Addr}{B newId initId:String}{bmB:List Value}{x:Str}{np cpos pos:Pos}{e₀:Expr}{rest:List Expr}{t:TA}
noncomputable def xE8 (C:Addr)(E:XK)(t:TA):TS:=fun _ σ H=>t σ H fun vs H1=>vs.length<=sizeLine /\ E (.ref C) none H1
theorem yS7 (R:yY8 X E)(hc:X.calm=true)(hg:Gl X x)(hm:X.mg x=some (.ref C))(hq:PySem.W.excIn X.K C bmB newId=true)(FB:ExcBaseFacts B newId initId bmB)(ha:PA X (e₀::rest) t)
  (he:starEach (e₀::rest) X.env=(false,eval e₀ X.env)::starEach rest X.env:=by rfl)(hpl:(backTo cpos (starEach rest X.env)).any (·.1)=false:=by rfl)(hd:(x==("__debug__":Str))=false:=by decide) :
  PS X (.Raise (some (.Call (.Name x np) (e₀::rest) [] cpos)) none pos) (xE8 C E t):=by
 intro pins s σ H D I h;obtain⟨tl,N,nm,qn,bs,hdct,sn,sub,ab,col,dd,k0,k1,k2,k3,k5,mN,hC,hN,hni,T⟩:=yO7 I.mod.kin hq;refine wpAny_Raise_call_subT (k5:=k5) (k3:=k3) (k2:=k2) (k1:=k1) (k0:=k0) (dd:=dd) (col:=col) (ab:=ab) (sub:=sub) (sn:=sn) (hdct:=hdct) (bm:=tl) (bs:=bs) (N:=N) (q:=qn) (nm:=nm) (C:=C) FB (mN:=mN) (T.hasType FB.hasBase) (I.ok.hd hc) ?_ hni (yM7 I hg hm ⟨rfl,?_⟩ hd)
 ·rw[he];show (false||(backTo cpos (starEach rest X.env)).any (·.1))=false;rw[hpl];rfl
 ·have h1:=ha cpos pins s σ H _ I h;rw[he]at h1 ⊢;refine Calls.evalArgs_plain (wpAny_mono h1 (fun us s1 z=>?_) fun _ _ y=>y);obtain⟨vs,H1,I1,r,hz,q⟩:=z;exact⟨rfl,by rw[<- r.length];exact hz,I1.bk _ _ hC,hN.keeps I1.bk,T.keeps I1.bk,fun h' a hx=>R _ pins σ H1 s1 h' a us I1 hx q⟩
end
section
variable {X:Cx}{pins:List (Addr×Obj)}{σ:St}{H:Hp}{s:Shared}{a:Addr}{o:HO}
theorem Inv.track (I:Inv X pins σ H s)(hn:H a=none)(hnew:X.s₀.heap.get? a=none)(hL:a≠X.env.locals)(hC:∀x c,X.env.cells.lookup x=some c->c≠a)(hP:∀p∈X.pn++pins,p.1≠a)
  (ho:ObjOk X.prog X.w (upd H a o) s.heap a o):Inv X pins σ (upd H a o) s:=by
 have ne:∀b u,H b=some u->b≠a:=fun b u e z=>by rw[z,hn]at e;cases e
 refine⟨I.ok,I.os,I.bare,⟨I.base.keep,I.base.slot,fun b ob e n hx=>?_,I.base.there,fun b xs e=>?_,fun b ob u e=>?_,fun b ps e=>?_⟩,I.loc,I.cell,?_,fun x c e=>?_,fun p hp=>?_,fun b u e=>?_,I.len⟩
 ·rw[upd_ne (fun z=>by rw[z,hnew]at e;cases e)];exact I.base.free b ob e n hx
 ·have q:=I.base.tups b xs e;rw[upd_ne (ne b _ q)];exact q
 ·have q:=I.base.frzs b ob u e;rw[upd_ne (ne b _ q)];exact q
 ·obtain⟨m,q⟩:=I.base.tbls b ps e;exact⟨m,by rw[upd_ne (ne b _ q)];exact q⟩
 ·rw[upd_ne (Ne.symm hL)];exact I.free
 ·rw[upd_ne (hC x c e)];exact I.freeC x c e
 ·obtain⟨e1,e2,e3⟩:=I.pin p hp;exact⟨e1,by rw[upd_ne (hP p hp)];exact e2,e3⟩
 ·by_cases z:b=a
  ·subst z;rw[Ã]at e;cases e;exact ho
  ·rw[upd_ne z]at e;exact(I.hok b u e).stay (fun _ _ _ q=>q) (fun c q=>by rw[upd_ne (ne c _ q)];exact q) fun c xs q=>by rw[upd_ne (ne c _ q)];exact q
end
open PySem PySem.Spec PyProof.Rows PySem.W PySem.Builtin PySem.Builtin.ObjectAttr PySem.Builtin.Getset_descriptor
section
variable {prog:Program}{w:World}{A:Around}{E:Value->Shared->Prop}
structure ExcK (K:Frag)(C:Addr):Prop where
 ga:findIn K (.ref C) "__getattribute__" = some (some (.builtin "BaseException.__getattribute__"))
 g2:findIn K (.ref C) "__getattr__" = some none
 cl:findIn K (.ref C) "__class__" = some (some (.builtin "object.__class__"))
 mB:mroIn K C (.type "BaseException")=some true
 mO:mroIn K C (.type "object")=some true
end
noncomputable def Ų (cells:List (Str×Addr)):List (Str×NameKind)->List (Str×Addr)->List (Str×Addr)
 | [],cs=>cs
 | x::r,cs=>Ų cells r (if x.2 == .free then (match cells.lookup x.1 with | some a=>(x.1,a)::cs | none=>cs) else cs)
theorem zI7 {scope:Scope}{env:Env}(h:∀x∈scope.names,x.2 = .free->∃a,env.cells.lookup x.1=some a):closureFor scope env=pure (Ų env.cells scope.names []):=by
 have aux:∀(names:List (Str×NameKind)) (cs:List (Str×Addr)),(∀x∈names,x.2 = .free->∃a,env.cells.lookup x.1=some a) ->
   (forIn (m:=Sem) names cs fun x r=>do
    if (x.2==NameKind.free)=true then do
     let a <- cellOf env x.1
     pure (ForInStep.yield ((x.1,a)::r))
    else pure (ForInStep.yield r))=pure (Ų env.cells names cs):=by
  intro names
  induction names with
  | nil=>intro cs _;rfl
  | cons x r ih =>
   intro cs hx;rw[List.forIn_cons];cases hk:(x.2==NameKind.free) with
   | false =>
    simp only[Bool.false_eq_true,if_false,pure_bind];rw[ih cs fun y hy=>hx y (ć _ hy)];show _=pure (Ų env.cells r (if x.2 == .free then _ else cs));rw[hk];rfl
   | true =>
    obtain⟨a,ha⟩:=hx x Ĉ (by simpa using hk);have e:cellOf env x.1=pure a:=by unfold cellOf;rw[ha]
    simp only[if_true,e,pure_bind];rw[ih _ fun y hy=>hx y (ć _ hy)];show _=pure (Ų env.cells r (if x.2 == .free then (match env.cells.lookup x.1 with | some a=>(x.1,a)::cs | none=>cs) else cs));rw[hk,ha];rfl
 have h1:=aux scope.names [] h;unfold closureFor;simp only[bind_pure];exact h1
theorem zK6 {cells:List (Str×Addr)}:∀{names:List (Str×NameKind)} {cs:List (Str×Addr)},(∀p∈cs,cells.lookup p.1=some p.2)->∀p∈Ų cells names cs,cells.lookup p.1=some p.2
 | [],_,h=>h
 | x::r,cs,h=>zK6 (names:=r) fun p hp=>by
  split at hp
  ·split at hp
   ·rename_i a ha;rcases Ė.mp hp with rfl | hp
    ·exact ha
    ·exact h p hp
   ·exact h p hp
  ·exact h p hp
theorem zO5 {cells:List (Str×Addr)}:∀{names:List (Str×NameKind)} {cs:List (Str×Addr)} {p:Str×Addr},p∈cs->p∈Ų cells names cs
 | [],_,_,h=>h
 | x::r,cs,p,h=>zO5 (names:=r) (by
  split
  ·split
   ·exact ć _ h
   ·exact h
  ·exact h)
theorem zK7 {cells:List (Str×Addr)}{x:Str}{a:Addr}(ha:cells.lookup x=some a):∀{names:List (Str×NameKind)} {cs:List (Str×Addr)},(x,NameKind.free)∈names->(x,a)∈Ų cells names cs
 | y::r,cs,h=>by
  rcases Ė.mp h with rfl | h
  ·refine zO5 (names:=r) ?_;simp[ha]
  ·exact zK7 ha (names:=r) h
theorem zC6 {α:Type}{x:Str}{v:α}:∀{l:List (Str×α)},l.lookup x=some v->(x,v)∈l
 | [],h=>by simp at h
 | (y,u)::r,h=>by
  rw[ţ]at h;cases e:x==y with
  | true=>rw[e]at h;cases h;rw[beq_iff_eq.mp e];exact Ĉ
  | false=>rw[e]at h;exact ć _ (zC6 h)
theorem zK5 {α:Type}{x:Str}{v:α}:∀{l:List (Str×α)},(x,v)∈l->∃u,l.lookup x=some u
 | (y,u)::r,h=>by
  rw[ţ];cases e:x==y with
  | true=>exact⟨u,rfl⟩
  | false =>
   rcases Ė.mp h with z | z
   ·cases z;simp at e
   ·exact zK5 z
noncomputable def yF9 (osc scope:Scope)(N Tn Fn:List Str)(js:List Nat):Bool :=
 (scope.kind == .function)&&(osc.kind == .function)&&(scope.names.all fun y=>match y.2 with
  | .cell=>false
  | .local=>scope.names.lookup y.1==some .local
  | .free=>osc.names.lookup y.1==some .cell&&scope.names.lookup y.1==some .free
  | _=>true)&&(js.map (fun j=>N[j]?)==Fn.map some)&&(Fn.all fun x=>scope.names.lookup x==some .free)&&(Tn.all fun x=>scope.names.lookup x==some .local)&&decide (Tn++Fn).Nodup
structure CompScope (osc scope:Scope)(N Tn Fn:List Str)(js:List Nat):Prop where
 kind:scope.kind = .function
 okind:osc.kind = .function
 nocell:∀y∈scope.names,y.2 ≠ .cell
 loc:∀y∈scope.names,y.2 = .local->scope.names.lookup y.1=some .local
 fre:∀y∈scope.names,y.2 = .free->osc.names.lookup y.1=some .cell
 idx:js.map (fun j=>N[j]?)=Fn.map some
 fn:∀x∈Fn,scope.names.lookup x=some .free
 tn:∀x∈Tn,scope.names.lookup x=some .local
 nd:(Tn++Fn).Nodup
theorem CompScope.of {osc scope:Scope}{N Tn Fn:List Str}{js:List Nat}(h:yF9 osc scope N Tn Fn js=true):CompScope osc scope N Tn Fn js:=by
 unfold yF9 at h;simp only[Œ,beq_iff_eq,decide_eq_true_eq,List.all_eq_true]at h;obtain⟨⟨⟨⟨⟨⟨h1,h1'⟩,h2⟩,h3⟩,h4⟩,h5⟩,h6⟩:=h;refine⟨h1,h1',fun y hy e=>?_,fun y hy e=>?_,fun y hy e=>?_,h3,h4,h5,h6⟩
 ·have:=h2 y hy;rw[e]at this;cases this
 ·have:=h2 y hy;rw[e]at this;simpa using this
 ·have:=h2 y hy;rw[e]at this;simp only[Œ,beq_iff_eq]at this;exact this.1
noncomputable def cxIn (X:Cx)(N:List Str)(scope:Scope)(cl:List (Str×Addr))(C:Addr)(s:Shared)(H:Hp)(fp:List Addr):Cx :=
 { X with N:=N,s₀:=s,H₀:=H,env:=compEnvC scope cl C X.env,outer:=X.stack,ex:=fp,fn:=fun _=>false,pn:=[],xe:=fun _ _=>False }
noncomputable def innS (k:Nat)(js:List Nat)(σ:St):St:=ď k none++js.map fun j=>(σ[j]?).join
theorem zG8 {env:Env}(hk:env.scope.kind = .function):∀{names:List (Str×NameKind)} {x:Str} {k:NameKind},(∀y∈names,y.2 = .free->env.kindOf y.1=some .cell)->names.lookup x=some k ->
  (names.map fun (n,k)=>if (k==NameKind.free&&env.scope.kind == .function&&env.kindOf n==some .cell) then (n,NameKind.cell) else (n,k)).lookup x=some (if k = .free then .cell else k)
 | [],_,_,_,h=>by simp at h
 | (n,k')::r,x,k,hf,h=>by
  have ih:=@zG8 env hk r x k fun y hy=>hf y (ć _ hy);have h0:=hf (n,k') Ĉ;rw[ľ];show List.lookup x ((if (k'==NameKind.free&&env.scope.kind == .function&&env.kindOf n==some .cell)=true then (n,NameKind.cell) else (n,k'))::_)=_;rw[ţ]at h
  by_cases hk':k' = .free
  ·subst hk';have e:(NameKind.free==NameKind.free&&env.scope.kind == .function&&env.kindOf n==some .cell)=true:=by rw[h0 rfl,hk];decide
   rw[if_pos e,ţ];cases hx:x==n with
   | true=>rw[hx]at h;cases h;rfl
   | false=>rw[hx]at h;exact ih h
  ·have e:¬(k'==NameKind.free&&env.scope.kind == .function&&env.kindOf n==some .cell)=true:=by
    intro z;simp only[Œ,beq_iff_eq]at z;exact hk' z.1.1
   rw[if_neg e,ţ];cases hx:x==n with
   | true=>rw[hx]at h;cases h;simp[hk']
   | false=>rw[hx]at h;exact ih h
theorem zJ8 {env:Env}:∀{names:List (Str×NameKind)} {x:Str} {k:NameKind},(names.map fun (n,k)=>if (k==NameKind.free&&env.scope.kind == .function&&env.kindOf n==some .cell) then (n,NameKind.cell) else (n,k)).lookup x=some k ->
  ∃k',(x,k')∈names /\ (k'=k \/ (k' = .free /\ k = .cell))
 | [],_,_,h=>by simp at h
 | (n,k')::r,x,k,h=>by
  have ih:=@zJ8 env r x k;rw[ľ]at h;have h:List.lookup x ((if (k'==NameKind.free&&env.scope.kind == .function&&env.kindOf n==some .cell)=true then (n,NameKind.cell) else (n,k'))::_)=some k:=h
  by_cases e:(k'==NameKind.free&&env.scope.kind == .function&&env.kindOf n==some .cell)=true
  ·rw[if_pos e,ţ]at h;cases hx:x==n with
   | true =>
    rw[hx]at h;cases h;simp only[Œ,beq_iff_eq]at e;refine⟨.free,?_,.inr ⟨rfl,rfl⟩⟩;rw[beq_iff_eq.mp hx,<- e.1.1];exact Ĉ
   | false=>rw[hx]at h;obtain⟨q,m,z⟩:=ih h;exact⟨q,ć _ m,z⟩
  ·rw[if_neg e,ţ]at h;cases hx:x==n with
   | true=>rw[hx]at h;cases h;refine⟨k',?_,.inl rfl⟩;rw[beq_iff_eq.mp hx];exact Ĉ
   | false=>rw[hx]at h;obtain⟨q,m,z⟩:=ih h;exact⟨q,ć _ m,z⟩
section
variable {X:Cx}{pins:List (Addr×Obj)}{σ:St}{H:Hp}{s:Shared}{scope:Scope}{Tn Fn:List Str}{js:List Nat}{fp:List Addr}
theorem xJ8 {C:Addr}{h1:Heap}{tk:Nat}{mC:Str->Option Value}(cs:CompScope X.env.scope scope X.N Tn Fn js)(I:Inv X pins σ H s)(hC:C=s.heap.objs.size)(hn:h1.Ns C mC)(k1:∀b o,s.heap.get? b=some o->h1.get? b=some o)
  (hf:∀b∈fp,FpOk X pins H b)(ho:∀b∈fp,∃o,s.heap.get? b=some o) :
  Inv (cxIn X (Tn++Fn) scope (Ų X.env.cells scope.names []) C s H fp) (X.pn++pins) (innS Tn.length js σ) H { s with heap:=h1,toks:=tk }:=by
 have hcl:∀x c,(Ų X.env.cells scope.names []).lookup x=some c->X.env.cells.lookup x=some c:=fun x c e=>zK6 (names:=scope.names) (cs:=[]) (fun _ z=>nomatch z) _ (zC6 e);have hlen:(js.map fun j=>X.N[j]?).length=(Fn.map some).length:=congrArg List.length cs.idx;rw[ą,ą]at hlen;have hfr:∀y∈scope.names,y.2 = .free->X.env.kindOf y.1=some .cell:=cs.fre;subst hC;refine⟨⟨I.ok.mod,cs.kind,I.ok.glob,I.ok.blt,Ć _,fun x y c e1 e2=>I.ok.inj x y c (hcl x c e1) (hcl y c e2),fun x hx=>?_,fun x c z=>absurd z Ď,I.ok.hd,I.ok.frames,.inl rfl,fun b hb=>⟨?_,fun x c e=>(hf b hb).2.2.2.2.1 x c (hcl x c e)⟩,I.bs,
  ĉ I.ok.bsz I.sz,fun b o e hb=>?_,fun b hb z=>?_,I.stack,I.stkFree⟩,rfl,I.bare,Un.kept k1,⟨mC,hn,fun i x v e1 e2 e3=>?_⟩,fun x c e=>?_,I.fresh,fun x c e=>I.freeC x c (hcl x c e),fun p hp=>?_,I.hok.kept k1,?_⟩
 ·-- has
  have hx:(relabel scope X.env).names.lookup x=some .cell \/ (relabel scope X.env).names.lookup x=some .free:=hx;have key:(x,NameKind.free)∈scope.names:=by
   rcases hx with hx | hx
   ·obtain⟨k',m,z⟩:=zJ8 hx;rcases z with z | ⟨z,_⟩
    ·subst z;exact absurd rfl (cs.nocell _ m)
    ·subst z;exact m
   ·obtain⟨k',m,z⟩:=zJ8 hx;rcases z with z | ⟨_,z⟩
    ·subst z;exact m
    ·cases z
  obtain⟨a,ha⟩:=I.ok.has x (.inl (hfr _ key rfl));exact zK5 (zK7 ha key)
 ·obtain⟨o,e⟩:=ho b hb;exact Ķ (ċ e)
 ·rcases (hf b hb).2.2.2.1 with z | z
  ·exact I.ok.noex b o e z
  ·exact absurd (Ă (ċ (I.ok.bs b o e).1) z) (ĸ _)
 ·rcases Ė.mp (I.stkSub b z) with q | q
  ·exact(hf b hb).2.1 q
  ·exact(hf b hb).2.2.1 q
 ·-- names
  have e1:(Tn++Fn)[i]?=some x:=e1;have e2:(ď Tn.length none++js.map fun j=>(σ[j]?).join)[i]?=some (some v):=e2
  by_cases hi:i<Tn.length
  ·rw[Ũ (by simpa using hi),List.getElem?_replicate]at e2
   split at e2<;>cases e2
  ·rw[ş (by simpa using hi)]at e2;rw[ş (by simpa using hi)]at e1;rw[List.length_replicate,č]at e2;cases ej:js[i - Tn.length]? with
   | none=>rw[ej]at e2;cases e2
   | some j =>
    rw[ej]at e2;have e2:(σ[j]?).join=some v:=by simpa using e2
    have e2':σ[j]?=some (some v):=by
     cases q:σ[j]? with
     | none=>rw[q]at e2;cases e2
     | some o=>rw[q]at e2;cases o with
      | none=>cases e2
      | some v'=>cases e2;rfl
    have ej':X.N[j]?=some x:=by
     have h0:(js.map fun j=>X.N[j]?)[i - Tn.length]?=(Fn.map some)[i - Tn.length]?:=by rw[cs.idx]
     rw[č,ej,č,e1]at h0;simpa using h0
    have hx:scope.names.lookup x=some .free:=cs.fn x (đ e1);have hox:X.env.kindOf x=some .cell:=hfr _ (zC6 hx) rfl;obtain⟨m,hm,hl⟩:=I.loc;obtain⟨u,r,l⟩:=hl j x v ej' e2' (.inr (.inl hox));refine⟨u,r,.inr ⟨.inl ?_,?_⟩⟩
    ·show (relabel scope X.env).names.lookup x=some .cell;have z:=zG8 (env:=X.env) cs.okind (names:=scope.names) hfr hx;rw[if_pos rfl]at z;exact z
    ·rcases l with⟨k,_⟩ | ⟨_,c,ec,z⟩
     ·rw[hox]at k;cases k
     ·obtain⟨c',e'⟩:=zK5 (zK7 (cs:=[]) ec (zC6 hx));have:c'=c:=Option.some.inj ((hcl x c' e').symm.trans ec);subst this;obtain⟨o,q1,q2⟩:=z;exact⟨c',e',o,k1 _ _ q1,q2⟩
 ·obtain⟨v,o,q1,q2⟩:=I.cell x c (hcl x c e);exact⟨v,o,k1 _ _ q1,q2⟩
 ·have hp:p∈([]:List (Addr×Obj))++(X.pn++pins):=hp;rw[List.nil_append]at hp;obtain⟨e,n,ne,nf,d⟩:=I.pin p hp;refine⟨k1 _ _ e,n,Ķ (ċ e),fun z=>?_,d⟩;rcases Ė.mp (I.stkSub p.1 z) with q | q
  ·exact ne q
  ·exact nf q
 ·show (ď Tn.length none++js.map fun j=>(σ[j]?).join).length=(Tn++Fn).length;rw[Ĕ,Ĕ,List.length_replicate,ą,hlen]
structure yV7 (X:Cx)(pins:List (Addr×Obj))(C:Addr):Prop where
 nl:C≠X.env.locals
 yg:X.s₀.heap.objs.size<=C
 nc:∀x c,X.env.cells.lookup x=some c->c≠C
 np:∀p∈X.pn++pins,p.1≠C
theorem Inv.letgo {C:Addr}{h2:Heap}(I:Inv X pins σ H s)(hn:H C=none)(c:yV7 X pins C)(sb:Heap.SameBut C s.heap h2):Inv X pins σ H { s with heap:=h2 } :=
 I.turned (t':=s.toks) (it:=C) (fun b o hb e=>(sb.2 b hb).trans e) hn c.nl (.inr c.yg) c.nc c.np
theorem Inv.cfree {C:Addr}(I:Inv X pins σ H s)(hC:C=s.heap.objs.size):yV7 X pins C:=by
 refine⟨by rw[hC];exact ŧ I.lt,by rw[hC];exact I.sz,fun x c e z=>?_,fun p hp z=>?_⟩
 ·obtain⟨v,q⟩:=I.cell x c e;have:=q.lt;rw[z,hC]at this;exact absurd this (ĸ _)
 ·have:=ċ (I.pin p hp).1;rw[z,hC]at this;exact absurd this (ĸ _)
theorem xD1 {C:Addr}{cl:List (Str×Addr)}{N:List Str}{σ':St}{H':Hp}{pins':List (Addr×Obj)}{s':Shared}(I:Inv X pins σ H s)(hf:∀b∈fp,FpOk X pins H b)(J:Inv (cxIn X N scope cl C s H fp) pins' σ' H' s'):Inv X pins σ H' s' :=
 I.call' (ch:=fp) J.os J.base J.hok J.bare fun b hb=>⟨(hf b hb).2.2.2.1,(hf b hb).2.1,(hf b hb).2.2.2.2.1,(hf b hb).2.2.2.2.2⟩
end
section
variable {prog:Program}{w:World}{A:Around}{s:Shared}
theorem yC3 {elt target iter:Expr}{ifs:List Expr}{scope:Scope}{pos:Pos}{it acc:Value}{env:Env}{R:Result->Shared->Prop}(I:Nat->Shared->Prop)
  (turn:∀n s,I n s->wpAny (model prog w) A (pyNext it) (fun r s₁=>match r with
   | none=>R (.ok .next) s₁
   | some v=>wpAny (model prog w) A (letOwnedTupleGo target it v) (fun _ s₀=>wpAny (model prog w) A (assign target env v) (fun _ s₂ =>
     wpAny (model prog w) A (forIn ifs true fun c r=>if r=true then do let ok <- isTrue c env (eval c env);pure (ForInStep.yield ok) else pure (ForInStep.yield r)) (fun ok s₃ =>
      if ok=true then wpAny (model prog w) A (eval elt env) (fun x s₄ =>
       wpAny (model prog w) A (call (.builtin "list.append") [acc,x]) (fun _ s₅=>∃m,m<n /\ I m s₅) (fun _ _=>False) s₄) (fun _ _=>False) s₃
      else ∃m,m<n /\ I m s₃) (fun _ _=>False) s₂) (fun _ _=>False) s₀) (fun _ _=>False) s₁) (fun _ _=>False) s)
  (n:Nat)(h:I n s):codeAny (model prog w) A (.compLoop (.ListComp elt [⟨target,iter,ifs,0⟩] scope pos) 0 it acc env) R s:=by
 refine codeAny_loop rfl I (fun n s hI=>?_) n h;show wpAny _ A ((compTurn (.ListComp elt [⟨target,iter,ifs,0⟩] scope pos) 0 it acc env).onRaise (fun x=>do noteFrame x env;theTreesLotGoes x)) _ _ s;refine wpAny_noted ?_;rw[compTurn_list];refine wpAny_bind (wpAny_standAt (wpAny_bind (wpAny_mono (turn n s hI) (fun r s₁ h₁=>?_) fun _ _ h'=>h'.elim)));cases r with
 | none=>exact wpAny_pure h₁
 | some v =>
  refine wpAny_bind (wpAny_mono h₁ (fun _ s₀ h₀'=>?_) fun _ _ h'=>h'.elim);refine wpAny_bind (wpAny_mono h₀' (fun _ s₂ h₂=>wpAny_bind (wpAny_mono h₂ (fun ok s₃ h₃=>?_) fun _ _ h'=>h'.elim)) fun _ _ h'=>h'.elim);cases ok with
  | false=>exact wpAny_pure ⟨rfl,h₃⟩
  | true =>
   exact wpAny_bind (wpAny_bind (wpAny_mono h₃ (fun x s₄ h₄=>wpAny_bind (wpAny_mono h₄ (fun _ s₅ h₅=>wpAny_pure (wpAny_pure ⟨rfl,h₅⟩)) fun _ _ h'=>h'.elim)) fun _ _ h'=>h'.elim))
end
noncomputable def PIfs (X:Cx)(ifs:List Expr)(t:TT):Prop :=
 ∀(pins:List (Addr×Obj)) (s:Shared) (σ:St) (H:Hp) (Q:Bool->Hp->Prop),Inv X pins σ H s->t σ H Q ->
  wpAny (model X.prog X.w) X.A (forIn ifs true fun c r=>if r=true then do let ok <- isTrue c X.env (eval c X.env);pure (ForInStep.yield ok) else pure (ForInStep.yield r)) (TP X pins σ Q) X.xe s
noncomputable abbrev xE6:TT:=fun _ H Q=>Q true H
theorem ã {X:Cx}:PIfs X [] xE6:=fun _ _ _ H _ I h=>wpAny_tests_nil ⟨H,I,h⟩
theorem xB4 {X:Cx}{c:Expr}{t:TT}(h:PT X c t):PIfs X [c] t:=fun pins s σ H Q I hq=>wpAny_tests_one (h pins s σ H Q I hq)
noncomputable def zM3 (J:It)(g:TG)(tc:TT)(te:TE)(D:Addr)(Z:Hp->Prop)(σ:St)(H:Hp):Prop :=
 ∃W:Nat->Nat->St->Hp->Prop,(∃m,W 0 m σ H) /\ ∀i m σ H,W i m σ H ->
  (J.stop i H /\ Z H) \/ (J.go i H /\ ∃N:St->Hp->Prop,(∀σ' H',N σ' H'->∃m',m'<m /\ W (i+1) m' σ' H') /\
   ∀x H',J.yld i H x H'->g x σ H' fun σ2 H2=>tc σ2 H2 fun b H3=>if b=true then te σ2 H3 fun y H4=>∃ys,H4 D=some (.lst ys) /\ ys.length<sizeLine /\ N σ2 (upd H4 D (.lst (ys++[y]))) else N σ2 H3)
section
variable {X:Cx}{scope:Scope}{Tn Fn:List Str}{js:List Nat}{tg iter elt:Expr}{ifs:List Expr}{wi:TI}{g:TG}{tc:TT}{te:TE}{pos:Pos}
theorem zY6 {pins:List (Addr×Obj)}{σ:St}{H2:Hp}{s2:Shared}{it:Addr}{fp:List Addr}{tn:Nat->Heap->Prop}{J:It}{Z:Addr->Hp->Prop}{RR:Value->Addr->Result->Shared->Prop}{E:Value->Shared->Prop}(hc:X.calm=true)
  (cs:CompScope X.env.scope scope X.N Tn Fn js)
  (hg:∀C s H fp,PG (cxIn X (Tn++Fn) scope (Ų X.env.cells scope.names []) C s H fp) tg g)(ht:∀C s H fp,PIfs (cxIn X (Tn++Fn) scope (Ų X.env.cells scope.names []) C s H fp) ifs tc)
  (he:∀C s H fp,PE (cxIn X (Tn++Fn) scope (Ų X.env.cells scope.names []) C s H fp) elt te)
  (I2:Inv X pins σ H2 s2)(T:Turn X.prog X.w X.K tg J fp it tn)(st2:tn 0 s2.heap)(f2:∀b∈fp,FpOk X pins H2 b)
  (hb:∀D,H2 D=none->zM3 J g tc te D (Z D) (innS Tn.length js σ) (upd H2 D (.lst [])))
  (fin:∀D C s' H' m,s'.heap.Ns C m->Inv X pins σ H' s'->H' C=none->yV7 X pins C->Z D H'->RR (.ref D) C (.ok .next) s') :
  wpAny (model X.prog X.w) X.A (newList []) (fun acc s₃=>wpAny (model X.prog X.w) X.A (newFunctionEnv scope X.env.globals (Ų X.env.cells scope.names []) [] X.env.qual none .none (some X.env)) (fun cenv s₄ =>
   codeAny (model X.prog X.w) X.A (.compStart (.ListComp elt [⟨tg,iter,ifs,0⟩] scope pos) 0 (.ref it) acc { cenv with scope:=relabel scope X.env }) (RR acc cenv.locals) s₄) E s₃) E s2:=by
 refine wpAny_newObj_type (wpAny_newFunctionEnv cs.nocell (by intro y hy;simp at hy) (fun h₁ hns₁ hsb₁=>?_) cs.kind);dsimp only at hns₁ hsb₁ ⊢;have I3:=I2.lnew (its:=[]) (ys:=[]) (t':=s2.toks) .nil (Ń _);have fD:H2 s2.heap.objs.size=none:=I2.fresh;obtain⟨W,⟨m0,w0⟩,turn⟩:=hb _ fD;generalize hH2:s2.heap.push { cls:=.type "list",dict:=none,data:=.seq ([]:List Value).toArray }=g2 at hns₁ hsb₁ I3 ⊢;have up2:∀b o,s2.heap.get? b=some o->g2.get? b=some o:=fun b o e=>hH2▸Č _ e;generalize hD:s2.heap.objs.size=D at *;have up3:∀b o,g2.get? b=some o->h₁.get? b=some o:=fun b o e=>hsb₁.extBut b o (Ķ (ċ e)) (Č _ e);have hob:∀b∈fp,∃o,s2.heap.get? b=some o:=fun b hb=>let ⟨o,e,_⟩:=T.obj 0 _ st2 b hb;⟨o,e⟩;have neD:∀b∈fp,b≠D:=fun b hb=>by
  obtain⟨o,e⟩:=hob b hb;rw[<- hD];exact Ķ (ċ e)
 have f3:∀b∈fp,FpOk X pins (upd H2 D (.lst [])) b:=fun b hb=>⟨by rw[upd_ne (neD b hb)];exact(f2 b hb).1,(f2 b hb).2⟩;have J0:=xJ8 (fp:=fp) (tk:=s2.toks+([]:List (Str×Value)).length) cs I3 rfl hns₁ up3 f3 fun b hb=>let ⟨o,e⟩:=hob b hb;⟨o,up2 b o e⟩;have tn0:tn 0 h₁:=T.keep _ _ _ st2 fun b hb o e=>up3 b o (up2 b o e);have cf:yV7 X pins g2.objs.size:=I3.cfree rfl;generalize hX':cxIn X (Tn++Fn) scope (Ų X.env.cells scope.names []) g2.objs.size { s2 with heap:=g2,toks:=s2.toks } (upd H2 D (.lst [])) fp=X' at J0;have eP:X'.prog=X.prog:=by rw[<- hX'];rfl
 have ew:X'.w=X.w:=by rw[<- hX'];rfl
 have eK:X'.K=X.K:=by rw[<- hX'];rfl
 have eA:X'.A=X.A:=by rw[<- hX'];rfl
 have ec:X'.calm=true:=by rw[<- hX'];exact hc
 have ee:X'.env=compEnvC scope (Ų X.env.cells scope.names []) g2.objs.size X.env:=by rw[<- hX'];rfl
 have ex:X'.xe=fun _ _=>False:=by rw[<- hX'];rfl
 have Hg:PG X' tg g:=by rw[<- hX'];exact hg _ _ _ _
 have Ht:PIfs X' ifs tc:=by rw[<- hX'];exact ht _ _ _ _
 have He:PE X' elt te:=by rw[<- hX'];exact he _ _ _ _
 have out:∀{pins' σ' H' s'},Inv X' pins' σ' H' s'->Inv X pins σ H' s':=by
  intro pins' σ' H' s' J;rw[<- hX']at J;exact xD1 I3 f3 J
 have fsX:∀b∈fp,b∉X'.fs:=by
  intro b hb z;rw[<- hX']at z;rcases Ė.mp (I3.stkSub b z) with q | q
  ·exact(f3 b hb).2.1 q
  ·exact(f3 b hb).2.2.1 q
 have stat:∀{H':Hp},(∀b∈fp,H' b=none)->∀b∈fp,FpOk X' (X.pn++pins) H' b:=fun {H'} hn b hb=>by
  refine⟨hn b hb,?_,fsX b hb,.inl (by rw[<- hX'];exact hb),?_,?_⟩
  ·rw[ee];obtain⟨o,e⟩:=hob b hb;exact Ķ (ċ (up2 b o e))
  ·intro x c e;rw[ee]at e;exact(f3 b hb).2.2.2.2.1 x c (zK6 (names:=scope.names) (cs:=[]) (fun _ z=>nomatch z) _ (zC6 e))
  ·intro p hp;have hp:p∈X.pn++pins:=by rw[<- hX']at hp;simpa[cxIn] using hp
   exact(f3 b hb).2.2.2.2.2 p hp
 have loop:∀s4:Shared,s4={ s2 with heap:=h₁,toks:=s2.toks+([]:List (Str×Value)).length } ->
   codeAny (model X.prog X.w) X.A (.compLoop (.ListComp elt [⟨tg,iter,ifs,0⟩] scope pos) 0 (.ref it) (.ref D) (compEnvC scope (Ų X.env.cells scope.names []) g2.objs.size X.env)) (RR (.ref D) g2.objs.size) s4:=by
  rintro s4 rfl;refine yC3 (fun n s'=>∃i σ' H',Inv X' (X.pn++pins) σ' H' s' /\ tn i s'.heap /\ (∀b∈fp,H' b=none) /\ W i n σ' H') ?_ m0 ⟨0,_,_,J0,tn0,fun b hb=>(f3 b hb).1,w0⟩;rintro n s5 ⟨i,σ5,H5,I5,st5,fr5,w5⟩;rw[<- ee,<- eA,<- eP,<- ew,<- ex];rcases turn i n σ5 H5 w5 with⟨stop,qz⟩ | ⟨go,N,hN,step⟩
  ·have td:=T.done X' eP ew eK ec i (X.pn++pins) s5 σ5 H5 X'.xe I5 (stat fr5) st5 stop;rw[<- eP,<- ew]at td;refine thn td fun r s6 ⟨hr,I6⟩=>?_;subst hr;obtain⟨m,hm,_⟩:=id I6.loc;rw[ee]at hm;have hfr:=I6.free;rw[ee]at hfr;exact fin D _ s6 H5 m hm (out I6) hfr cf qz
  ·have ti:=T.item X' eP ew eK ec i (X.pn++pins) s5 σ5 H5 X'.xe I5 (stat fr5) st5 go;rw[<- eP,<- ew]at ti;refine thn ti fun r s6 ⟨u,hr,h6⟩=>?_;subst hr;refine thn h6 fun _ s7 ⟨x,H7,I7,r7,y7,st7,fr7⟩=>?_;have I7':=I7.pinned (stat fr7) (T.obj _ _ st7);refine thn (Hg _ s7 σ5 H7 x u _ I7' r7 (step x H7 y7)) fun _ s8 ⟨σ8,H8,I8,q8⟩=>?_;refine thn (Ht _ s8 σ8 H8 _ I8 q8) fun ok s9 ⟨H9,I9,q9⟩=>?_;have again:∀{σa:St} {Ha:Hp} {sa:Shared},Inv X' ((X.pn++pins)++zW6 fp s7.heap) σa Ha sa->N σa Ha->∃m,m<n /\ ∃i σ' H',Inv X' (X.pn++pins) σ' H' sa /\ tn i sa.heap /\ (∀b∈fp,H' b=none) /\ W i m σ' H':=fun {σa Ha sa} Ia na=>by
    obtain⟨m',hm,wa⟩:=hN σa Ha na;refine⟨m',hm,i+1,σa,Ha,Ia.unpinned,T.keep _ _ _ st7 fun b hb o e=>(Ia.pin (b,o) (Į _ (Į _ (zG5 hb e)))).1,fun b hb=>?_,wa⟩;obtain⟨o,e,d⟩:=T.obj _ _ st7 b hb;exact(Ia.pin (b,o) (Į _ (Į _ (zG5 hb e)))).2.1
   cases ok with
   | false=>exact again I9 q9
   | true =>
    refine thn (He _ s9 σ8 H9 _ I9 q9) fun y s10 ⟨yv,H10,I10,r10,ys,e10,l10,n10⟩=>?_;exact thn (í (X:=X') _ s10 σ8 H10 (.ref D) [yv] (.ref D) [y] (fun _ H'=>N σ8 H') I10 rfl (.cons r10 .nil) ⟨D,ys,yv,rfl,rfl,e10,l10,n10⟩) fun _ s11 ⟨_,H11,I11,_,n11⟩=>again I11 n11
 exact codeAny_compStart_list (loop _ rfl) (T.self _ 0 _ _ _ tn0 (loop _ rfl))
noncomputable def xF0 (wi:TI)(g:TG)(tc:TT)(te:TE)(k:Nat)(js:List Nat):TE:=fun σ H Q=>wi σ H fun J H1=>∀D,H1 D=none->zM3 J g tc te D (Q (.ref D)) (innS k js σ) (upd H1 D (.lst []))
theorem ò (Tn Fn:List Str)(js:List Nat)(hc:X.calm=true)(h:yF9 X.env.scope scope X.N Tn Fn js=true)(hi:PI X tg iter wi)
  (hg:∀C s H fp,PG (cxIn X (Tn++Fn) scope (Ų X.env.cells scope.names []) C s H fp) tg g)(ht:∀C s H fp,PIfs (cxIn X (Tn++Fn) scope (Ų X.env.cells scope.names []) C s H fp) ifs tc)
  (he:∀C s H fp,PE (cxIn X (Tn++Fn) scope (Ų X.env.cells scope.names []) C s H fp) elt te)(hs:∀x,foldedSetIterable iter X.env x=pure x:=by intro _;rfl) :
  PE X (.ListComp elt [⟨tg,iter,ifs,0⟩] scope pos) (xF0 wi g tc te Tn.length js):=by
 intro pins s σ H Q I hq;have cs:=CompScope.of h;rw[eval_ListComp];refine wpAny_comprehension_free (use:=none) rfl hs (zI7 ?_) cs.kind cs.loc (thn (hi pins s σ H _ I hq) fun xv s1 h1=>thn h1 fun itv s2 h2=>?_)
 ·intro x hx e;exact I.ok.has x.1 (.inl (cs.fre x hx e))
 obtain⟨it,fp,tn,J,H2,rfl,I2,T,st2,f2,hb⟩:=h2;refine zY6 (Z:=fun D H'=>Q (.ref D) H') (RR:=fun acc C=>compPost (model X.prog X.w) X.A X.xe none (EP X pins σ Q) acc C) hc cs hg ht he I2 T st2 f2 hb ?_;intro D C s' H' m hm I' hn cf z;exact⟨m,hm,fun h' sb=>⟨.ref D,H',I'.letgo hn cf sb,rfl,z⟩⟩
theorem zC3 (Tn Fn:List Str)(js:List Nat){i:Nat}{y:Str}{py spos:Pos}(hN:X.N.Nodup)(hiN:X.N[i]?=some y)(hy:X.env.scope.names.lookup y=some .local)(hc:X.calm=true)(h:yF9 X.env.scope scope X.N Tn Fn js=true)(hi:PI X tg iter wi)
  (hg:∀C s H fp,PG (cxIn X (Tn++Fn) scope (Ų X.env.cells scope.names []) C s H fp) tg g)(ht:∀C s H fp,PIfs (cxIn X (Tn++Fn) scope (Ų X.env.cells scope.names []) C s H fp) ifs tc)
  (he:∀C s H fp,PE (cxIn X (Tn++Fn) scope (Ų X.env.cells scope.names []) C s H fp) elt te)(hsw:swapsWith (.ListComp elt [⟨tg,iter,ifs,0⟩] scope pos) (some (.Name y py)) spos.line X.env=pure true:=by rfl)
  (hs:∀x,foldedSetIterable iter X.env x=pure x:=by intro _;rfl) :
  PS X (.Assign [.Name y py] (.ListComp elt [⟨tg,iter,ifs,0⟩] scope pos) spos) (tAsg (xF0 wi g tc te Tn.length js) (yN9 i)):=by
 intro pins s σ H D0 I hq;have cs:=CompScope.of h;rw[exec_Assign_Name_used _ _ _ _ hsw];refine wpAny_bind (wpAny_standAt (wpAny_bind ?_));show wpAny _ X.A (do let _ <- comprehension (.ListComp elt [⟨tg,iter,ifs,0⟩] scope pos) scope X.env _ (newList []) false (eval iter X.env) (some (assign (.Name y py) X.env))) _ _ s;refine wpAny_bind (wpAny_mono (wpAny_comprehension_free (use:=some (assign (.Name y py) X.env)) (Q:=fun _ s'=>SP X pins D0 .next s') rfl hs (zI7 ?_) cs.kind cs.loc
  (thn (hi pins s σ H _ I hq) fun xv s1 h1=>thn h1 fun itv s2 h2=>?_)) (fun _ s' hq=>wpAny_pure (wpAny_pure hq)) fun _ _ e=>e)
 ·intro x hx e;exact I.ok.has x.1 (.inl (cs.fre x hx e))
 obtain⟨it,fp,tn,J,H2,rfl,I2,T,st2,f2,hb⟩:=h2;refine zY6 (Z:=fun D H'=>D0.nx (σ.set i (some (.ref D))) H') (RR:=fun acc C=>compPost (model X.prog X.w) X.A X.xe (some (assign (.Name y py) X.env)) (fun _ s'=>SP X pins D0 .next s') acc C) hc cs hg ht he I2 T st2 f2 hb ?_;intro D C s' H' m hm I' hn cf z;show wpAny _ X.A (assign (.Name y py) X.env (.ref D)) _ _ s';refine wpAny_assign_Name (zW2 (v:=.ref D) I' hN hiN (.inl hy) rfl (fun s'' I'' sb=>?_) (.inr hy));obtain⟨a,sb,ha⟩:=sb;have hCa:C≠a:=by
  rcases ha with e | e
  ·rw[e];exact cf.nl
  ·exact fun z=>cf.nc _ _ e z.symm
 exact⟨m,hm.sameBut sb hCa,fun h' sb'=>⟨_,H',I''.letgo hn cf sb',z⟩⟩
end
theorem æ {K:Ā}{a:Addr}{xs:List V}{g:TG}{tc:TT}{te:TE}{D:Addr}{Z:Hp->Prop}{σ:St}{H:Hp}(Pv:Nat->St->Hp->Prop)(h0:Pv 0 σ H)(hl:∀i σ H,i<=xs.length->Pv i σ H->SqL K H a xs)
  (hs:∀i x σ H,xs[i]?=some x->Pv i σ H->g x σ H fun σ2 H2=>tc σ2 H2 fun b H3=>if b=true then te σ2 H3 fun y H4=>∃ys,H4 D=some (.lst ys) /\ ys.length<sizeLine /\ Pv (i+1) σ2 (upd H4 D (.lst (ys++[y]))) else Pv (i+1) σ2 H3)
  (hd:∀σ H,Pv xs.length σ H->Z H):zM3 (Itl K a) g tc te D Z σ H:=by
 refine⟨fun i m σ H=>m=xs.length - i /\ i<=xs.length /\ Pv i σ H,⟨xs.length,by simp,Ń _,h0⟩,?_⟩;rintro i m σ H ⟨rfl,hi,p⟩;have q:=hl i σ H hi p
 by_cases hlt:i<xs.length
 ·refine .inr ⟨⟨xs,xs[i],q,by simp[hlt]⟩,Pv (i+1),fun σ' H' p'=>⟨xs.length - (i+1),by lia,rfl,hlt,p'⟩,fun x H' y=>?_⟩;obtain⟨e,y⟩:=y;subst e;exact hs i x σ _ (y xs q) p
 ·have e:i=xs.length:=by lia
  subst e;exact .inl ⟨⟨xs,q,Ć _⟩,hd σ H p⟩
theorem zD9 {lo:Int}{n:Nat}{g:TG}{tc:TT}{te:TE}{D:Addr}{Z:Hp->Prop}{σ:St}{H:Hp}(Pv:Nat->St->Hp->Prop)(h0:Pv 0 σ H)
  (hs:∀i σ H,i<n->Pv i σ H->g (.int (lo+i)) σ H fun σ2 H2=>tc σ2 H2 fun b H3=>if b=true then te σ2 H3 fun y H4=>∃ys,H4 D=some (.lst ys) /\ ys.length<sizeLine /\ Pv (i+1) σ2 (upd H4 D (.lst (ys++[y]))) else Pv (i+1) σ2 H3)
  (hd:∀σ H,Pv n σ H->Z H):zM3 (Itr lo n) g tc te D Z σ H:=by
 refine⟨fun i m σ H=>m=n - i /\ i<=n /\ Pv i σ H,⟨n,by simp,Ń _,h0⟩,?_⟩;rintro i m σ H ⟨rfl,hi,p⟩
 by_cases hlt:i<n
 ·refine .inr ⟨hlt,Pv (i+1),fun σ' H' p'=>⟨n - (i+1),by lia,rfl,hlt,p'⟩,fun x H' y=>?_⟩;obtain⟨e,y⟩:=y;subst e y;exact hs i σ _ hlt p
 ·have e:i=n:=by lia
  subst e;exact .inl ⟨Ć _,hd σ H p⟩
mutual
noncomputable def RepD (K:Ā)(H:Hp):PyData->V->Prop
 | .none,v=>v = .non
 | .bool b,v=>v = .bl b
 | .int i,v=>v = .int i
 | .str x,v=>v = .str x /\ (PyData.str x).canLay0=true
 | .tuple xs,v=>∃a vs,v = .ref a /\ SqT K H a vs /\ RepDs K H xs vs
 | .list xs,v=>∃a vs,v = .ref a /\ SqL K H a vs /\ RepDs K H xs vs
 | .dict _,_=>False
noncomputable def RepDs (K:Ā)(H:Hp):List PyData->List V->Prop
 | [],vs=>vs=[]
 | d::ds,vs=>∃v r,vs=v::r /\ RepD K H d v /\ RepDs K H ds r
end
section
variable {X:Cx}{pins:List (Addr×Obj)}{σ:St}{H:Hp}{s:Shared}
mutual
theorem RepD.reads (I:Inv X pins σ H s):∀{d:PyData} {v:V} {u:Value},RepD X.K H d v->RelV v u->∃as,Reads s.heap u d as
 | .none,v,u,h,r=>by
  have h:v = .non:=by simpa[RepD] using h
  subst h;cases r;exact⟨_,.none⟩
 | .bool b,v,u,h,r=>by
  have h:v = .bl b:=by simpa[RepD] using h
  subst h;cases r;exact⟨_,.bool b⟩
 | .int i,v,u,h,r=>by
  have h:v = .int i:=by simpa[RepD] using h
  subst h;obtain⟨t,rfl⟩:=r;exact⟨_,.int i t⟩
 | .str x,v,u,h,r=>by
  simp only[RepD]at h;obtain⟨rfl,_⟩:=h;obtain⟨t,rfl⟩:=r;exact⟨_,.str x t⟩
 | .tuple xs,v,u,h,r=>by
  have h:∃a vs,v = .ref a /\ SqT X.K H a vs /\ RepDs X.K H xs vs:=by simpa[RepD] using h
  obtain⟨a,vs,rfl,q,rs⟩:=h;cases r;obtain⟨its,rv,p,_⟩:=I.tuple q;obtain⟨o,e,c,n,d⟩:=(show s.heap.IsTuple a its.toArray from p);obtain⟨as,ra⟩:=RepDs.reads I rs rv;exact⟨_,.tuple e c d (by simpa using ra)⟩
 | .list xs,v,u,h,r=>by
  have h:∃a vs,v = .ref a /\ SqL X.K H a vs /\ RepDs X.K H xs vs:=by simpa[RepD] using h
  obtain⟨a,vs,rfl,q,rs⟩:=h;cases r;obtain⟨its,rv,p,_⟩:=I.list q;obtain⟨o,e,c,n,d⟩:=p.isList;obtain⟨as,ra⟩:=RepDs.reads I rs rv;exact⟨_,.list e c d (by simpa using ra)⟩
 | .dict _,v,u,h,r=>by
  have h:False:=by simpa[RepD] using h
  exact h.elim
theorem RepDs.reads (I:Inv X pins σ H s):∀{ds:List PyData} {vs:List V} {us:List Value},RepDs X.K H ds vs->Vals vs us->∃as,ReadsAll s.heap us ds as
 | [],vs,us,h,r=>by
  have h:vs=[]:=by simpa[RepDs] using h
  subst h;cases r;exact⟨_,.nil⟩
 | d::ds,vs,us,h,r=>by
  have h:∃v r,vs=v::r /\ RepD X.K H d v /\ RepDs X.K H ds r:=by simpa[RepDs] using h
  obtain⟨v,rs,rfl,h1,h2⟩:=h;cases r with
  | cons a b =>
   obtain⟨as,r1⟩:=RepD.reads I h1 a;obtain⟨bs,r2⟩:=RepDs.reads I h2 b;exact⟨_,.cons r1 r2⟩
end
mutual
theorem RepD.lay {K:Ā}:∀{d:PyData} {v:V},RepD K H d v->d.canLay0=true
 | .none,_,_=>rfl
 | .bool _,_,_=>rfl
 | .int _,_,_=>rfl
 | .str x,v,h=>by
  simp only[RepD]at h;exact h.2
 | .tuple xs,v,h=>by
  have h:∃a vs,v = .ref a /\ SqT K H a vs /\ RepDs K H xs vs:=by simpa[RepD] using h
  obtain⟨a,vs,rfl,q,rs⟩:=h;have:=RepDs.lay rs;simpa[PyData.canLay0] using this
 | .list xs,v,h=>by
  have h:∃a vs,v = .ref a /\ SqL K H a vs /\ RepDs K H xs vs:=by simpa[RepD] using h
  obtain⟨a,vs,rfl,q,rs⟩:=h;have:=RepDs.lay rs;simpa[PyData.canLay0] using this
 | .dict _,v,h=>by
  have h:False:=by simpa[RepD] using h
  exact h.elim
theorem RepDs.lay {K:Ā}:∀{ds:List PyData} {vs:List V},RepDs K H ds vs->PyData.canLayAll0 ds=true
 | [],_,_=>rfl
 | d::ds,vs,h=>by
  have h:∃v r,vs=v::r /\ RepD K H d v /\ RepDs K H ds r:=by simpa[RepDs] using h
  obtain⟨v,rs,rfl,h1,h2⟩:=h;have a:=RepD.lay h1;have b:=RepDs.lay h2;simp[PyData.canLayAll0,a,b]
end
end
section
variable {X:Cx}{k:Nat}
noncomputable def rEqD (K:Ā):R2:=fun x y H Q=>∃d d',RepD K H d x /\ RepD K H d' y /\ d.depth<=64 /\ Q (.bl (PyData.eqv d d')) H
noncomputable def rNeD (K:Ā):R2:=fun x y H Q=>∃d d',RepD K H d x /\ RepD K H d' y /\ d.depth<=64 /\ Q (.bl (!PyData.eqv d d')) H
theorem xI0 (hr:Room k X.A):OpR X (compareOp .Eq) (rEqD X.K):=by
 intro pins s σ H x y v u Q I rx ry h;obtain⟨d,d',h1,h2,hd,q⟩:=h;obtain⟨as,r1⟩:=h1.reads I rx;obtain⟨bs,r2⟩:=h2.reads I ry;exact SeqAt.compareEq_reads r1 r2 h1.lay h2.lay (by have:=hr.units;have:min d.depth d'.depth<=d.depth:=Nat.min_le_left _ _;lia) ⟨.bl _,H,I,rfl,q⟩
theorem xH9 (hr:Room k X.A):OpR X (compareOp .NotEq) (rNeD X.K):=by
 intro pins s σ H x y v u Q I rx ry h;obtain⟨d,d',h1,h2,hd,q⟩:=h;obtain⟨as,r1⟩:=h1.reads I rx;obtain⟨bs,r2⟩:=h2.reads I ry;exact SeqAt.compareNe_reads r1 r2 h1.lay h2.lay (by have:=hr.units;have:min d.depth d'.depth<=d.depth:=Nat.min_le_left _ _;lia) ⟨.bl _,H,I,rfl,q⟩
end
noncomputable def pq (t b:Int):PyData:=.tuple [.int t,.int b]
theorem yE4 {K:Ā}{H:Hp}{a:Addr}{t b:Int}(h:SqT K H a [.int t,.int b]):RepD K H (pq t b) (.ref a):=by
 simp only[pq,RepD,RepDs];exact⟨a,_,rfl,h,_,_,rfl,rfl,_,_,rfl,rfl,rfl⟩
theorem zQ6 (t b t' b':Int):PyData.eqv (pq t b) (pq t' b')=decide (t=t' /\ b=b'):=by
 simp[pq,PyData.eqv,PyData.eqvAll,Bool.beq_eq_decide_eq]
theorem zB4 (t b:Int):(pq t b).depth<=64:=by
 simp[pq,PyData.depth,PyData.depthAll]
section
variable {P:Program}{w:World}{K:Ā}{mg:Str->Option Value}{base:Heap}
theorem DefAt.okE {x:Str}{st:Stmt}{N ps:List Str}{k:Nat}{sp:Sp}(D:DefAt K mg x st)(S:Ï N ps (Ç st))(len:∀vs H Q E,sp vs H Q E->vs.length=ps.length)
  (hb:∀(kV doc pm:Value) (an:Option Addr) (cdv ct:Value) (us:List Value),us.length=ps.length->bindArgs (Ś x x (Ω st) (Η st) (Ç st) .none kV doc pm an cdv ct) ⟨us,[]⟩=pure (ps.zip us))
  (hbody:∀(f:Addr) (cdv:Value) (A:Around) (outer:List Env) (s:Shared) (H:Hp) (vs:List V) (Q:VK) (E:XK),Room k (A.deeper (envOfC x (Ç st) s.heap.objs.size f cdv))->sp vs H Q E ->
   ∃t,PSs (cxOf (CXE P w) P w K mg base N x (Ç st) f cdv A outer s H E) (Η st) t /\ t { nx:=fun _ H'=>Q .non H',rt:=Q } (start N vs) H):FnAt P w K mg base (CXE P w) (k+1) x ps sp:=by
 obtain⟨f,fd,F,m⟩:=D.ex;have hF:=F;obtain⟨oc,od,kV,doc,pm,an,cdv,ct,osl,rfl,lk,hcd⟩:=F.ex;exact⟨f,_,xK2 lk hcd S len fun A outer s H vs Q E hr hsp=>hbody f cdv A outer s H vs Q E hr hsp,m,hF.kp,hF.binds hb⟩
end
theorem yL4 {X:Cx}:zZ2 (CXE X.prog X.w) X E0:=fun _ _ _ _ _ _ _ ⟨_,_,_,_,_,_,_,_,_,_,q⟩=>q.elim
end L2
namespace Tc
open PySem L2
noncomputable abbrev fq (r:Rat):List V:=[.int r.num,.int (r.den:Nat)]
noncomputable def FrV (H:Hp)(v:V)(r:Rat):Prop:=∃a,v = .ref a /\ H a=some (.tup (fq r))
theorem FrV.same {H H':Hp}{v:V}{r:Rat}(h:FrV H v r)(s:Same H H'):FrV H' v r:=let ⟨a,e,h⟩:=h;⟨a,e,s _ _ h⟩
theorem FrV.upd {H:Hp}{v:V}{r:Rat}{p:Addr}{o:HO}(h:FrV H v r)(n:H p=none):FrV (upd H p o) v r:=h.same (Same.upd n)
theorem FrV.new {H:Hp}{r:Rat}{p:Addr}:FrV (L2.upd H p (.tup (fq r))) (.ref p) r:=⟨p,rfl,Ã⟩
theorem FrV.newOf {H:Hp}{r:Rat}{p:Addr}{t b:Int}(h1:t=r.num)(h2:b=(r.den:Int)):FrV (L2.upd H p (.tup [.int t,.int b])) (.ref p) r:=by
 subst h1 h2;exact FrV.new
theorem FrV.ty {H:Hp}{v:V}{r:Rat}(h:FrV H v r):tyS H v=some "tuple":=by
 obtain⟨a,rfl,h⟩:=h;show tyH (H a)=_;rw[h];rfl
theorem FrV.rep {K:Ā}{H:Hp}{v:V}{r:Rat}(h:FrV H v r):RepD K H (pq r.num r.den) v:=by
 obtain⟨a,rfl,h⟩:=h;exact yE4 (SqT.of h)
theorem zQ4 (r q:Rat):decide (r.num=q.num /\ (r.den:Int)=q.den)=decide (r=q):=by
 rw[decide_eq_decide]
 constructor
 ·rintro⟨h1,h2⟩;exact xK1 h1 h2
 ·rintro rfl;exact⟨rfl,rfl⟩
structure Bd (n:Nat)(r:Rat):Prop where
 num:r.num.natAbs<2^n
 den:r.den<2^n
theorem Þ {m n:Nat}(h:m<=n):(2:Nat)^m<=2^n:=Nat.pow_le_pow_right (by decide) h
theorem Bd.mono {m n:Nat}{r:Rat}(b:Bd m r)(h:m<=n):Bd n r:=⟨Ă b.num (Þ h),Ă b.den (Þ h)⟩
theorem Bd.neg {n:Nat}{r:Rat}(b:Bd n r):Bd n (-r):=⟨by rw[Rat.neg_num,Int.natAbs_neg];exact b.num,by rw[Rat.neg_den];exact b.den⟩
theorem Bd.inv {n:Nat}{r:Rat}(b:Bd n r)(h:r≠0):Bd n r⁻¹:=by
 have hn:r.num≠0:=fun z=>h (Rat.num_eq_zero.mp z);have e:r⁻¹=Ċ r.den r.num:=Rat.inv_def r;have e1:=zX7 (t:=(r.den:Int)) (b:=r.num) hn;have e2:=zX9 (t:=(r.den:Int)) (b:=r.num) hn;have g:ħ (r.den:Int) r.num=1:=yF4 r;refine⟨?_,?_⟩
 ·rw[e,<- e1];have:((r.den:Int).fdiv (dv r.den r.num)).natAbs<=r.den:=by
   unfold dv;rw[g]
   split
   ·have e:((r.den:Int)).fdiv (-((1:Nat):Int)) = -(r.den:Int):=by
     show ((r.den:Int)).fdiv (-1)=_;rw[Int.fdiv_neg (by simp)];simp
    rw[e];lia
   ·have e:((r.den:Int)).fdiv (((1:Nat):Int))=(r.den:Int):=by
     show ((r.den:Int)).fdiv 1=_;simp
    rw[e];lia
  exact ă this b.den
 ·rw[e];have:((r.num).fdiv (dv r.den r.num)).natAbs<=r.num.natAbs:=by
   unfold dv;rw[g]
   split
   ·have e:(r.num).fdiv (-((1:Nat):Int)) = -r.num:=by
     show (r.num).fdiv (-1)=_;rw[Int.fdiv_neg (by simp)];simp
    rw[e];lia
   ·have e:(r.num).fdiv (((1:Nat):Int))=r.num:=by
     show (r.num).fdiv 1=_;simp
    rw[e];lia
  rw[e2]at this;have q:=b.num;lia
theorem Û {a b:Int}{m n:Nat}(ha:a.natAbs<2^m)(hb:b.natAbs<2^n):(a*b).natAbs<2^(m+n):=by
 rw[Ĵ,Ľ];exact Nat.mul_lt_mul'' ha hb
theorem zU3 {a b:Int}{n:Nat}(ha:a.natAbs<2^n)(hb:b.natAbs<2^n):(a+b).natAbs<2^(n+1):=by
 rw[ł];lia
theorem zX5 (t b:Int)(hb:b≠0):(Ċ t b).num.natAbs<=t.natAbs:=by
 rw[<- zX7 hb];have h:=Int.fdiv_mul_cancel (zD7 t b);have h2:((t.fdiv (dv t b))*dv t b).natAbs=t.natAbs:=by rw[h]
 rw[Ĵ]at h2;have h3:0<(dv t b).natAbs:=by have:=zX8 (t:=t) hb;lia
 rw[<- h2];exact Nat.le_mul_of_pos_right _ h3
theorem yO3 (t b:Int)(hb:b≠0):(Ċ t b).den<=b.natAbs:=by
 have e:=zX9 (t:=t) hb;have h:=Int.fdiv_mul_cancel (zB5 t b);have h2:((b.fdiv (dv t b))*dv t b).natAbs=b.natAbs:=by rw[h]
 rw[Ĵ,e]at h2;have h3:0<(dv t b).natAbs:=by have:=zX8 (t:=t) hb;lia
 have:(((Ċ t b).den:Int)).natAbs<=b.natAbs:=by rw[<- h2];exact Nat.le_mul_of_pos_right _ h3
 lia
theorem Bd.divInt {n:Nat}{t b:Int}(hb:b≠0)(h1:t.natAbs<2^n)(h2:b.natAbs<2^n):Bd n (Ċ t b):=⟨ă (zX5 t b hb) h1,ă (yO3 t b hb) h2⟩
theorem xL9 (r q:Rat):r+q=Ċ (r.num*q.den+q.num*r.den) (r.den*q.den):=by
 have h:=Rat.divInt_add_divInt r.num q.num (d₁:=r.den) (d₂:=q.den) (by have:=Î r;lia) (by have:=Î q;lia);rw[ġ,ġ]at h;exact h
theorem Bd.add {m n:Nat}{r q:Rat}(b1:Bd m r)(b2:Bd n q):Bd (m+n+1) (r+q):=by
 rw[xL9];have d1:=Î r;have d2:=Î q;have n1:((r.den:Int)).natAbs<2^m:=b1.den;have n2:((q.den:Int)).natAbs<2^n:=b2.den;refine Bd.divInt (Int.mul_ne_zero (by lia) (by lia)) ?_ ?_
 ·refine zU3 (Û b1.num n2) ?_;have:=Û b2.num n1;rw[Nat.add_comm];exact this
 ·exact Ă (Û n1 n2) (Þ (by lia))
theorem Bd.mul {m n:Nat}{r q:Rat}(b1:Bd m r)(b2:Bd n q):Bd (m+n) (r*q):=by
 rw[<- yX3];have d1:=Î r;have d2:=Î q;have n1:((r.den:Int)).natAbs<2^m:=b1.den;have n2:((q.den:Int)).natAbs<2^n:=b2.den;exact Bd.divInt (Int.mul_ne_zero (by lia) (by lia)) (Û b1.num b2.num) (Û n1 n2)
theorem Bd.divR {n:Nat}{r:Rat}(b:Bd n r)(h:n<=8999){i d:Int}(hd:d≠0)(hl:d.natAbs<=r.den):ε i d :=
 ű hd (ă hl (Ă b.den (Þ (by lia))))
theorem Ê {α β:Type}{F:α->β->Prop}:∀{xs:List α} {ys:List β} {i:Nat} {x:α},Paired F xs ys->xs[i]?=some x->∃y,ys[i]?=some y /\ F x y
 | _,_,_,_,.nil,e=>by simp at e
 | _,_,0,_,.cons r _,e=>by simp at e;subst e;exact⟨_,rfl,r⟩
 | _,_,i+1,x,.cons _ t,e=>by
  obtain⟨u,h1,h2⟩:=Ê (i:=i) (x:=x) t (by simpa using e);exact⟨u,by simpa using h1,h2⟩
noncomputable def zQ9:Sp:=fun vs H Q _=>∃v n,vs=[v] /\ tyS H v=some n /\ Q (.bl (n == "int")) H
noncomputable def spCd:Sp:=fun vs H Q _=>∃t b:Int,vs=[.int t,.int b] /\ b≠0 /\ Q (.int (dv t b)) H
noncomputable def sp2 (n:Nat)(f:Rat->Rat->Rat):Sp:=fun vs H Q _=>∃x y r q,vs=[x,y] /\ FrV H x r /\ FrV H y q /\ Bd n r /\ Bd n q /\ ∀v H',Same H H'->FrV H' v (f r q)->Q v H'
noncomputable abbrev zW3:Sp:=sp2 8000 (·+·)
noncomputable abbrev Δ:Sp:=sp2 8000 (· - ·)
noncomputable abbrev spTimes:Sp:=fun vs H Q _=>∃x y a b t1 b1 t2 b2,vs=[x,y] /\ x = .ref a /\ H a=some (.tup [.int t1,.int b1]) /\ y = .ref b /\ H b=some (.tup [.int t2,.int b2]) /\ 0<b1 /\ b2≠0 /\ ħ t1 b1=1 /\ ħ t2 b2=1 /\
 (t1.natAbs<2^8000 /\ b1.natAbs<2^8000 /\ t2.natAbs<2^8000 /\ b2.natAbs<2^8000) /\ ∀v H',Same H H'->FrV H' v (Ċ (t1*t2) (b1*b2))->Q v H'
theorem spTimes.of {vs:List V}{H:Hp}{Q:VK}{E:XK}{x y:V}{r q:Rat}(e:vs=[x,y])(h1:FrV H x r)(h2:FrV H y q)(b1:Bd 8000 r)(b2:Bd 8000 q)(k:∀v H',Same H H'->FrV H' v (r*q)->Q v H'):spTimes vs H Q E:=by
 obtain⟨a,rfl,ha⟩:=h1;obtain⟨b,rfl,hb⟩:=h2;have d1:=Î r;have d2:=Î q;exact⟨_,_,a,b,r.num,r.den,q.num,q.den,e,rfl,ha,rfl,hb,d1,by lia,zG0 r,zG0 q,⟨b1.num,b1.den,b2.num,b2.den⟩,fun v H' s h=>k v H' s (by rw[<- yX3];exact h)⟩
noncomputable def yE0 (C:Addr):Sp:=fun vs H Q E=>∃x y r q,vs=[x,y] /\ FrV H x r /\ FrV H y q /\ Bd 8000 r /\ Bd 8000 q /\ (q≠0->∀v H',Same H H'->FrV H' v (r / q)->Q v H') /\ (q=0->E (.ref C) none H)
noncomputable def zR0:Sp:=fun vs H Q _=>∃x y r q,vs=[x,y] /\ FrV H x r /\ FrV H y q /\ Bd 8000 r /\ Bd 8000 q /\ Q (.bl (decide (r<q))) H
noncomputable def sumQ (rs:List Rat):Rat:=rs.foldl (·+·) 0
theorem yJ0 {rs:List Rat}{i:Nat}{r:Rat}(h:rs[i]?=some r):sumQ (rs.take (i+1))=sumQ (rs.take i)+r:=by
 unfold sumQ;rw[Ŋ,h,List.foldl_append];rfl
noncomputable def zR1 (K:Ā):Sp:=fun vs H Q _=>∃(a:Addr) (xs:List V) (rs:List Rat),vs=[.ref a] /\ SqL K H a xs /\ Paired (FrV H) xs rs /\ (∀r∈rs,Bd 8000 r) /\ (∀k,k<=rs.length->Bd 8000 (sumQ (rs.take k))) /\ ∀v H',Same H H'->FrV H' v (sumQ rs)->Q v H'
noncomputable def yE2 (K:Ā):Sp:=fun vs H Q _=>∃(a:Addr) (ns:List Int) (k:Int),vs=[.ref a,.int k] /\ SqL K H a (ns.map V.int) /\ 0<=k /\ ∀c:Int,Q (.int c) H
noncomputable def zM5:Sp:=fun vs H Q _=>∃a b:Int,vs=[.int a,.int b] /\ Q (.int (ħ a b:Nat)) H
noncomputable def spLaw (K:Ā):Sp:=fun vs H Q _=>∃(a:Addr) (ns:List Int),vs=[.ref a] /\ SqL K H a (ns.map V.int) /\ ns.length<=63 /\ ∀H',Q (.bl true) H'
theorem sz {n:Nat}(h:n<=1000):n<=sizeLine:=Ĩ (zI1 h)
theorem yX4 {ns:List Int}{k:Int}(h0:0<=k)(h1:k<(ns.map V.int).length):∃c:Int,atI (ns.map V.int) k=some (V.int c):=by
 obtain⟨j,rfl⟩:=Ī h0;have hj:j<ns.length:=by rw[ą]at h1;lia
 refine⟨ns[j],Ŭ ?_⟩;rw[č,ā hj]
 rfl
theorem à {c m:Int}(h:0<m):0<=c.fmod m /\ c.fmod m<m:=zM1 h
theorem sub_int (n:String):subS n "int" = (n == "int" || n == "bool"):=by simp[subS]
theorem yD9 (n:String):subS n "bool" = (n == "bool"):=by simp[subS]
theorem yR1 {xs:List V}{j:Int}(h0:0<=j)(h1:j<xs.length):∃v,v∈xs /\ atI xs j=some v:=by
 obtain⟨k,rfl⟩:=Ī h0;have hk:k<xs.length:=by lia
 exact⟨xs[k],ĥ hk,Ŭ (ā hk)⟩
theorem ù {p:Prop}[Decidable p]{A B:Prop}(hp:p)(h:A):if decide p=true then A else B:=by
 rw[decide_eq_true hp];exact iteT h
theorem Ù {p:Prop}[Decidable p]{A B:Prop}(hp:¬p)(h:B):if decide p=true then A else B:=by
 rw[decide_eq_false hp];exact iteF h
theorem î {H H':Hp}{xs:List V}{rs:List Rat}(s:Same H H')(h:Paired (FrV H) xs rs):Paired (FrV H') xs rs:=Paired.mapP h fun _ _ f=>f.same s
theorem zB3 {H:Hp}{xs:List V}{rs:List Rat}{v:V}{r:Rat}(h:Paired (FrV H) xs rs)(f:FrV H v r):Paired (FrV H) (xs++[v]) (rs++[r]):=h.snoc f
theorem yH1 {α β:Type}{F:α->β->Prop}{xs:List α}{ys:List β}(h:Paired F xs ys){x:α}(hx:x∈xs):∃y,y∈ys /\ F x y:=by
 obtain⟨i,hi,e⟩:=List.getElem_of_mem hx;obtain⟨y,hy,f⟩:=Ê h (i:=i) (x:=x) (by rw[ā hi,e]);exact⟨y,đ hy,f⟩
end Tc
namespace L2
open PySem PySem.Spec PyProof.Rows
theorem yG3:bootBuiltins "all" = some (.builtin "all"):=by decide +kernel
theorem zL1:∀{ns:List Int} {vs:List Value},Vals (ns.map V.int) vs->IntsAre vs ns
 | [],_,.nil=>.nil
 | n::ns,_,.cons r t=>by obtain⟨tk,rfl⟩:=r;exact .cons n tk (zL1 t)
theorem zI9:∀{bs:List Bool} {vs:List Value},Vals (bs.map V.bl) vs->LSm.BoolsAre vs bs
 | [],_,.nil=>.nil
 | b::bs,_,.cons r t=>by cases r;exact .cons b (zI9 t)
section
variable {X:Cx}
theorem Inv.newsAll {pins:List (Addr×Obj)}{σ:St}{H:Hp}{s:Shared}{h':Heap}{tk:Nat}{m:Str->Option Value}(I:Inv X pins σ H s)(hm:s.heap.Ns X.env.locals m)(F:Fr X.base X.env.locals h' m)
  (N:News X.base X.env.locals h' (zV5 X.base s.heap X.env.locals)):Inv X pins σ H { s with heap:=h',toks:=tk }:=by
 have kk:∀b o,b≠X.env.locals->s.heap.get? b=some o->h'.get? b=some o:=fun b o hb e=>by
  cases q:X.base.get? b with
  | none=>exact(N (b,o) (yC0 hb q e)).1
  | some u =>
   have z:=I.bk b u q;rw[e]at z;cases z;exact F.keep b _ q
 have hL:∃o',h'.get? X.env.locals=some o':=let ⟨o,_,_,e,_⟩:=F.ns;⟨o,e⟩;refine I.step (g':=s.gens) (d':=s.drawn) (ch:=[]) (fun _ z=>nomatch z) (fun b o hb _ _ e _=>kk b o hb e) (fun b o hb _ _ e _=>⟨o.slots,kk b o hb e⟩) (fun _ _ _ _ n=>n) (fun b o _ e=>?_)
  (fun _ _ e=>e) (fun _ _ _ e=>e) (fun b ps e=>⟨#[],by rw[e];simp⟩) (fun m' hm'=>?_) (fun b u e=>?_) I.bare
 ·by_cases hb:b=X.env.locals
  ·rw[hb];exact hL
  ·exact⟨o,kk b o hb e⟩
 ·have em:m'=m:=by
   obtain⟨o1,es1,ep1,g1,d1,_,f1⟩:=hm;obtain⟨o2,es2,ep2,g2,d2,_,f2⟩:=hm';rw[g1]at g2;cases g2;rw[d1]at d2;cases d2
   funext z
   exact(f2 z).symm.trans (f1 z)
  rw[em];exact F.ns
 ·refine(I.hok b u e).stay (fun c v hc q=>kk c v ?_ q) (fun _ q=>q) fun _ _ q=>q;intro z;subst z;rcases hc with z | z
  ·rw[<- z,I.free]at e;cases e
  ·rw[I.free]at z;cases z
theorem yU9 (hc:X.calm=true):δ X (.builtin "sum") (fun xs H Q=>∃(a:Addr) (ns:List Int),xs=[V.ref a] /\ SqL X.K H a (ns.map V.int) /\ Q (.int ns.sum) H):=by
 intro pins s σ H xs us Q I r h;obtain⟨l,ns,rfl,hq,q⟩:=h;obtain⟨u,rfl,ru⟩:=τ r;cases ru;obtain⟨vs,rv,p,_⟩:=I.list hq;obtain⟨m,hm,_⟩:=id I.loc;have F0:Fr X.base X.env.locals s.heap m:=⟨hm,I.bk,ĉ I.ok.bsz I.ok.above⟩;exact LSm.sum_ints F0 yF1 (I.ok.hd hc) p.isList (zL1 rv) fun h' tk t' F' N'=>⟨.int ns.sum,H,I.newsAll hm F' N',⟨t',rfl⟩,q⟩
theorem yV2 (hc:X.calm=true):δ X (.builtin "all") (fun xs H Q=>∃(a:Addr) (bs:List Bool),xs=[V.ref a] /\ SqL X.K H a (bs.map V.bl) /\ Q (.bl (bs.all id)) H):=by
 intro pins s σ H xs us Q I r h;obtain⟨l,bs,rfl,hq,q⟩:=h;obtain⟨u,rfl,ru⟩:=τ r;cases ru;obtain⟨vs,rv,p,_⟩:=I.list hq;obtain⟨m,hm,_⟩:=id I.loc;have F0:Fr X.base X.env.locals s.heap m:=⟨hm,I.bk,ĉ I.ok.bsz I.ok.above⟩;exact LSm.all_bools F0 yF1 (I.ok.hd hc) p.isList (zI9 rv) fun h' tk F' N'=>⟨.bl _,H,I.newsAll hm F' N',rfl,q⟩
end
section
variable {X:Cx}{K:Ā}
theorem xC9 (h:X.K=K):IxR X (rIxT K):=by subst h;exact xJ6
theorem yU4 (h:X.K=K):IxR X (rIxL K):=by subst h;exact xD0
theorem zC7 (h:X.K=K):SlR X (rSlL K):=by subst h;exact xA2
theorem yH2 (h:X.K=K):OpR X (compareOp .In) (rIn K false):=by subst h;exact yL6
theorem zN4 {k:Nat}(h:X.K=K)(hr:Room k X.A):OpR X (compareOp .Eq) (rEqD K):=by subst h;exact xI0 hr
theorem yA8 {k:Nat}(h:X.K=K)(hr:Room k X.A):OpR X (compareOp .NotEq) (rNeD K):=by subst h;exact xH9 hr
theorem Ö (h:X.K=K):δ X (.builtin "len") (fun xs H Q=>∃x n,xs=[x] /\ LenV K x H n /\ Q (.int n) H):=by subst h;exact yV0
theorem û (h:X.K=K):δ X (.builtin "isinstance") (fun xs H Q=>∃x n t b,xs=[x,.ty n] /\ TyOf K H x t /\ PySem.W.kitOne K t (.type n)=some b /\ Q (.bl b) H):=by subst h;exact yV1
theorem ó (h:X.K=K):δ X (.type "list") (fun xs H Q=>∃p ys,xs=[.ref p] /\ (SqL K H p ys \/ SqT K H p ys) /\ ∀l,H l=none->Q (.ref l) (upd H l (.lst ys))):=by subst h;exact zY4
theorem zG9 (h:X.K=K):δ X (.type "tuple") (fun xs H Q=>∃p ys,xs=[.ref p] /\ ((SqL K H p ys /\ ∀l,H l=none->Q (.ref l) (upd H l (.tup ys))) \/ (SqT K H p ys /\ Q (.ref p) H))):=by subst h;exact zV3
theorem zO7 (h:X.K=K)(hc:X.calm=true):δ X (.builtin "sum") (fun xs H Q=>∃(a:Addr) (ns:List Int),xs=[V.ref a] /\ SqL K H a (ns.map V.int) /\ Q (.int ns.sum) H):=by subst h;exact yU9 hc
theorem zI8 (h:X.K=K)(hc:X.calm=true):δ X (.builtin "all") (fun xs H Q=>∃(a:Addr) (bs:List Bool),xs=[V.ref a] /\ SqL K H a (bs.map V.bl) /\ Q (.bl (bs.all id)) H):=by subst h;exact yV2 hc
theorem ç {tg l:Expr}{tl:TE}(h:X.K=K)(hl:PE X l tl):PI X tg l (xJ9 K tl):=by subst h;exact xB5 hl
end
theorem Same.updD {H H':Hp}{D:Addr}{o:HO}(s:Same H H')(h:H D=none):Same H (L2.upd H' D o):=fun b u e=>by
 rw[L2.upd_ne (ê e h)];exact s b u e
theorem zL0:∀{ys:List Str} {vs:List Value},Vals (ys.map V.str) vs->StrsAre vs ys
 | [],_,.nil=>.nil
 | y::ys,_,.cons r t=>by obtain⟨tk,rfl⟩:=r;exact .cons y tk (zL0 t)
section
variable {X:Cx}{K:Ā}
noncomputable def xN4 (K:Ā):V->List V->Hp->VK->Prop:=fun x vs H Q=>∃(z:Str) (a:Addr) (ys:List Str),x = .str z /\ vs=[.ref a] /\ SqL K H a (ys.map V.str) /\ (ys.map (·.length)).sum+ys.length*z.length<=16777216 /\ Q (.str (Txt.join z ys)) H
theorem yT9 (h:X.K=K):MtR X "str.join" (xN4 K):=by
 subst h;intro pins s σ H x xs v us Q I rx rv h;obtain⟨z,a,ys,rfl,rfl,hq,hz,q⟩:=h;obtain⟨t,rfl⟩:=rx;obtain⟨u,rfl,ru⟩:=Vals.one rv;cases ru;obtain⟨its,r,p,_⟩:=I.list hq;exact join_list p.isList (by simpa using zL0 r) hz fun t' k=>⟨.str _,H,I.tok k,⟨t',rfl⟩,q⟩
theorem Ž {o e:Expr}{es:List Expr}{to:TE}{t:TA}{name:Str}{apos cpos:Pos}{T id:String}{r:V->List V->Hp->VK->Prop}(h:X.K=K)(pa:PlainAttrs T)(slot:Slot T name id)(hty:typeOf (.builtin id)=pure (.type "method_descriptor"))
  (hm:MtR X id r)(ho:PE X o to)(ha:PA X (e::es) t)(hbase:attributeBase o name X.env (eval o X.env)=eval o X.env:=by rfl)
  (hfew:((backTo cpos (starEach (e::es) X.env)).all (fun x=>!x.1)&&(backToKw cpos (keywordEach [] X.env)).all (fun x=>x.1.isSome)&&decide ((e::es).length+([]:List Keyword).length+(if ([]:List Keyword).isEmpty then 0 else 1)<30))=true:=by rfl)
  (hline:(apos.endLine==cpos.line)=true:=by rfl)(hs:starEach (e::es) X.env=(false,eval e X.env)::starEach es X.env:=by rfl)(hplain:(backTo cpos (starEach es X.env)).any (·.1)=false:=by rfl) :
  PE X (.Call (.Attribute o name apos) (e::es) [] cpos) (tBM K T r to t):=by subst h;exact xH6 pa slot hty hm ho ha hbase hfew hline hs hplain
theorem ì {es:List Expr}{k:Nat}{t:TGs}{n:Nat}{pos:Pos}(h:X.K=K)(hc:X.calm=true)(hp:PGs X es t)(hn:(assignEach es X.env).length=n:=by rfl)(hst:(assignEach es X.env).findIdx? (·.1)=none:=by rfl) :
  PG X (.Tuple es k pos) (gTup K n t):=by subst h;exact xH1 hc hp hn hst
end
noncomputable def RawD (h:Heap)(d:Addr)(es:Array DictEntry)(ep:Nat):Prop:=∃o,h.get? d=some o /\ o.ExactDict /\ o.data = .dict es ep
theorem RawD.at {h h':Heap}{d:Addr}{es:Array DictEntry}{ep:Nat}(x:RawD h d es ep)(e:∀o,h.get? d=some o->h'.get? d=some o):RawD h' d es ep:=let ⟨o,q,r⟩:=x;⟨o,e o q,r⟩
theorem RawD.ty {s:Shared}{d:Addr}{es:Array DictEntry}{ep:Nat}(x:RawD s.heap d es ep):s.TypeIs (.ref d) "dict":=let ⟨o,q,c,_⟩:=x;⟨o,q,c.1⟩
section
variable {prog:Program}{w:World}{A:Around}{E:Value->Shared->Prop}{s:Shared}{it d vw:Addr}{i ep:Nat}{es:Array DictEntry}{ok ov:Value}
theorem yK5 (hd:(d==sysModules)=false):MeetsIn prog w (Builtin.«dict.items» ⟨[.ref d],[]⟩) (fun _ R s=>(∃es ep,RawD s.heap d es ep) /\ R (.ok (.ret (.ref s.heap.objs.size))) { s with heap:=s.heap.push { cls:=.type "dict_items",data:=.fields #[.ref d] } }) :=
 .of_wp fun A R s ⟨⟨es,ep,hm⟩,h⟩=>by
  unfold Builtin.«dict.items» Builtin.Dict.noArgs;refine wpAny_bind (wpAny_bind (wpAny_notOrdered_dict hm.ty ?_));show wpAny _ _ (pure d) _ _ s;refine wpAny_pure ?_;show wpAny _ _ (Builtin.Dict.showsAll d >>= _) _ _ s;unfold Builtin.Dict.showsAll;rw[if_neg (show ¬((d==sysModules)=true) by rw[hd];simp)];exact wpAny_bind (wpAny_pure (wpAny_bind (wpAny_newObj_type (wpAny_pure ⟨_,rfl,h⟩))))
theorem yS4 {Q:Value->Shared->Prop}(hv:s.heap.IsItemsView vw d)(hm:RawD s.heap d es ep)
  (q:Q (.ref s.heap.objs.size) { s with heap:=s.heap.push { cls:=.type "dict_itemiterator",data:=.fields #[.none,.bool false,.ref d,.int 0 0,.int es.size 0,.int ep 0,.none,.none] } }):wpAny (model prog w) A (pyIter (.ref vw)) Q E s:=by
 obtain⟨o1,g1,c1,f1⟩:=id hv;obtain⟨o2,g2,c2,f2⟩:=id hm;refine wpAny_pyIter_slot hv.typeIs F.slot_dict_items_iter (wpAny_call_entry F.slot_dict_items_iter hv.typeIs F.entry_dict_items_iter (?_) (F.args_dict_items_iter_1 (_)));unfold Builtin.«dict_items.__iter__» Builtin.Dict_items.dictOf Builtin.Dict_items.newIterator;refine wpAny_bind (wpAny_pure (wpAny_bind (wpAny_bind (wpAny_field g1 f1 (x:=.ref d) rfl (wpAny_pure (wpAny_bind (wpAny_bind (wpAny_dictEntries g2 f2 (wpAny_bind (wpAny_dictEpoch g2 f2 ?_))))))))));have hown:(Builtin.Dict_items.ownsTuple "dict_itemiterator")=true:=by decide
 simp only[hown,if_true];refine wpAny_newObj_type (wpAny_pure ⟨_,rfl,"dict_itemiterator",_,⟨_,ě (_) rfl,rfl⟩,F.slot_dict_itemiterator_next.lookup,(?_)⟩) (by
  simp only[sizeOk,Builtin.Dict_items.ownedTupleFields,ĝ,Ĕ,ī,List.length_nil,sizeLine_eq];lia)
 simpa[rawInt,Builtin.Dict_items.ownedTupleFields] using q
theorem yS3 {Q:Option Value->Shared->Prop}(hit:IsItemIter s.heap it d i es.size ep ok ov)(hm:RawD s.heap d es ep)(hi:i<es.size)
  (q:∀h',IsItemIterOut h' it d (i+1) es.size ep es[i].key es[i].val s.heap.objs.size->h'.get? s.heap.objs.size=some { cls:=.type "tuple",data:=.seq #[es[i].key,es[i].val] } ->
   (∀b o,b≠it->s.heap.get? b=some o->h'.get? b=some o)->Q (some (.ref s.heap.objs.size)) { s with heap:=h' }):wpAny (model prog w) A (pyNext (.ref it)) Q E s:=by
 obtain⟨h0,g,dr,tk,os⟩:=s;obtain⟨o2,g2,c2,f2⟩:=id hm;have ty:Shared.TypeIs ⟨h0,g,dr,tk,os⟩ (.ref it) "dict_itemiterator":=⟨_,hit,rfl⟩;have hown:(Builtin.Dict_items.ownsTuple "dict_itemiterator")=true:=by decide
 unfold pyNext;refine wpAny_bind (wpAny_attempt (wpAny_callSpecial?_slot (name:=Str.ofString "__next__") ty F.slot_dict_itemiterator_next (wpAny_call_entry F.slot_dict_itemiterator_next ty F.entry_dict_itemiterator_next ?_ (F.args_dict_itemiterator_next_1 _))));refine wpAny_bind (wpAny_pure (wpAny_bind (wpAny_bind ?_)))
 first | refine wpAny_bind (wpAny_typeNameOfWhole_itemiter ty (wpAny_pure (wpAny_bind (wpAny_fieldsOf hit rfl ?_)))) | refine wpAny_bind (wpAny_typeNameOf_itemiter ty (wpAny_pure (wpAny_bind (wpAny_fieldsOf hit rfl ?_))))
 simp only[hown,if_true];show wpAny _ _ (if (Value.ref d == .none)=true then _ else _) _ _ _;rw[if_neg (show ¬((Value.ref d == .none)=true) from Ď)];refine wpAny_bind (wpAny_pure (wpAny_bind (wpAny_dictEntries g2 f2 ?_)));rw[if_neg (show ¬_ by simp)];refine wpAny_bind (wpAny_pure (wpAny_bind (wpAny_dictEpoch g2 f2 ?_)));rw[if_neg (show ¬_ by simp)];refine wpAny_pure ?_;simp only[show ¬((i:Int)<0) by lia,if_false,ń,Array.getElem?_eq_getElem hi];refine wpAny_bind ?_
 first | refine wpAny_bind (wpAny_typeNameOfWhole_itemiter ty (wpAny_pure (wpAny_bind (wpAny_isOneOf_itemiter ty ?_)))) | refine wpAny_bind (wpAny_typeNameOf_itemiter ty (wpAny_pure (wpAny_bind (wpAny_isOneOf_itemiter ty ?_))))
 show wpAny _ _ (setField (.ref it) 3 (rawInt ((i:Int)+1)) >>= _) _ _ (⟨h0,g,dr,tk,os⟩:Shared);refine wpAny_bind (wpAny_setField_rec hit (by simp) fun ha ia sa=>?_);have sa:Heap.SameBut it h0 ha:=sa;have ia:IsItemIter ha it d (i+1) es.size ep ok ov:=by
  have e:((i+1:Nat):Int)=(i:Int)+1:=rfl;unfold IsItemIter;rw[e];simpa[rawInt] using ia
 have tya:Shared.TypeIs ⟨ha,g,dr,tk,os⟩ (.ref it) "dict_itemiterator":=⟨_,ia,rfl⟩;refine wpAny_bind (wpAny_holding (wpAny_bind (wpAny_isOneOf_itemiter tya (wpAny_bind (wpAny_isOneOf_itemiter tya ?_)))));show wpAny _ _ (Builtin.Dict_items.pairFromOwner (.ref it) 6 es[i].key es[i].val) _ _ (⟨ha,g,dr,tk,os⟩:Shared);unfold Builtin.Dict_items.pairFromOwner;refine wpAny_bind (wpAny_newTuple ?_);have za:ha.objs.size=h0.objs.size:=sa.1;have lt:it<h0.objs.size:=ċ hit;have ne:h0.objs.size≠it:=ŧ lt;obtain⟨hb,ehb⟩:∃hb,hb=ha.push { cls:=.type "tuple",data:=.seq #[es[i].key,es[i].val] }:=⟨_,rfl⟩;have ib:IsItemIter hb it d (i+1) es.size ep ok ov:=by rw[ehb];exact Č _ ia
 have tb:hb.get? h0.objs.size=some { cls:=.type "tuple",data:=.seq #[es[i].key,es[i].val] }:=by rw[ehb,<- za];exact ě _ rfl
 have kb:∀b o,b≠it->h0.get? b=some o->hb.get? b=some o:=fun b o n e=>by rw[ehb];exact Č _ (sa.extBut b o n e)
 rw[<- ehb];show wpAny _ _ (Builtin.Dict_items.ownedTupleIsFree (.ref it) >>= _) _ _ (⟨hb,g,dr,tk,os⟩:Shared);rw[za];unfold Builtin.Dict_items.ownedTupleIsFree;refine wpAny_bind (wpAny_bind (wpAny_field ib rfl (x:=.none) rfl (wpAny_pure ?_)));simp only[if_true];refine wpAny_bind (wpAny_field ib rfl (x:=ok) rfl (wpAny_bind (wpAny_field ib rfl (x:=ov) rfl (wpAny_bind (wpAny_setField_rec ib (by simp) fun hc ic sc=>?_)))));have sc:Heap.SameBut it hb hc:=sc;have ic:IsItemIter hc it d (i+1) es.size ep es[i].key ov:=ic;refine wpAny_bind (wpAny_setField_rec ic (by simp) fun hd' id' sd=>?_);have sd:Heap.SameBut it hc hd':=sd;have id':IsItemIter hd' it d (i+1) es.size ep es[i].key es[i].val:=id';refine wpAny_bind (wpAny_setField_rec id' (by simp) fun he ie se=>?_);have se:Heap.SameBut it hd' he:=se;have ie:IsItemIterOut he it d (i+1) es.size ep es[i].key es[i].val h0.objs.size:=ie;refine wpAny_bind (wpAny_setField_rec ie (by simp) fun hf jf sf=>?_);have sf:Heap.SameBut it he hf:=sf;have jf:IsItemIterOut hf it d (i+1) es.size ep es[i].key es[i].val h0.objs.size:=jf;have up:∀b o,b≠it->hb.get? b=some o->hf.get? b=some o:=fun b o n e=>sf.extBut b o n (se.extBut b o n (sd.extBut b o n (sc.extBut b o n e)));exact wpAny_bind (wpAny_letGo (wpAny_pure (wpAny_pure ⟨_,rfl,wpAny_pure (q hf jf (up _ _ ne tb) fun b o n e=>up b o n (kb b o n e))⟩)))
theorem xA9 {Q:Option Value->Shared->Prop}(hh:A.handled=none)(hit:IsItemIter s.heap it d i es.size ep ok ov)(hm:RawD s.heap d es ep)(hi:es.size<=i)
  (q:∀h',Heap.ExtBut it s.heap h'->Q none { s with heap:=h' }):wpAny (model prog w) A (pyNext (.ref it)) Q E s:=by
 obtain⟨o2,g2,c2,f2⟩:=id hm;have ty:s.TypeIs (.ref it) "dict_itemiterator":=⟨_,hit,rfl⟩;have hown:(Builtin.Dict_items.ownsTuple "dict_itemiterator")=true:=by decide
 unfold pyNext;refine wpAny_bind (wpAny_attempt (wpAny_callSpecial?_slot (name:=Str.ofString "__next__") ty F.slot_dict_itemiterator_next (wpAny_call_entry F.slot_dict_itemiterator_next ty F.entry_dict_itemiterator_next ?_ (F.args_dict_itemiterator_next_1 _))));refine wpAny_bind (wpAny_pure (wpAny_bind (wpAny_bind ?_)))
 first | refine wpAny_bind (wpAny_typeNameOfWhole_itemiter ty (wpAny_pure (wpAny_bind (wpAny_fieldsOf hit rfl ?_)))) | refine wpAny_bind (wpAny_typeNameOf_itemiter ty (wpAny_pure (wpAny_bind (wpAny_fieldsOf hit rfl ?_))))
 simp only[hown,if_true];show wpAny _ _ (if (Value.ref d == .none)=true then _ else _) _ _ _;rw[if_neg (show ¬((Value.ref d == .none)=true) from Ď)];refine wpAny_bind (wpAny_pure (wpAny_bind (wpAny_dictEntries g2 f2 ?_)));rw[if_neg (show ¬_ by simp)];refine wpAny_bind (wpAny_pure (wpAny_bind (wpAny_dictEpoch g2 f2 ?_)));rw[if_neg (show ¬_ by simp)];refine wpAny_pure ?_;simp only[show ¬((i:Int)<0) by lia,if_false,ń,Array.getElem?_eq_none hi];refine wpAny_bind ?_
 first | refine wpAny_bind (wpAny_typeNameOfWhole_itemiter ty (wpAny_pure ?_)) | refine wpAny_bind (wpAny_typeNameOf_itemiter ty (wpAny_pure ?_))
 show wpAny _ _ (setField (.ref it) 2 .none >>= _) _ _ (s);refine wpAny_bind (wpAny_setField hit rfl (by simp) (show wpAny _ _ (newExc (.type "StopIteration") [] >>= _) _ _ _ from wpAny_bind ?_));simp only[newExc,newTuple];refine wpAny_bind (wpAny_newObj_type (wpAny_bind (m:=firstArgMember _ _) (wpAny_of_eq (a:=Value.none) (by first | rfl | (simp only[firstArgMember];rfl)) (wpAny_newObj_type ?_ (by size_fits)))) (by size_fits));simp only[raiseNew];refine wpAny_bind (wpAny_handled ?_);rw[show (Around.in1 A).handled=none from hh];refine wpAny_bind (wpAny_pure (wpAny_throw (?_)));refine wpAny_bind (wpAny_isInstance (b:=true) (T:="StopIteration") ⟨_,ě _ rfl,rfl⟩ isSubtype_stop (?_));exact wpAny_pure (q _ (((Heap.SameBut.update ..).extBut.push _).push _))
end
noncomputable def isDk:HO->Bool
 | .dK _=>true
 | .dT _=>true
 | _=>false
section
variable {X:Cx}{pins:List (Addr×Obj)}{σ:St}{H:Hp}{s:Shared}{d:Addr}{u:HO}{o:Obj}
theorem xI5 (hd:H d=some u)(hu:isDk u=true):∀c v,H c=some v->isDk v=false->c≠d:=fun c v e f z=>by
 subst z;rw[hd]at e;cases e;rw[hu]at f;cases f
theorem Inv.freeze (I:Inv X pins σ H s)(hd:H d=some u)(hu:isDk u=true)(ho:s.heap.get? d=some o):Inv X pins σ (upd H d (.frz o u)) s:=by
 have mu:Mut (H d):=by rw[hd];cases u<;>first | trivial | (simp[isDk]at hu)
 refine I.write (x:=d) (e:=d) (o:=.frz o u) (h':=s.heap) (t':=s.toks) mu (.inl rfl) (fun _ _ _ q=>q) ⟨o,ho⟩ ⟨ho,?_⟩;exact(I.hok d u hd).stay (fun _ _ _ q=>q) (fun c q=>by rw[upd_ne (xI5 hd hu c _ q rfl)];exact q) fun c xs q=>by rw[upd_ne (xI5 hd hu c _ q rfl)];exact q
theorem Inv.unfrozen (I:Inv X pins σ H s)(hd:H d=some u)(hu:isDk u=true)(ob:Obj)(v:HO):X.H₀ d≠some (.frz ob v):=fun e=>by
 have z:=I.base.frzs d ob v e;rw[hd]at z;cases z;cases hu
theorem Inv.thaw (I:Inv X pins σ H s)(hd:H d=some (.frz o u))(h0:∀ob v,X.H₀ d≠some (.frz ob v)):Inv X pins σ (upd H d u) s:=by
 have ne:∀c v,H c=some v->(∀ob w,v ≠ .frz ob w)->c≠d:=fun c v e f z=>by
  subst z;rw[hd]at e;cases e;exact f _ _ rfl
 have nn:∀c,H c=none->c≠d:=fun c e z=>by subst z;rw[hd]at e;cases e
 refine⟨I.ok,I.os,I.bare,⟨I.base.keep,I.base.slot,fun b ob e n hx=>?_,I.base.there,fun b xs e=>?_,fun b ob w e=>?_,fun b ps e=>?_⟩,I.loc,I.cell,?_,fun x c e=>?_,fun p hp=>?_,fun b w e=>?_,I.len⟩
 ·have q:=I.base.free b ob e n hx;rw[upd_ne (nn b q)];exact q
 ·have q:=I.base.tups b xs e;rw[upd_ne (ne b _ q fun _ _ z=>by cases z)];exact q
 ·have q:=I.base.frzs b ob w e;rw[upd_ne (fun z=>h0 ob w (by rw[<- z];exact e))];exact q
 ·obtain⟨m,q⟩:=I.base.tbls b ps e;exact⟨m,by rw[upd_ne (ne b _ q fun _ _ z=>by cases z)];exact q⟩
 ·rw[upd_ne (nn _ I.free)];exact I.free
 ·rw[upd_ne (nn _ (I.freeC x c e))];exact I.freeC x c e
 ·obtain⟨e1,e2,e3⟩:=I.pin p hp;exact⟨e1,by rw[upd_ne (nn _ e2)];exact e2,e3⟩
 ·have go:∀{a:Addr} {v:HO},ObjOk X.prog X.w H s.heap a v->ObjOk X.prog X.w (upd H d u) s.heap a v:=fun q =>
   q.stay (fun _ _ _ q=>q) (fun c q=>by rw[upd_ne (ne c _ q fun _ _ z=>by cases z)];exact q) fun c xs q=>by rw[upd_ne (ne c _ q fun _ _ z=>by cases z)];exact q
  by_cases z:b=d
  ·subst z;rw[Ã]at e;cases e;exact go (I.hok b _ hd).2
  ·rw[upd_ne z]at e;exact go (I.hok b w e)
noncomputable def xM5 (d:Addr)(D:Ends):Ends where
 nx:=fun σ H=>∃o u,H d=some (.frz o u) /\ D.nx σ (upd H d u)
 rt:=fun v H=>∃o u,H d=some (.frz o u) /\ D.rt v (upd H d u)
 bk:=fun σ H=>∃o u,H d=some (.frz o u) /\ D.bk σ (upd H d u)
 ct:=fun σ H=>∃o u,H d=some (.frz o u) /\ D.ct σ (upd H d u)
noncomputable def xM6 (t:TS):TS:=fun D σ H=>∃d u,H d=some u /\ isDk u=true /\ t (xM5 d D) σ H
theorem xB1 {st:Stmt}{t:TS}(h:PS X st t):PS X st (xM6 t):=by
 intro pins s σ H D I hq;obtain⟨d,u,hd,hu,ht⟩:=hq;have h0:=I.unfrozen hd hu;refine thn (h pins s σ H _ I ht) fun f s1 q=>?_;cases f with
 | next=>obtain⟨σ',H',I',o,v,e,q⟩:=q;exact⟨σ',_,I'.thaw e h0,q⟩
 | brk=>obtain⟨σ',H',I',o,v,e,q⟩:=q;exact⟨σ',_,I'.thaw e h0,q⟩
 | cont=>obtain⟨σ',H',I',o,v,e,q⟩:=q;exact⟨σ',_,I'.thaw e h0,q⟩
 | ret w=>obtain⟨x,σ',H',I',r,o,v,e,q⟩:=q;exact⟨x,σ',_,I'.thaw e h0,r,q⟩
noncomputable def xE7 (t:TE):TE:=fun σ H Q=>∃d u,H d=some u /\ isDk u=true /\ t σ H fun v H1=>∃o w,H1 d=some (.frz o w) /\ Q v (upd H1 d w)
theorem yL3 {e:Expr}{t:TE}(h:PE X e t):PE X e (xE7 t):=by
 intro pins s σ H Q I hq;obtain⟨d,u,hd,hu,ht⟩:=hq;have h0:=I.unfrozen hd hu;refine thn (h pins s σ H _ I ht) fun v s1 q=>?_;obtain⟨x,H',I',r,o,w,e,q⟩:=q;exact⟨x,_,I'.thaw e h0,r,q⟩
noncomputable abbrev yV6 (ps:List (V×V))(es:List DictEntry):Prop:=Paired (fun p e=>RelV p.1 e.key /\ RelV p.2 e.val) ps es
noncomputable def Pss (H:Hp):HO->List (V×V)->Prop
 | .dK kvs,ps=>ps=kvs.map fun kv=>(kV kv.1,kv.2)
 | .dT kvs,ps=>Paired (fun kv p=>∃b,p=(V.ref b,kv.2) /\ H b=some (.tup (kv.1.map kV))) kvs ps
 | _,_=>False
theorem zN2 {P:Program}{w:World}:∀{kvs:List (Key×V)} {vs:List (Key×Value)} {es:List DictEntry},KV kvs vs->Pairs (Ŷ P w) es vs->yV6 (kvs.map fun kv=>(kV kv.1,kv.2)) es
 | [],[],_,_,p=>by cases p;exact .nil
 | [],_::_,_,r,_=>nomatch r
 | _::_,[],_,r,_=>nomatch r
 | kv::kvs,v::vs,es,.cons h r,p=>by
  cases p with
  | cons a b c =>
   refine .cons ⟨?_,?_⟩ (zN2 r c)
   ·have a:=a;rw[<- h.1]at a;rcases ý a with⟨i,t,e1,e2⟩ | ⟨x,t,e1,e2⟩
    ·show RelV (kV kv.1) _;rw[e1,e2];exact⟨t,rfl⟩
    ·show RelV (kV kv.1) _;rw[e1,e2];exact⟨t,rfl⟩
   ·rw[b];exact h.2
theorem zQ2 {P:Program}{w:World}{H:Hp}:∀{kvs:List (List Key×V)} {xs:List (List Key×Addr×Value)},KT H kvs xs->∃ps,Paired (fun kv p=>∃b,p=(V.ref b,kv.2) /\ H b=some (.tup (kv.1.map kV))) kvs ps /\ yV6 ps (xs.map (entryOfKey (tupleKind (Ŷ P w))))
 | _,_,.nil=>⟨[],.nil,.nil⟩
 | kv::_,x::_,.cons h r=>by
  obtain⟨ps,h1,h2⟩:=zQ2 (P:=P) (w:=w) r;exact⟨(.ref x.2.1,kv.2)::ps,.cons ⟨x.2.1,rfl,h.2.1⟩ h1,.cons ⟨rfl,h.2.2⟩ h2⟩
theorem Inv.raw (I:Inv X pins σ H s)(hd:H d=some u)(hu:isDk u=true):∃o es ep ps,s.heap.get? d=some o /\ o.ExactDict /\ o.data = .dict es ep /\ (d==sysModules)=false /\ Pss H u ps /\ yV6 ps es.toList:=by
 have ok:=I.hok d u hd;cases u with
 | dK kvs =>
  obtain⟨_,hs,vs,kv,o,es,ep,g,ex,dat,_,pr,_⟩:=ok;exact⟨o,es,ep,_,g,ex,dat,hs,rfl,zN2 kv pr⟩
 | dT kvs =>
  obtain⟨_,hs,xs,kt,o,es,ep,g,ex,dat,he,_⟩:=ok;obtain⟨ps,h1,h2⟩:=zQ2 (P:=X.prog) (w:=X.w) kt;exact⟨o,es,ep,ps,g,ex,dat,hs,h1,by rw[he];exact h2⟩
 | _=>cases hu
noncomputable def ItD (d:Addr)(o:Obj)(u:HO)(ps:List (V×V)):It :=
 ⟨fun i H=>i<ps.length /\ H d=some (.frz o u),fun i H x H'=>∃k v T,ps[i]?=some (k,v) /\ x = .ref T /\ H T=none /\ H'=upd H T (.tup [k,v]),fun i H=>i=ps.length /\ H d=some (.frz o u)⟩
theorem zK1 {α β:Type}{F:α->β->Prop}:∀{xs:List α} {ys:List β} {i:Nat} {x:α},Paired F xs ys->xs[i]?=some x->∃y,ys[i]?=some y /\ F x y
 | _,_,_,_,.nil,e=>by simp at e
 | _,_,0,_,.cons r _,e=>by simp at e;subst e;exact⟨_,rfl,r⟩
 | _,_,i+1,x,.cons _ t,e=>by
  obtain⟨u,h1,h2⟩:=zK1 (i:=i) (x:=x) t (by simpa using e);exact⟨u,by simpa using h1,h2⟩
theorem yG6 {P:Program}{w:World}{K:Ā}{elts:List Expr}{kk:Nat}{pos:Pos}{d it:Addr}{o:Obj}{u:HO}{ps:List (V×V)}{es:Array DictEntry}{ep:Nat}(hx:o.ExactDict)(dat:o.data = .dict es ep)(rel:yV6 ps es.toList) :
  Turn P w K (.Tuple elts kk pos) (ItD d o u ps) [it] it (fun i h=>∃ok ov,IsItemIter h it d i es.size ep ok ov) where
 mem:=by simp
 obj:=fun i h st b hb=>by
  have e:b=it:=by simpa using hb
  subst e;obtain⟨ok,ov,st⟩:=st;exact⟨_,st,fun v z=>by cases z⟩
 keep:=fun i h h' st k=>let ⟨ok,ov,st⟩:=st;⟨ok,ov,k it (by simp) _ st⟩
 item:=by
  intro X hP hw hK hc i pins s σ H E I hf st hg;subst hP hw hK;obtain⟨f0,f1,_,f3,f4,f5⟩:=hf it (by simp);obtain⟨ok,ov,st⟩:=st;obtain⟨hi,hd⟩:=hg;have hlen:ps.length=es.size:=by rw[rel.length];simp
  have hi':i<es.size:=by lia
  refine yS3 st ⟨o,(I.hok d _ hd).1,hx,dat⟩ hi' fun h' jo ht kk=>?_;refine⟨_,rfl,wpAny_letOwnedTupleGo_items jo fun h2 he2 sb=>?_⟩;obtain⟨p,hp⟩:∃p,ps[i]?=some p:=⟨ps[i],by simp[hi]⟩;obtain⟨e',he',rk,rv⟩:=zK1 rel hp;have ee:e'=es[i]:=by
   have:es.toList[i]?=some es[i]:=by simp[hi']
   rw[this]at he';exact(Option.some.inj he').symm
  subst ee;have nT:s.heap.objs.size≠it:=ŧ (ċ st);have I1:Inv X pins σ H { s with heap:=h2,toks:=s.toks }:=I.turned (fun b ob hb e=>sb.extBut b ob hb (kk b ob hb e)) f0 f1 f3 f4 f5;have hT2:h2.get? s.heap.objs.size=some { cls:=.type "tuple",data:=.seq #[es[i].key,es[i].val] }:=sb.extBut _ _ nT ht;obtain⟨g0,g1,_,_,g4,g5⟩:=I.fpOk (Ć _) I.fresh;have I2:=I1.track (a:=s.heap.objs.size) (o:=.tup [p.1,p.2]) g0 (by
   cases q:X.s₀.heap.get? s.heap.objs.size with
   | none=>rfl
   | some ob=>exact absurd (Ă (ċ q) I.sz) (ĸ _)) g1 g4 g5 ⟨zI1 (by simp) |> Ĩ,[es[i].key,es[i].val],.cons rk (.cons rv .nil),⟨_,hT2,rfl,_,rfl⟩⟩
  refine⟨.ref _,_,I2,rfl,⟨p.1,p.2,_,hp,rfl,g0,rfl⟩,⟨_,_,he2⟩,fun b hb=>?_⟩;have e:b=it:=by simpa using hb
  subst e;rw[upd_ne (Ne.symm nT)];exact f0
 done:=by
  intro X hP hw hK hc i pins s σ H E I hf st hg;subst hP hw hK;obtain⟨f0,f1,_,f3,f4,f5⟩:=hf it (by simp);obtain⟨ok,ov,st⟩:=st;obtain⟨hi,hd⟩:=hg;have hlen:ps.length=es.size:=by rw[rel.length];simp
  exact xA9 (I.ok.hd hc) st ⟨o,(I.hok d _ hd).1,hx,dat⟩ (by rw[hi,hlen];exact Ć _) fun h' eb=>⟨rfl,I.turned (t':=s.toks) (fun b ob hb e=>eb b ob hb e) f0 f1 f3 f4 f5⟩
 self:=fun A i s Q E st h=>let ⟨_,_,st⟩:=st;PySem.W.kcp_self st h
noncomputable def η (v d:Addr):HO:=.ext fun h=>h.IsItemsView v d
noncomputable def xG6:V->List V->Hp->VK->Prop:=fun x vs H Q=>∃d u,x = .ref d /\ vs=[] /\ H d=some u /\ isDk u=true /\ ∀p,H p=none->Q (.ref p) (upd H p (η p d))
theorem zU4:MtR X "dict.items" xG6:=by
 intro pins s σ H x xs v us Q I rx rv h;obtain⟨d,u,rfl,rfl,hd,hu,q⟩:=h;cases rx;cases rv;obtain⟨o,es,ep,ps,g,ex,dat,hs,_,_⟩:=I.raw hd hu;have rw0:RawD s.heap d es ep:=⟨o,g,ex,dat⟩;refine call_meetsIn PySem.F.slot_dict_items rw0.ty PySem.F.entry_dict_items (PySem.F.args_dict_items_1 (_)) (yK5 hs) ⟨⟨es,ep,rw0⟩,?_⟩;refine⟨.ref _,_,I.laid (t':=s.toks) (o:=η s.heap.objs.size d) (fun b ob e=>Č _ e) (Ć _) ?_,rfl,q _ I.fresh⟩;exact⟨⟨_,ě _ rfl,rfl,rfl⟩,⟨_,ě _ rfl⟩,fun h1 h2 ⟨ob,e,c⟩ k=>⟨ob,k ob e,c⟩⟩
noncomputable def xK0 (tl:TE):TI:=fun σ H R=>tl σ H fun x H1=>∃v d u,x = .ref v /\ H1 v=some (η v d) /\ H1 d=some u /\ isDk u=true /\ ∀o ps,Pss H1 u ps->R (ItD d o u ps) (upd H1 d (.frz o u))
theorem zS0 {elts:List Expr}{kk:Nat}{pos:Pos}{l:Expr}{tl:TE}(hl:PE X l tl):PI X (.Tuple elts kk pos) l (xK0 tl):=by
 intro pins s σ H R I h;refine thn (hl pins s σ H _ I h) fun v s1 ⟨x,H1,I1,r1,q1⟩=>?_;obtain⟨vw,d,u,rfl,hv,hd,hu,q⟩:=q1;cases r1;obtain⟨o,es,ep,ps,g,ex,dat,hs,hps,rel⟩:=I1.raw hd hu;have hv':s1.heap.IsItemsView vw d:=(I1.hok vw _ hv).1;refine yS4 hv' ⟨o,g,ex,dat⟩ ?_;have I2:Inv X pins σ H1 _:=I1.kept (t':=s1.toks) (h':=s1.heap.push { cls:=.type "dict_itemiterator",data:=.fields #[.none,.bool false,.ref d,.int 0 0,.int es.size 0,.int ep 0,.none,.none] }) fun b ob e=>Č _ e;refine⟨s1.heap.objs.size,[s1.heap.objs.size],_,_,_,rfl,I2.freeze hd hu (Č _ g),yG6 ex dat rel,⟨_,_,ě _ rfl⟩,fun b hb=>?_,q o ps hps⟩;have e:b=s1.heap.objs.size:=by simpa using hb
 subst e;exact I1.fpOk (Ć _) (by rw[upd_ne (ê hd I1.fresh).symm];exact I1.fresh)
end
section
variable {prog:Program}{w:World}{A:Around}{E:Value->Shared->Prop}{s:Shared}{it d vw:Addr}{i ep:Nat}{es:Array DictEntry}
theorem yG9 (hd:(d==sysModules)=false):MeetsIn prog w (Builtin.«dict.values» ⟨[.ref d],[]⟩) (fun _ R s=>(∃es ep,RawD s.heap d es ep) /\ R (.ok (.ret (.ref s.heap.objs.size))) { s with heap:=s.heap.push { cls:=.type "dict_values",data:=.fields #[.ref d] } }) :=
 .of_wp fun A R s ⟨⟨es,ep,hm⟩,h⟩=>by
  refine wpAny_bind (?_);unfold Builtin.Dict.noArgs;refine wpAny_bind (wpAny_notOrdered_dict hm.ty ?_);show wpAny _ _ (pure d) _ _ s;refine wpAny_pure ?_;show wpAny _ _ (Builtin.Dict.showsAll d >>= _) _ _ s;unfold Builtin.Dict.showsAll;rw[if_neg (show ¬((d==sysModules)=true) by rw[hd];simp)];exact wpAny_bind (wpAny_pure (wpAny_bind (wpAny_newObj_type (wpAny_pure ⟨_,rfl,h⟩))))
theorem yK4 {Q:Value->Shared->Prop}(hv:s.heap.IsValuesView vw d)(hm:RawD s.heap d es ep)
  (q:Q (.ref s.heap.objs.size) { s with heap:=s.heap.push { cls:=.type "dict_valueiterator",data:=.fields #[.ref d,.int 0 0,.int es.size 0,.int ep 0] } }):wpAny (model prog w) A (pyIter (.ref vw)) Q E s:=by
 obtain⟨o1,g1,c1,f1⟩:=id hv;obtain⟨o2,g2,c2,f2⟩:=id hm;refine wpAny_pyIter_slot hv.typeIs F.slot_dict_values_iter (wpAny_call_entry F.slot_dict_values_iter hv.typeIs F.entry_dict_values_iter (?_) (F.args_dict_values_iter_1 (_)));unfold Builtin.«dict_values.__iter__» Builtin.Dict_items.dictOf Builtin.Dict_items.newIterator;refine wpAny_bind (wpAny_pure (wpAny_bind (wpAny_bind (wpAny_field g1 f1 (x:=.ref d) rfl (wpAny_pure (wpAny_bind (wpAny_bind (wpAny_dictEntries g2 f2 (wpAny_bind (wpAny_dictEpoch g2 f2 ?_))))))))));have hown:(Builtin.Dict_items.ownsTuple "dict_valueiterator")=false:=by decide
 simp only[hown,Bool.false_eq_true,if_false];refine wpAny_newObj_type (wpAny_pure ⟨_,rfl,"dict_valueiterator",_,⟨_,ě (_) rfl,rfl⟩,F.slot_dict_valueiterator_next.lookup,(?_)⟩);simpa[rawInt] using q
theorem yK3 {Q:Option Value->Shared->Prop}(hit:s.heap.IsValIter it d i es.size ep)(hm:RawD s.heap d es ep)(hi:i<es.size)
  (q:∀h',h'.IsValIter it d (i+1) es.size ep->Heap.SameBut it s.heap h'->Q (some es[i].val) { s with heap:=h' }):wpAny (model prog w) A (pyNext (.ref it)) Q E s:=by
 obtain⟨o,ho,hc,hd⟩:=id hit;obtain⟨o2,g2,c2,f2⟩:=id hm;have hown:(Builtin.Dict_items.ownsTuple "dict_valueiterator")=false:=by decide
 unfold pyNext;refine wpAny_bind (wpAny_attempt (wpAny_callSpecial?_slot (name:=Str.ofString "__next__") hit.typeIs F.slot_dict_valueiterator_next (wpAny_call_entry F.slot_dict_valueiterator_next hit.typeIs F.entry_dict_valueiterator_next ?_ (F.args_dict_valueiterator_next_1 _))));refine wpAny_bind (wpAny_pure (wpAny_bind (wpAny_bind ?_)))
 first | refine wpAny_bind (wpAny_typeNameOfWhole_valiter hit.typeIs (wpAny_pure (wpAny_bind (wpAny_fieldsOf ho hd ?_)))) | refine wpAny_bind (wpAny_typeNameOf_valiter hit.typeIs (wpAny_pure (wpAny_bind (wpAny_fieldsOf ho hd ?_))))
 simp only[hown,Bool.false_eq_true,if_false];show wpAny _ _ (if (Value.ref d == .none)=true then _ else _) _ _ _;rw[if_neg (show ¬((Value.ref d == .none)=true) from Ď)];refine wpAny_bind (wpAny_pure (wpAny_bind (wpAny_dictEntries g2 f2 ?_)));rw[if_neg (show ¬_ by simp)];refine wpAny_bind (wpAny_pure (wpAny_bind (wpAny_dictEpoch g2 f2 ?_)));rw[if_neg (show ¬_ by simp)];refine wpAny_pure ?_;simp only[show ¬((i:Int)<0) by lia,if_false,ń,Array.getElem?_eq_getElem hi];refine wpAny_bind ?_
 first | refine wpAny_bind (wpAny_typeNameOfWhole_valiter hit.typeIs (wpAny_pure (wpAny_bind (wpAny_isOneOf_valiter hit.typeIs ?_)))) | refine wpAny_bind (wpAny_typeNameOf_valiter hit.typeIs (wpAny_pure (wpAny_bind (wpAny_isOneOf_valiter hit.typeIs ?_))))
 show wpAny _ _ (setField (.ref it) 1 (rawInt ((i:Int)+1)) >>= _) _ _ (s);have st:(s.heap.update it (Obj.mapFields (·.setIfInBounds 1 (rawInt ((i:Int)+1))))).IsValIter it d (i+1) es.size ep:=⟨_,Heap.get?_update_self _ ho (Obj.isFreed_of_fields (Obj.data_mapFields hd _)),(Obj.cls_mapFields ..).trans hc,by rw[Obj.data_mapFields hd];simp[rawInt]⟩;refine wpAny_bind (wpAny_setField ho hd (by simp) (wpAny_bind (wpAny_holding (wpAny_bind (wpAny_isOneOf_valiter (s:={ s with heap:=s.heap.update it (Obj.mapFields (·.setIfInBounds 1 (rawInt ((i:Int)+1)))) }) st.typeIs (wpAny_bind (wpAny_isOneOf_valiter (s:={ s with heap:=s.heap.update it (Obj.mapFields (·.setIfInBounds 1 (rawInt ((i:Int)+1)))) }) st.typeIs ?_)))))));show wpAny _ _ (pure es[i].val) _ _ (_);exact wpAny_pure (wpAny_pure ⟨_,rfl,wpAny_pure (q _ st (Heap.SameBut.update ..))⟩)
theorem yS2 {Q:Option Value->Shared->Prop}(hh:A.handled=none)(hit:s.heap.IsValIter it d i es.size ep)(hm:RawD s.heap d es ep)(hi:es.size<=i)
  (q:∀h',Heap.ExtBut it s.heap h'->Q none { s with heap:=h' }):wpAny (model prog w) A (pyNext (.ref it)) Q E s:=by
 obtain⟨o,ho,hc,hd⟩:=id hit;obtain⟨o2,g2,c2,f2⟩:=id hm;have hown:(Builtin.Dict_items.ownsTuple "dict_valueiterator")=false:=by decide
 unfold pyNext;refine wpAny_bind (wpAny_attempt (wpAny_callSpecial?_slot (name:=Str.ofString "__next__") hit.typeIs F.slot_dict_valueiterator_next (wpAny_call_entry F.slot_dict_valueiterator_next hit.typeIs F.entry_dict_valueiterator_next ?_ (F.args_dict_valueiterator_next_1 _))));refine wpAny_bind (wpAny_pure (wpAny_bind (wpAny_bind ?_)))
 first | refine wpAny_bind (wpAny_typeNameOfWhole_valiter hit.typeIs (wpAny_pure (wpAny_bind (wpAny_fieldsOf ho hd ?_)))) | refine wpAny_bind (wpAny_typeNameOf_valiter hit.typeIs (wpAny_pure (wpAny_bind (wpAny_fieldsOf ho hd ?_))))
 simp only[hown,Bool.false_eq_true,if_false];show wpAny _ _ (if (Value.ref d == .none)=true then _ else _) _ _ _;rw[if_neg (show ¬((Value.ref d == .none)=true) from Ď)];refine wpAny_bind (wpAny_pure (wpAny_bind (wpAny_dictEntries g2 f2 ?_)));rw[if_neg (show ¬_ by simp)];refine wpAny_bind (wpAny_pure (wpAny_bind (wpAny_dictEpoch g2 f2 ?_)));rw[if_neg (show ¬_ by simp)];refine wpAny_pure ?_;simp only[show ¬((i:Int)<0) by lia,if_false,ń,Array.getElem?_eq_none hi];refine wpAny_bind ?_
 first | refine wpAny_bind (wpAny_typeNameOfWhole_valiter hit.typeIs (wpAny_pure (?_))) | refine wpAny_bind (wpAny_typeNameOf_valiter hit.typeIs (wpAny_pure (?_)))
 show wpAny _ _ (setField (.ref it) 0 .none >>= _) _ _ (s);refine wpAny_bind (wpAny_setField ho hd (by simp) (show wpAny _ _ (newExc (.type "StopIteration") [] >>= _) _ _ _ from wpAny_bind ?_));simp only[newExc,newTuple];refine wpAny_bind (wpAny_newObj_type (wpAny_bind (m:=firstArgMember _ _) (wpAny_of_eq (a:=Value.none) (by first | rfl | (simp only[firstArgMember];rfl)) (wpAny_newObj_type ?_ (by size_fits)))) (by size_fits));simp only[raiseNew];refine wpAny_bind (wpAny_handled ?_);rw[show (Around.in1 A).handled=none from hh];refine wpAny_bind (wpAny_pure (wpAny_throw (?_)));refine wpAny_bind (wpAny_isInstance (b:=true) (T:="StopIteration") ⟨_,ě _ rfl,rfl⟩ isSubtype_stop (?_));exact wpAny_pure (q _ (((Heap.SameBut.update ..).extBut.push _).push _))
theorem yG4 (hh:A.handled=none)(I d:Addr)(hne:d≠I)(es:Array DictEntry)(ep:Nat):Walks prog w A I [I,d] [I] es.size (fun i v=>∃e,es[i]?=some e /\ v=e.val) (fun i h=>h.IsValIter I d i es.size ep /\ RawD h d es ep) where
 sub:=fun b hb=>by simp at hb;simp[hb]
 frame:=fun _ _ _ st k=>⟨st.1.at fun o e=>k I (by simp) o e,st.2.at fun o e=>k d (by simp) o e⟩
 item:=fun i s Q E hi st q=>yK3 st.1 st.2 hi fun h' st' sb=>q _ h' s.toks ⟨es[i],by simp[hi],rfl⟩ ⟨st',st.2.at fun o e=>sb.extBut d o hne e⟩ fun b o hb e=>sb.extBut b o (fun z=>hb (by simp[z])) e
 done:=fun s Q E st q=>yS2 hh st.1 st.2 (Ć _) fun h' eb=>q h' s.toks fun b o hb e=>eb b o (fun z=>hb (by simp[z])) e
 self:=fun _ _ _ _ st q=>wpAny_pyIter_valiter st.1 q
theorem yR6:PySem.W.KdlSrc prog w "dict_values" vw d es.size (fun i v=>∃e,es[i]?=some e /\ v=e.val) (fun h=>h.IsValuesView vw d /\ RawD h d es ep) where
 type:=fun _ hm=>hm.1.typeIs
 there:=fun _ hm=>⟨let ⟨_,ho,_⟩:=hm.1;ċ ho,let ⟨_,ho,_⟩:=hm.2;ċ ho⟩
 keep:=fun _ _ hm k=>⟨let ⟨o,ho,x⟩:=hm.1;⟨o,k vw (.inl rfl) o ho,x⟩,hm.2.at fun o e=>k d (.inr rfl) o e⟩
 notList:=by decide
 notTuple:=by decide
 hint:=fun _ _ _ _ hm q=>PySem.W.kdl_hint_values hm.1.typeIs q
 iter:=fun _ _ hh hm=>⟨_,_,(fun _ _ q=>yK4 hm.1 hm.2 q),yG4 hh _ d (Ķ (let ⟨_,ho,_⟩:=hm.2;ċ ho)) es ep,⟨⟨_,ě _ rfl,rfl,rfl⟩,hm.2.at fun o e=>Č _ e⟩⟩
end
section
variable {X:Cx}{K:Ā}
noncomputable def zZ3 (v d:Addr):HO:=.ext fun h=>h.IsValuesView v d
noncomputable def xN2:V->List V->Hp->VK->Prop:=fun x vs H Q=>∃d u,x = .ref d /\ vs=[] /\ H d=some u /\ isDk u=true /\ ∀p,H p=none->Q (.ref p) (upd H p (zZ3 p d))
theorem xC4:MtR X "dict.values" xN2:=by
 intro pins s σ H x xs v us Q I rx rv h;obtain⟨d,u,rfl,rfl,hd,hu,q⟩:=h;cases rx;cases rv;obtain⟨o,es,ep,ps,g,ex,dat,hs,_,_⟩:=I.raw hd hu;have rw0:RawD s.heap d es ep:=⟨o,g,ex,dat⟩;refine call_meetsIn PySem.F.slot_dict_values rw0.ty PySem.F.entry_dict_values (PySem.F.args_dict_values_1 (_)) (yG9 hs) ⟨⟨es,ep,rw0⟩,?_⟩;refine⟨.ref _,_,I.laid (t':=s.toks) (o:=zZ3 s.heap.objs.size d) (fun b ob e=>Č _ e) (Ć _) ?_,rfl,q _ I.fresh⟩;exact⟨⟨_,ě _ rfl,rfl,rfl⟩,⟨_,ě _ rfl⟩,fun h1 h2 ⟨ob,e,c⟩ k=>⟨ob,k ob e,c⟩⟩
theorem xK9 {H:Hp}{u:HO}{ps:List (V×V)}(h:Pss H u ps):isDk u=true->∀{X:Cx} {pins:List (Addr×Obj)} {σ:St} {s:Shared} {d:Addr},Inv X pins σ H s->H d=some u->ps.length<=sizeLine:=by
 intro hu X pins σ s d I hd;have ok:=I.hok d u hd;cases u with
 | dK kvs=>obtain⟨z,_⟩:=ok;have h:ps=_:=h;rw[h,ą];exact z
 | dT kvs=>obtain⟨z,_⟩:=ok;have h:Paired _ kvs ps:=h;rw[<- h.length];exact z
 | _=>cases hu
theorem zQ0 (hc:X.calm=true):δ X (.type "list") (fun xs H Q=>∃v d u,xs=[V.ref v] /\ H v=some (zZ3 v d) /\ H d=some u /\ isDk u=true /\ ∀ps,Pss H u ps->∀l,H l=none->Q (.ref l) (upd H l (.lst (ps.map (·.2))))):=by
 intro pins s σ H xs us Q I r h;obtain⟨v,d,u,rfl,hv,hd,hu,q⟩:=h;obtain⟨w0,rfl,rw0⟩:=τ r;cases rw0;obtain⟨o,es,ep,ps,g,ex,dat,hs,hps,rel⟩:=I.raw hd hu;have hl:=xK9 hps hu I hd;have hlen:ps.length=es.size:=by rw[rel.length];simp
 refine PySem.W.kdl_call (yR6 (es:=es) (ep:=ep)) (I.ok.hd hc) ⟨(I.hok v _ hv).1,⟨o,g,ex,dat⟩⟩ (by lia) fun h' tk acc c kk hD hacc=>?_;have vr:Vals (ps.map (·.2)) acc.toList:=by
  have e1:acc.toList=es.toList.map (·.val):=by
   apply List.ext_getElem?;intro j;rw[č]
   by_cases hj:j<es.size
   ·have hj2:j<acc.size:=by rw[hacc.1];exact hj
    obtain⟨e,he,hv⟩:=hacc.2 j acc[j] (by simp[hj2]);have e2:es.toList[j]?=some e:=by simpa using he
    rw[e2];simp[hj2,hv]
   ·have hj2:¬j<acc.size:=by rw[hacc.1];exact hj
    rw[Ġ (by simp;lia),Ġ (by simp;lia)];rfl
  rw[e1];clear hlen hl hps e1 hacc;generalize es.toList=el at rel
  induction rel with
  | nil=>exact .nil
  | cons h t ih=>exact .cons h.2 ih
 refine⟨.ref _,_,I.laid (a:=s.heap.objs.size) (o:=.lst (ps.map (·.2))) (t':=tk) kk (Ć _) ⟨by rw[ą];exact hl,acc.toList,c,vr,by simpa using hD⟩,rfl,q ps hps _ I.fresh⟩
end
theorem zS1 {X:Cx}{K:Ā}{o:Expr}{to:TE}{name:Str}{apos cpos:Pos}{T id:String}{r:V->List V->Hp->VK->Prop}(h:X.K=K)(pa:PlainAttrs T)(slot:Slot T name id)(hty:typeOf (.builtin id)=pure (.type "method_descriptor"))(hm:MtR X id r)(ho:PE X o to)
  (hbase:attributeBase o name X.env (eval o X.env)=eval o X.env:=by rfl)(hline:(apos.endLine==cpos.line)=true:=by rfl):PE X (.Call (.Attribute o name apos) [] [] cpos) (tBM0 K T r to):=by subst h;exact xH5 pa slot hty hm ho hbase hline
theorem yO4 {d:Addr}{o:Obj}{u:HO}{ps:List (V×V)}{g:TG}{tb:TS}{D:Ends}{σ:St}{H:Hp}(Pv:Nat->St->Hp->Prop)(h0:Pv 0 σ H)(hf:∀i σ H,Pv i σ H->H d=some (.frz o u))
  (hs:∀i k v T σ H,ps[i]?=some (k,v)->Pv i σ H->H T=none->g (.ref T) σ (upd H T (.tup [k,v])) fun σ2 H2=>tb { D with nx:=Pv (i+1),ct:=Pv (i+1),bk:=D.nx } σ2 H2)(hd:∀σ H,Pv ps.length σ H->D.nx σ H) :
  ∃W:Nat->Nat->St->Hp->Prop,(∃m,W 0 m σ H) /\ ∀i m σ H,W i m σ H->((ItD d o u ps).stop i H /\ D.nx σ H) \/ ((ItD d o u ps).go i H /\ ∃N:St->Hp->Prop,(∀σ' H',N σ' H'->∃m',m'<m /\ W (i+1) m' σ' H') /\
   ∀x H',(ItD d o u ps).yld i H x H'->g x σ H' fun σ2 H2=>tb { D with nx:=N,ct:=N,bk:=D.nx } σ2 H2):=by
 refine⟨fun i m σ H=>m=ps.length - i /\ i<=ps.length /\ Pv i σ H,⟨_,rfl,Ń _,h0⟩,?_⟩;rintro i m σ H ⟨rfl,hi,p⟩
 by_cases hlt:i<ps.length
 ·refine .inr ⟨⟨hlt,hf i σ H p⟩,Pv (i+1),fun σ' H' p'=>⟨ps.length - (i+1),by lia,rfl,hlt,p'⟩,fun x H' y=>?_⟩;obtain⟨k,v,T,hk,e1,hT,e2⟩:=y;subst e1 e2;exact hs i k v T σ H hk p hT
 ·have e:i=ps.length:=by lia
  subst e;exact .inl ⟨⟨rfl,hf _ σ H p⟩,hd σ H p⟩
end L2
namespace Tc
section
variable {α:Type}[DecidableEq α]
noncomputable def dlt (n:α):α->Rat:=fun z=>if z=n then 1 else 0
theorem χ {P:Nat}(h:0<P):(P:Rat)≠0:=by
 intro e;have:(P:Rat)=((0:Nat):Rat):=e;have:=Rat.natCast_inj.mp this;lia
theorem Χ (t:Rat):t*(t.den:Rat)=(t.num:Rat):=by
 have h:=ġ t;rw[Ħ,Ĝ]at h;have:=χ t.den_pos
 grind
noncomputable def sumL (L:List α)(f:α->Rat):Rat:=(L.map f).foldl (·+·) 0
theorem yI2 (rs:List Rat)(a:Rat):rs.foldl (·+·) a=a+rs.foldl (·+·) 0:=by
 induction rs generalizing a with
 | nil=>simp[Rat.add_zero]
 | cons r rs ih =>
  rw[List.foldl_cons,List.foldl_cons,ih (a+r),ih (0+r),Rat.zero_add,Rat.add_assoc]
theorem yD8 (f:α->Rat):sumL [] f=0:=rfl
theorem ä (z:α)(L:List α)(f:α->Rat):sumL (z::L) f=f z+sumL L f:=by
 unfold sumL;rw[ľ,List.foldl_cons,yI2,Rat.zero_add]
theorem zM4 (z:α)(L:List α)(f:α->Rat):sumL (L++[z]) f=sumL L f+f z:=by
 unfold sumL;rw[ė,List.foldl_append];rfl
theorem zH8 (L:List α)(f:α->Rat)(h:∀z∈L,f z=0):sumL L f=0:=by
 induction L with
 | nil=>rfl
 | cons z L ih=>rw[ä,h z Ĉ,ih fun y hy=>h y (ć _ hy),Rat.add_zero]
theorem zG4 {L:List α}{z:α}(h:z∈L)(f:α->Rat):sumL L f=f z+sumL (L.erase z) f:=by
 induction L with
 | nil=>simp at h
 | cons y L ih =>
  rw[List.erase_cons]
  by_cases e:y=z
  ·subst e;simp[ä]
  ·have hz:z∈L:=by
    rcases Ė.mp h with q | q
    ·exact absurd q.symm e
    ·exact q
   have:¬(y==z)=true:=by simpa using e
   rw[if_neg this,ä,ä,ih hz];grind
theorem zI5:∀{L ks:List α},ks.Nodup->(∀z∈ks,z∈L)->ks.length<=L.length
 | L,[],_,_=>by simp
 | L,k::ks,hk,h=>by
  rw[ō]at hk;have hm:=h k Ĉ;have:=zI5 (L:=L.erase k) (ks:=ks) hk.2 fun z hz=>by
   refine(List.mem_erase_of_ne ?_).mpr (h z (ć _ hz));rintro rfl;exact hk.1 hz
  rw[List.length_erase_of_mem hm]at this;have hp:=List.length_pos_of_mem hm;rw[ī];lia
theorem xG9 {a:Rat}(h:0<=a)(n:a≠0):0<a:=by grind
end
end Tc
namespace L2
open PySem PySem.Spec PyProof.Rows
theorem zY5:bootBuiltins "enumerate" = some (.type "enumerate"):=by decide +kernel
section
variable {X:Cx}{pins:List (Addr×Obj)}{σ:St}{H:Hp}{s:Shared}{h':Heap}
theorem Inv.turns {t':Nat}{ch:List Addr}(I:Inv X pins σ H s)(k:∀b o,b∉ch->s.heap.get? b=some o->h'.get? b=some o)(hf:∀b∈ch,FpOk X pins H b):Inv X pins σ H { s with heap:=h',toks:=t' }:=by
 have nit:∀b u,H b=some u->b∉ch:=fun b u e z=>by rw[(hf b z).1]at e;cases e
 refine I.step (g':=s.gens) (d':=s.drawn) (ch:=ch) (fun b hb=>?_) (fun b o _ _ hc e _=>k b o hc e) (fun b o _ _ hc e _=>⟨o.slots,k b o hc e⟩) (fun _ _ _ _ n=>n) (fun b o hc e=>⟨o,k b o hc e⟩) (fun _ _ e=>e) (fun _ _ _ e=>e) (fun b ps e=>⟨#[],by rw[e];simp⟩) (fun m hm=>?_) (fun b u e=>?_) I.bare
 ·obtain⟨f0,f1,f2,f3,f4,f5⟩:=hf b hb;exact⟨f3,f1,f4,f5⟩
 ·obtain⟨o,es,ep,ho,r⟩:=hm;exact⟨o,es,ep,k _ o (fun z=>(hf _ z).2.1 rfl) ho,r⟩
 ·refine(I.hok b u e).stay (fun c v hc q=>k c v ?_ q) (fun _ q=>q) fun _ _ q=>q;rcases hc with z | z
  ·rw[z];exact nit b u e
  ·exact nit c _ z
end
noncomputable def ItE (K:Ā)(a:Addr)(xs:List V):It :=
 ⟨fun i H=>i<xs.length /\ SqL K H a xs,fun i H x H'=>∃v T,xs[i]?=some v /\ x = .ref T /\ H T=none /\ H'=upd H T (.tup [.int (i:Nat),v]),fun i H=>i=xs.length /\ SqL K H a xs⟩
theorem yI9 {P:Program}{w:World}{K:Ā}{elts:List Expr}{kk:Nat}{pos:Pos}(a e li:Addr)(xs:List V)(hne:e≠li) :
  Turn P w K (.Tuple elts kk pos) (ItE K a xs) [e,li] e (fun i h=>∃old,IsEnum h e li ((i:Nat):Int) old /\ h.IsListIter li a i) where
 mem:=by simp
 obj:=fun i h st b hb=>by
  obtain⟨old,s1,o,e2,c,d⟩:=st;simp only[Ė,Ő,or_false]at hb;rcases hb with rfl | rfl
  ·exact⟨_,s1,fun v z=>by cases z⟩
  ·exact⟨o,e2,fun v z=>by rw[d]at z;cases z⟩
 keep:=fun i h h' st k=>let ⟨old,s1,s2⟩:=st;⟨old,k e (by simp) _ s1,s2.at fun o eo=>k li (by simp) o eo⟩
 item:=by
  intro X hP hw hK hc i pins s σ H E I hf st hg;subst hP hw hK;obtain⟨old,st1,st2⟩:=st;obtain⟨hi,hq⟩:=hg;obtain⟨its,rv,p,hz⟩:=I.list hq;have hx:xs[i]?=some xs[i]:=by simp[hi]
  obtain⟨u,hu,ru⟩:=rv.get hx;refine wpAny_pyNext_enum_item st1 st2 p.isList (x:=u) (by simpa using hu) hne fun h' jo jl ht hz' kp=>?_;refine⟨_,rfl,wpAny_letOwnedTupleGo_enum jo fun h2 he2 sb=>?_⟩;have sb:Heap.SameBut e h' h2:=sb;have nTe:s.heap.objs.size≠e:=ŧ (ċ st1);have nTl:s.heap.objs.size≠li:=by
   obtain⟨o,e2,_⟩:=id st2;exact ŧ (ċ e2)
  have I1:Inv X pins σ H { s with heap:=h2,toks:=s.toks+1 }:=I.turns (ch:=[e,li]) (fun b o hb eo=>sb.extBut b o (fun z=>hb (by simp[z])) (kp b o (fun z=>hb (by simp[z])) (fun z=>hb (by simp[z])) eo)) hf;have hT2:h2.get? s.heap.objs.size=some { cls:=.type "tuple",data:=.seq #[.int i s.toks,u] }:=sb.extBut _ _ nTe ht;obtain⟨g0,g1,_,_,g4,g5⟩:=I.fpOk (Ć _) I.fresh;have I2:=I1.track (a:=s.heap.objs.size) (o:=.tup [.int (i:Nat),xs[i]]) g0 (by
   cases q:X.s₀.heap.get? s.heap.objs.size with
   | none=>rfl
   | some ob=>exact absurd (Ă (ċ q) I.sz) (ĸ _)) g1 g4 g5 ⟨zI1 (by simp) |> Ĩ,[.int i s.toks,u],.cons ⟨_,rfl⟩ (.cons ru .nil),⟨_,hT2,rfl,_,rfl⟩⟩
  refine⟨.ref _,_,I2,rfl,⟨xs[i],_,hx,rfl,g0,rfl⟩,⟨_,he2,jl.extBut sb.extBut hne.symm⟩,fun b hb=>?_⟩;have nb:b≠s.heap.objs.size:=by
   simp only[Ė,Ő,or_false]at hb;rcases hb with rfl | rfl
   ·exact nTe.symm
   ·exact nTl.symm
  rw[upd_ne nb];exact(hf b hb).1
 done:=by
  intro X hP hw hK hc i pins s σ H E I hf st hg;subst hP hw hK;obtain⟨old,st1,st2⟩:=st;obtain⟨hi,hq⟩:=hg;obtain⟨its,rv,p,hz⟩:=I.list hq;have hl:=rv.length;exact wpAny_pyNext_enum_end (I.ok.hd hc) st1 st2 p.isList (by simp;lia) fun h' eb=>⟨rfl,I.turns (t':=s.toks) (ch:=[e,li]) (fun b o hb eo=>eb b o (fun z=>hb (by simp[z])) eo) hf⟩
 self:=fun A i s Q E st h=>let ⟨_,st1,_⟩:=st;wpAny_pyIter_enum st1 h
section
variable {X:Cx}{K:Ā}
noncomputable def xO0 (K:Ā)(ta:TA):TI:=fun σ H R=>ta σ H fun vs H1=>∃a xs,vs=[V.ref a] /\ SqL K H1 a xs /\ R (ItE K a xs) H1
theorem zH5 {elts:List Expr}{kk:Nat}{tpos:Pos}{a:Expr}{ta:TA}{p pos:Pos}(hK:X.K=K)(hg:Gl X "enumerate")(hm:X.mg "enumerate" = none)(ha:PA X [a] ta)(hs:starEach [a] X.env=[(false,eval a X.env)]:=by rfl):PI X (.Tuple elts kk tpos) (.Call (.Name "enumerate" p) [a] [] pos) (xO0 K ta):=by
 subst hK;intro pins s σ H R I h;refine Call_ (π I hg hm zY5 (PyProof.Rows.callWith_type1 (thn (ha pos pins s σ H _ I h) fun us s1 ⟨vs,H1,I1,r1,q1⟩=>?_) hs rfl));obtain⟨b,xs,rfl,hq,q⟩:=q1;obtain⟨u,rfl,ru⟩:=τ r1;cases ru;obtain⟨its,rv,p,hz⟩:=I1.list hq;refine call_enumerate_list p.isList fun h' he hl hz kk=>wpAny_pyIter_enum he ?_;refine⟨s1.heap.objs.size+1,[s1.heap.objs.size+1,s1.heap.objs.size],_,_,H1,rfl,I1.kept (t':=s1.toks) kk,yI9 b (s1.heap.objs.size+1) s1.heap.objs.size xs (Nat.succ_ne_self _),⟨_,he,hl⟩,fun c hc=>?_,q⟩;simp only[Ė,Ő,or_false]at hc;rcases hc with rfl | rfl
 ·exact I1.fpOk (by lia) (I1.hok.fresh (by lia))
 ·exact I1.fpOk (Ć _) (I1.hok.fresh (Ć _))
end
theorem zD6 {K:Ā}{a:Addr}{xs:List V}{g:TG}{tb:TS}{D:Ends}{σ:St}{H:Hp}(Pv:Nat->St->Hp->Prop)(h0:Pv 0 σ H)(hl:∀i σ H,i<=xs.length->Pv i σ H->SqL K H a xs)
  (hs:∀i v T σ H,xs[i]?=some v->Pv i σ H->H T=none->g (.ref T) σ (upd H T (.tup [.int (i:Nat),v])) fun σ2 H2=>tb { D with nx:=Pv (i+1),ct:=Pv (i+1),bk:=D.nx } σ2 H2)(hd:∀σ H,Pv xs.length σ H->D.nx σ H) :
  ∃W:Nat->Nat->St->Hp->Prop,(∃m,W 0 m σ H) /\ ∀i m σ H,W i m σ H->((ItE K a xs).stop i H /\ D.nx σ H) \/ ((ItE K a xs).go i H /\ ∃N:St->Hp->Prop,(∀σ' H',N σ' H'->∃m',m'<m /\ W (i+1) m' σ' H') /\
   ∀x H',(ItE K a xs).yld i H x H'->g x σ H' fun σ2 H2=>tb { D with nx:=N,ct:=N,bk:=D.nx } σ2 H2):=by
 refine⟨fun i m σ H=>m=xs.length - i /\ i<=xs.length /\ Pv i σ H,⟨_,rfl,Ń _,h0⟩,?_⟩;rintro i m σ H ⟨rfl,hi,p⟩;have q:=hl i σ H hi p
 by_cases hlt:i<xs.length
 ·refine .inr ⟨⟨hlt,q⟩,Pv (i+1),fun σ' H' p'=>⟨xs.length - (i+1),by lia,rfl,hlt,p'⟩,fun x H' y=>?_⟩;obtain⟨v,T,hv,e1,hT,e2⟩:=y;subst e1 e2;exact hs i v T σ H hv p hT
 ·have e:i=xs.length:=by lia
  subst e;exact .inl ⟨⟨rfl,q⟩,hd σ H p⟩
theorem xL3:bootBuiltins "zip" = some (.type "zip"):=by decide +kernel
theorem z_ne {x y:Nat}(h:¬x=y):(x:Addr)≠(y:Addr):=h
noncomputable def ItZ (K:Ā)(a b:Addr)(xs ys:List V):It :=
 ⟨fun i H=>i<xs.length /\ i<ys.length /\ SqL K H a xs /\ SqL K H b ys,fun i H x H'=>∃v u T,xs[i]?=some v /\ ys[i]?=some u /\ x = .ref T /\ H T=none /\ H'=upd H T (.tup [v,u]),fun i H=>(i=xs.length \/ i=ys.length) /\ SqL K H a xs /\ SqL K H b ys⟩
theorem ŵ {h:Heap}{l c:Addr}{its:Array Value}{o:Obj}(hl:h.IsList l its)(hc:h.get? c=some o)(n:o.cls ≠ .type "list"):l≠c:=by
 intro e;subst e;obtain⟨o',e1,e2,_⟩:=hl;rw[hc]at e1;cases e1;exact n e2
theorem yR3 {P:Program}{w:World}{K:Ā}{elts:List Expr}{kk:Nat}{pos:Pos}(a b:Addr)(n:Nat)(xs ys:List V) :
  Turn P w K (.Tuple elts kk pos) (ItZ K a b xs ys) [n+4,n+2,n+3,n,n+1] (n+4) (fun i h=>IsZip h (n+4) (n+2) (n+3) .none /\ IsPair h (n+2) (.ref n) (.ref (n+1)) /\ (∃u v,IsPair h (n+3) u v) /\ h.IsListIter n a i /\ h.IsListIter (n+1) b i) where
 mem:=by simp
 obj:=fun i h st c hb=>by
  obtain⟨hz,hTI,⟨u,v,hTO⟩,⟨o1,e1,_,d1⟩,⟨o2,e2,_,d2⟩⟩:=st;simp only[Ė,Ő,or_false]at hb;rcases hb with rfl | rfl | rfl | rfl | rfl
  ·exact⟨_,hz,fun v z=>by cases z⟩
  ·exact⟨_,hTI,fun v z=>by cases z⟩
  ·exact⟨_,hTO,fun v z=>by cases z⟩
  ·exact⟨_,e1,fun v z=>by rw[d1]at z;cases z⟩
  ·exact⟨_,e2,fun v z=>by rw[d2]at z;cases z⟩
 keep:=fun i h h' st k=>by
  obtain⟨hz,hTI,⟨u,v,hTO⟩,h1,h2⟩:=st;exact⟨k _ (by simp) _ hz,k _ (by simp) _ hTI,⟨u,v,k _ (by simp) _ hTO⟩,h1.at fun o e=>k _ (by simp) o e,h2.at fun o e=>k _ (by simp) o e⟩
 item:=by
  intro X hP hw hK hc i pins s σ H E I hf st hg;subst hP hw hK;obtain⟨hz,hTI,⟨u0,v0,hTO⟩,h1,h2⟩:=st;obtain⟨hi,hj,hq1,hq2⟩:=hg;obtain⟨its1,rv1,p1,_⟩:=I.list hq1;obtain⟨its2,rv2,p2,_⟩:=I.list hq2;obtain⟨u,hu,ru⟩:=rv1.get (show xs[i]?=some xs[i] by simp[hi]);obtain⟨u',hu',ru'⟩:=rv2.get (show ys[i]?=some ys[i] by simp[hj]);obtain⟨o1,e1,c1,d1⟩:=id h1;obtain⟨o2,e2,c2,d2⟩:=id h2;have D:ZipApart (n+4) (n+2) (n+3) n (n+1) a b:=⟨z_ne (by lia),z_ne (by lia),z_ne (by lia),z_ne (by lia),z_ne (by lia),z_ne (by lia),z_ne (by lia),z_ne (by lia),z_ne (by lia),z_ne (by lia),ŵ p1.isList hz (show (Value.type "zip":Value) ≠ .type "list" by decide),ŵ p1.isList hTO (show (Value.type "tuple":Value) ≠ .type "list" by decide),ŵ p1.isList e1 (by rw[c1];decide),ŵ p1.isList e2 (by rw[c2];decide),ŵ p2.isList hz (show (Value.type "zip":Value) ≠ .type "list" by decide),ŵ p2.isList hTO (show (Value.type "tuple":Value) ≠ .type "list" by decide),ŵ p2.isList e1 (by rw[c1];decide),ŵ p2.isList e2 (by rw[c2];decide)⟩;refine wpAny_pyNext_zip_item D hz hTI hTO h1 h2 p1.isList p2.isList (x:=u) (y:=u') (by simpa using hu) (by simpa using hu') fun h' jz jo j1 j2 ht hsz kp=>?_;refine⟨_,rfl,wpAny_letOwnedTupleGo_zip jz fun h2' he2 sb=>?_⟩;have sb:Heap.SameBut (n+4) h' h2':=sb;have lt:∀{c o},s.heap.get? c=some o->s.heap.objs.size≠c:=fun e=>ŧ (ċ e);have I1:Inv X pins σ H { s with heap:=h2',toks:=s.toks }:=I.turns (ch:=[n+4,n+2,n+3,n,n+1]) (fun c o hb eo=>sb.extBut c o (fun z=>hb (by simp[z])) (kp c o (fun z=>hb (by simp[z])) (fun z=>hb (by simp[z])) (fun z=>hb (by simp[z])) (fun z=>hb (by simp[z])) eo)) hf;have hT2:h2'.get? s.heap.objs.size=some { cls:=.type "tuple",data:=.seq #[u,u'] }:=sb.extBut _ _ (lt hz) ht;obtain⟨g0,g1,_,_,g4,g5⟩:=I.fpOk (Ć _) I.fresh;have I2:=I1.track (a:=s.heap.objs.size) (o:=.tup [xs[i],ys[i]]) g0 (by
   cases q:X.s₀.heap.get? s.heap.objs.size with
   | none=>rfl
   | some ob=>exact absurd (Ă (ċ q) I.sz) (ĸ _)) g1 g4 g5 ⟨zI1 (by simp) |> Ĩ,[u,u'],.cons ru (.cons ru' .nil),⟨_,hT2,rfl,_,rfl⟩⟩
  refine⟨.ref _,_,I2,rfl,⟨xs[i],ys[i],_,(by simp[hi]),(by simp[hj]),rfl,g0,rfl⟩,⟨he2,sb.extBut _ _ D.TIz (kp _ _ D.TIz D.TITO D.TIi1 D.TIi2 hTI),⟨_,_,sb.extBut _ _ D.TOz jo⟩,j1.extBut sb.extBut D.i1z,j2.extBut sb.extBut D.i2z⟩,fun c hb=>?_⟩;have nb:c≠s.heap.objs.size:=by
   simp only[Ė,Ő,or_false]at hb;rcases hb with rfl | rfl | rfl | rfl | rfl
   ·exact(lt hz).symm
   ·exact(lt hTI).symm
   ·exact(lt hTO).symm
   ·exact(lt e1).symm
   ·exact(lt e2).symm
  rw[upd_ne nb];exact(hf c hb).1
 done:=by
  intro X hP hw hK hc i pins s σ H E I hf st hg;subst hP hw hK;obtain⟨hz,hTI,⟨u0,v0,hTO⟩,h1,h2⟩:=st;obtain⟨hi,hq1,hq2⟩:=hg;obtain⟨its1,rv1,p1,_⟩:=I.list hq1;obtain⟨its2,rv2,p2,_⟩:=I.list hq2;obtain⟨o1,e1,c1,d1⟩:=id h1;obtain⟨o2,e2,c2,d2⟩:=id h2;have D:ZipApart (n+4) (n+2) (n+3) n (n+1) a b:=⟨z_ne (by lia),z_ne (by lia),z_ne (by lia),z_ne (by lia),z_ne (by lia),z_ne (by lia),z_ne (by lia),z_ne (by lia),z_ne (by lia),z_ne (by lia),ŵ p1.isList hz (show (Value.type "zip":Value) ≠ .type "list" by decide),ŵ p1.isList hTO (show (Value.type "tuple":Value) ≠ .type "list" by decide),ŵ p1.isList e1 (by rw[c1];decide),ŵ p1.isList e2 (by rw[c2];decide),ŵ p2.isList hz (show (Value.type "zip":Value) ≠ .type "list" by decide),ŵ p2.isList hTO (show (Value.type "tuple":Value) ≠ .type "list" by decide),ŵ p2.isList e1 (by rw[c1];decide),ŵ p2.isList e2 (by rw[c2];decide)⟩;have l1:=rv1.length;have l2:=rv2.length;refine wpAny_pyNext_zip_end (I.ok.hd hc) D hz hTI hTO h1 h2 p1.isList p2.isList ?_ fun h' kp=>⟨rfl,I.turns (t':=s.toks) (ch:=[n+4,n+2,n+3,n,n+1]) (fun c o hb eo=>kp c o (fun z=>hb (by simp[z])) (fun z=>hb (by simp[z])) (fun z=>hb (by simp[z])) (fun z=>hb (by simp[z])) eo) hf⟩;rcases hi with e | e
  ·exact .inl (by simp;lia)
  ·exact .inr (by simp;lia)
 self:=fun A i s Q E st h=>wpAny_pyIter_zip st.1 h
section
variable {X:Cx}{K:Ā}
noncomputable def iZip (K:Ā)(ta:TA):TI:=fun σ H R=>ta σ H fun vs H1=>∃a b xs ys,vs=[V.ref a,V.ref b] /\ SqL K H1 a xs /\ SqL K H1 b ys /\ R (ItZ K a b xs ys) H1
theorem zN3 {elts:List Expr}{kk:Nat}{tpos:Pos}{a b:Expr}{ta:TA}{p pos:Pos}(hK:X.K=K)(hg:Gl X "zip")(hm:X.mg "zip" = none)(ha:PA X [a,b] ta)(hs:starEach [a,b] X.env=(false,eval a X.env)::starEach [b] X.env:=by rfl)(hs2:starEach [b] X.env=[(false,eval b X.env)]:=by rfl):PI X (.Tuple elts kk tpos) (.Call (.Name "zip" p) [a,b] [] pos) (iZip K ta):=by
 subst hK;intro pins s σ H R I h;refine Call_ (π I hg hm xL3 (PyProof.Rows.callWith_type1 (thn (ha pos pins s σ H _ I h) fun us s1 ⟨vs,H1,I1,r1,q1⟩=>?_) hs (by rw[hs2];rfl)));obtain⟨b1,b2,xs,ys,rfl,hq1,hq2,q⟩:=q1;obtain⟨u,u',rfl,ru,ru'⟩:=yI4 r1;cases ru;cases ru';obtain⟨its1,rv1,p1,hz1⟩:=I1.list hq1;obtain⟨its2,rv2,p2,hz2⟩:=I1.list hq2;refine call_zip_2 p1.isList p2.isList fun h' jz jt jo j1 j2 hsz kp=>wpAny_pyIter_zip jz ?_;refine⟨s1.heap.objs.size+4,[s1.heap.objs.size+4,s1.heap.objs.size+2,s1.heap.objs.size+3,s1.heap.objs.size,s1.heap.objs.size+1],_,_,H1,rfl,I1.kept (t':=s1.toks) kp,yR3 b1 b2 s1.heap.objs.size xs ys,⟨jz,jt,⟨_,_,jo⟩,j1,j2⟩,fun c hc=>?_,q⟩;simp only[Ė,Ő,or_false]at hc;rcases hc with rfl | rfl | rfl | rfl | rfl<;>exact I1.fpOk (by lia) (I1.hok.fresh (by lia))
end
theorem zV1 {K:Ā}{a b:Addr}{xs ys:List V}{g:TG}{tb:TS}{D:Ends}{σ:St}{H:Hp}(Pv:Nat->St->Hp->Prop)(hlen:xs.length=ys.length)(h0:Pv 0 σ H)(hl:∀i σ H,i<=xs.length->Pv i σ H->SqL K H a xs /\ SqL K H b ys)
  (hs:∀i v u T σ H,xs[i]?=some v->ys[i]?=some u->Pv i σ H->H T=none->g (.ref T) σ (upd H T (.tup [v,u])) fun σ2 H2=>tb { D with nx:=Pv (i+1),ct:=Pv (i+1),bk:=D.nx } σ2 H2)(hd:∀σ H,Pv xs.length σ H->D.nx σ H) :
  ∃W:Nat->Nat->St->Hp->Prop,(∃m,W 0 m σ H) /\ ∀i m σ H,W i m σ H->((ItZ K a b xs ys).stop i H /\ D.nx σ H) \/ ((ItZ K a b xs ys).go i H /\ ∃N:St->Hp->Prop,(∀σ' H',N σ' H'->∃m',m'<m /\ W (i+1) m' σ' H') /\
   ∀x H',(ItZ K a b xs ys).yld i H x H'->g x σ H' fun σ2 H2=>tb { D with nx:=N,ct:=N,bk:=D.nx } σ2 H2):=by
 refine⟨fun i m σ H=>m=xs.length - i /\ i<=xs.length /\ Pv i σ H,⟨_,rfl,Ń _,h0⟩,?_⟩;rintro i m σ H ⟨rfl,hi,p⟩;obtain⟨q1,q2⟩:=hl i σ H hi p
 by_cases hlt:i<xs.length
 ·refine .inr ⟨⟨hlt,by lia,q1,q2⟩,Pv (i+1),fun σ' H' p'=>⟨xs.length - (i+1),by lia,rfl,hlt,p'⟩,fun x H' y=>?_⟩;obtain⟨v,u,T,hv,hu,e1,hT,e2⟩:=y;subst e1 e2;exact hs i v u T σ H hv hu p hT
 ·have e:i=xs.length:=by lia
  subst e;exact .inl ⟨⟨.inl rfl,q1,q2⟩,hd σ H p⟩
noncomputable def EqW (prog:Program)(w:World)(A:Around)(s:Shared)(v y:Value):Prop:=∀(E:Value->Shared->Prop) (Q:Bool->Shared->Prop),Q true s->wpAny (model prog w) A (eqBool v y) Q E s
section
variable {prog:Program}{w:World}{A:Around}{E:Value->Shared->Prop}{s:Shared}
theorem EqW.of {v y:Value}(h:SeqAt.EqAt A s v y true):EqW prog w A s v y:=fun E Q q=>h prog w E Q q
variable {Kt:Type}[DecidableEq Kt]{knd:KeyKind prog w Kt}
open SeqAt in
open SeqAt in
theorem xN5 (l b:Addr)(xs ys:Array Value)(n n2:Nat)(dd dd2:Option Addr)(sl sl2:Array (Option Value))(sz:xs.size=ys.size)(k:Nat) :
  ∀i:Nat,xs.size - i=k->MeetsIn prog w (Builtin.«list.__eq__.loop» ⟨[.ref l,.ref b,rawInt i,rawInt 3],[]⟩) (fun A R s=>s.heap.get? l=some { cls:=.type "list",dict:=dd,data:=.seq xs n,slots:=sl } /\ s.heap.get? b=some { cls:=.type "list",dict:=dd2,data:=.seq ys n2,slots:=sl2 } /\
    (∀j (h1:j<xs.size) (h2:j<ys.size),EqW prog w A.in1 s xs[j] ys[j]) /\ R (.ok (.ret (.bool false))) s):=by
 induction k with
 | zero =>
  intro i hk A R s h;obtain⟨hp,g,d,tk,os⟩:=s;obtain⟨hl,hb,he,h⟩:=h;have i1:xs[((i:Nat):Int).toNat]?=none:=by simp;lia
  have i2:ys[((i:Nat):Int).toNat]?=none:=by simp;lia
  wp_walk using AutoSeq1.wpAny_loadPart' hl,AutoSeq1.wpAny_loadPart' hb
  rw[i1,i2]
  wp_walk using AutoSeq1.wpAny_loadPart' hl,AutoSeq1.wpAny_loadPart' hb
  show R (.ok (.ret (.bool (xs.size != ys.size)))) _;rw[sz];simpa using h
 | succ k ih =>
  intro i hk A R s h;obtain⟨hp,g,d,tk,os⟩:=s;obtain⟨hl,hb,he,h⟩:=h;have l1:i<xs.size:=by lia
  have l2:i<ys.size:=by lia
  have i1:xs[((i:Nat):Int).toNat]?=some xs[i]:=by simp[l1]
  have i2:ys[((i:Nat):Int).toNat]?=some ys[i]:=by simp[l2]
  have hc:((i:Int)+1)=((i+1:Nat):Int):=by push_cast;rfl
  wp_walk using AutoSeq1.wpAny_loadPart' hl,AutoSeq1.wpAny_loadPart' hb
  rw[i1,i2];refine wpAny_bind (he i l1 l2 _ _ ?_)
  wp_walk
  rw[hc];exact⟨plainId_quiet MeetsSeq3.plain_eq_loop _,codeAny_builtin MeetsSeq3.entry_eq_loop (by
   rw[Around.under_plainId MeetsSeq3.plain_eq_loop _];exact ih (i+1) (by lia) A R _ ⟨hl,hb,he,h⟩)⟩
theorem xN6 (l b:Addr)(xs ys:Array Value)(n n2:Nat)(dd dd2:Option Addr)(sl sl2:Array (Option Value))(sz:xs.size=ys.size) :
  MeetsIn prog w (Builtin.«list.__ne__» ⟨[.ref l,.ref b],[]⟩) (fun A R s=>s.heap.get? l=some { cls:=.type "list",dict:=dd,data:=.seq xs n,slots:=sl } /\ s.heap.get? b=some { cls:=.type "list",dict:=dd2,data:=.seq ys n2,slots:=sl2 } /\
    (∀j (h1:j<xs.size) (h2:j<ys.size),EqW prog w A.in1 s xs[j] ys[j]) /\ R (.ok (.ret (.bool false))) s):=by
 intro A R s h;obtain⟨hp,g,d,tk,os⟩:=s;obtain⟨hl,hb,he,h⟩:=h;have f3:=AutoSeq1.sub_list_list;have hne:¬(xs.size != ys.size)=true:=by simp[sz]
 wp_walk using AutoSeq1.wpAny_loadPart' hl,AutoSeq1.wpAny_loadPart' hb
 exact⟨plainId_quiet MeetsSeq3.plain_eq_loop _,codeAny_builtin MeetsSeq3.entry_eq_loop (by
  rw[Around.under_plainId MeetsSeq3.plain_eq_loop _];exact xN5 l b xs ys n n2 dd dd2 sl sl2 sz _ 0 rfl A R _ ⟨hl,hb,he,h⟩)⟩
theorem xG2 {l b:Addr}{xs ys:Array Value}{Q:Value->Shared->Prop}(hl:s.heap.IsList l xs)(hb:s.heap.IsList b ys)(sz:xs.size=ys.size)(hu:A.units<cLine)(he:∀j (h1:j<xs.size) (h2:j<ys.size),EqW prog w A.in1 s xs[j] ys[j])(q:Q (.bool false) s) :
  wpAny (model prog w) A (richCompare .NotEq (.ref l) (.ref b)) Q E s:=by
 obtain⟨⟨cls,dd,data,sl⟩,ho,hc,n,hd⟩:=id hl;obtain⟨⟨cls2,dd2,data2,sl2⟩,ho2,hc2,n2,hd2⟩:=id hb;simp only at hc hd hc2 hd2;subst hc hd hc2 hd2;exact wpAny_richCompare_same_room (op:=.NotEq) ⟨_,ho,rfl⟩ ⟨_,ho2,rfl⟩ F.slot_list_ne (call_meetsIn F.slot_list_ne ⟨_,ho,rfl⟩ F.entry_list_ne (F.args_list_ne_2 _ _) (xN6 l b xs ys n n2 dd dd2 sl sl2 sz) ⟨ho,ho2,he,show Value.bool false≠Value.notImplemented /\ Q (.bool false) s from⟨(fun x=>nomatch x),q⟩⟩) hu
end
theorem zP1 {d:Addr}{o:Obj}{u:HO}{ps:List (V×V)}{g:TG}{tc:TT}{te:TE}{D:Addr}{Z:Hp->Prop}{σ:St}{H:Hp}(Pv:Nat->St->Hp->Prop)(h0:Pv 0 σ H)(hf:∀i σ H,Pv i σ H->H d=some (.frz o u))
  (hs:∀i k v T σ H,ps[i]?=some (k,v)->Pv i σ H->H T=none->g (.ref T) σ (upd H T (.tup [k,v])) fun σ2 H2=>tc σ2 H2 fun b H3=>if b=true then te σ2 H3 fun y H4=>∃ys,H4 D=some (.lst ys) /\ ys.length<sizeLine /\ Pv (i+1) σ2 (upd H4 D (.lst (ys++[y]))) else Pv (i+1) σ2 H3)
  (hd:∀σ H,Pv ps.length σ H->Z H):zM3 (ItD d o u ps) g tc te D Z σ H:=by
 refine⟨fun i m σ H=>m=ps.length - i /\ i<=ps.length /\ Pv i σ H,⟨ps.length,by simp,Ń _,h0⟩,?_⟩;rintro i m σ H ⟨rfl,hi,p⟩
 by_cases hlt:i<ps.length
 ·refine .inr ⟨⟨hlt,hf i σ H p⟩,Pv (i+1),fun σ' H' p'=>⟨ps.length - (i+1),by lia,rfl,hlt,p'⟩,fun x H' y=>?_⟩;obtain⟨k,v,T,hk,e1,hT,e2⟩:=y;subst e1 e2;exact hs i k v T σ _ hk p hT
 ·have e:i=ps.length:=by lia
  subst e;exact .inl ⟨⟨rfl,hf _ σ H p⟩,hd σ H p⟩
theorem zP0 {K:Ā}{a b:Addr}{xs ys:List V}{g:TG}{tc:TT}{te:TE}{D:Addr}{Z:Hp->Prop}{σ:St}{H:Hp}(Pv:Nat->St->Hp->Prop)(hlen:xs.length=ys.length)(h0:Pv 0 σ H)(hl:∀i σ H,i<=xs.length->Pv i σ H->SqL K H a xs /\ SqL K H b ys)
  (hs:∀i v u T σ H,xs[i]?=some v->ys[i]?=some u->Pv i σ H->H T=none->g (.ref T) σ (upd H T (.tup [v,u])) fun σ2 H2=>tc σ2 H2 fun b H3=>if b=true then te σ2 H3 fun y H4=>∃ys,H4 D=some (.lst ys) /\ ys.length<sizeLine /\ Pv (i+1) σ2 (upd H4 D (.lst (ys++[y]))) else Pv (i+1) σ2 H3)
  (hd:∀σ H,Pv xs.length σ H->Z H):zM3 (ItZ K a b xs ys) g tc te D Z σ H:=by
 refine⟨fun i m σ H=>m=xs.length - i /\ i<=xs.length /\ Pv i σ H,⟨xs.length,by simp,Ń _,h0⟩,?_⟩;rintro i m σ H ⟨rfl,hi,p⟩;obtain⟨q1,q2⟩:=hl i σ H hi p
 by_cases hlt:i<xs.length
 ·refine .inr ⟨⟨hlt,by lia,q1,q2⟩,Pv (i+1),fun σ' H' p'=>⟨xs.length - (i+1),by lia,rfl,hlt,p'⟩,fun x H' y=>?_⟩;obtain⟨v,u,T,hv,hu,e1,hT,e2⟩:=y;subst e1 e2;exact hs i v u T σ H hv hu p hT
 ·have e:i=xs.length:=by lia
  subst e;exact .inl ⟨⟨.inl rfl,q1,q2⟩,hd σ H p⟩
noncomputable def AlS (K:Ā)(H:Hp):Nat->V->V->Prop
 | 0,x,y=>∃a,x = .ref a /\ y = .ref a
 | n+1,x,y=>(∃a,x = .ref a /\ y = .ref a) \/ ∃a b xs ys,x = .ref a /\ y = .ref b /\ ((SqL K H a xs /\ SqL K H b ys) \/ (SqT K H a xs /\ SqT K H b ys)) /\ Paired (AlS K H n) xs ys
theorem AlS.refl {K:Ā}{H:Hp}{a:Addr}:∀n:Nat,AlS K H n (.ref a) (.ref a)
 | 0=>⟨a,rfl,rfl⟩
 | _+1=>Or.inl ⟨a,rfl,rfl⟩
theorem AlS.refls {K:Ā}{H:Hp}(n:Nat):∀{xs:List V},(∀x∈xs,∃a,x = .ref a)->Paired (AlS K H n) xs xs
 | [],_=>.nil
 | x::xs,h=>by
  obtain⟨a,rfl⟩:=h x Ĉ;exact .cons (AlS.refl n) (AlS.refls n fun y hy=>h y (ć _ hy))
section
variable {X:Cx}{K:Ā}
theorem eqS {pins:List (Addr×Obj)}{σ:St}{H:Hp}{s:Shared}(I:Inv X pins σ H s):∀(n:Nat) {A:Around} {x y:V} {v u:Value},AlS X.K H n x y->RelV x v->RelV y u->A.units+n<cLine->SeqAt.EqAt A s v u true
 | 0,A,x,y,v,u,h,rx,ry,hu=>by
  obtain⟨a,rfl,rfl⟩:=h;cases rx;cases ry;exact SeqAt.EqAt.same _
 | n+1,A,x,y,v,u,h,rx,ry,hu=>by
  rcases h with⟨a,rfl,rfl⟩ | ⟨a,b,xs,ys,rfl,rfl,h,hp⟩
  ·cases rx;cases ry;exact SeqAt.EqAt.same _
  ·cases rx;cases ry
   by_cases e:a=b
   ·subst e;exact SeqAt.EqAt.same _
   have hl:=hp.length;have key:∀{us ws:List Value},Vals xs us->Vals ys ws->∀j (h1:j<us.toArray.size) (h2:j<ws.toArray.size),SeqAt.EqAt A.in1 s us.toArray[j] ws.toArray[j] ((fun _=>true) j):=by
    intro us ws r r' j h1 h2;have e1:=r.length;have e2:=r'.length;have j1:j<us.length:=by simpa using h1
    have j2:j<xs.length:=by lia
    have j3:j<ws.length:=by simpa using h2
    obtain⟨u1,hu1,ru⟩:=r.get (ā j2);obtain⟨y1,hy,al⟩:=zK1 hp (ā j2);obtain⟨u2,hu2,ru'⟩:=r'.get hy;have e4:us.toArray[j]=u1:=by
     have:us[j]?=some us[j]:=ā j1;rw[hu1]at this;simpa using (Option.some.inj this).symm
    have e5:ws.toArray[j]=u2:=by
     have:ws[j]?=some ws[j]:=ā j3;rw[hu2]at this;simpa using (Option.some.inj this).symm
    rw[e4,e5];exact eqS I n al ru ru' (by show A.units+1+n<cLine;lia)
   rcases h with⟨ha,hb⟩ | ⟨ha,hb⟩
   ·obtain⟨us,r1,p1,_⟩:=I.list ha;obtain⟨ws,r2,p2,_⟩:=I.list hb;have sz:us.toArray.size=ws.toArray.size:=by
     have e1:=r1.length;have e2:=r2.length;simp;lia
    have h:=SeqAt.RcAt.lists (A:=A) (e:=fun _=>true) p1.isList p2.isList sz (by lia) (key r1 r2);have et:((Đ us.toArray.size).all fun _=>true)=true:=by simp
    rw[et]at h;exact SeqAt.EqAt.of_refs e h
   ·obtain⟨us,r1,p1,_⟩:=I.tuple ha;obtain⟨ws,r2,p2,_⟩:=I.tuple hb;have sz:us.toArray.size=ws.toArray.size:=by
     have e1:=r1.length;have e2:=r2.length;simp;lia
    have h:=SeqAt.RcAt.tuples (A:=A) (e:=fun _=>true) p1 p2 (by lia) (key r1 r2);have et:((Đ (min us.toArray.size ws.toArray.size)).all (fun _=>true)&&us.toArray.size==ws.toArray.size)=true:=by simp[sz]
    rw[et]at h;exact SeqAt.EqAt.of_refs e h
theorem xH8 {k:Nat}(hK:X.K=K)(hr:Room k X.A):OpR X (compareOp .NotEq) (fun x y H Q=>(∃a b xs ys,x = .ref a /\ y = .ref b /\ SqL K H a xs /\ SqL K H b ys /\ Paired (AlS K H 3) xs ys) /\ Q (.bl false) H):=by
 subst hK;intro pins s σ H x y v u Q I rx ry h;obtain⟨⟨a,b,xs,ys,rfl,rfl,ha,hb,hp⟩,q⟩:=h;cases rx;cases ry;obtain⟨us,r1,p1,_⟩:=I.list ha;obtain⟨ws,r2,p2,_⟩:=I.list hb;have hu:=hr.un;have hl:=hp.length;have sz:us.toArray.size=ws.toArray.size:=by
  have e1:=r1.length;have e2:=r2.length;simp;lia
 refine xG2 p1.isList p2.isList sz (by lia) (fun j h1 h2=>?_) ⟨.bl false,H,I,rfl,q⟩;have e1:=r1.length;have e2:=r2.length;have j1:j<us.length:=by simpa using h1
 have j2:j<xs.length:=by lia
 have j3:j<ws.length:=by simpa using h2
 obtain⟨u1,hu1,ru⟩:=r1.get (ā j2);obtain⟨y1,hy,al⟩:=zK1 hp (ā j2);obtain⟨u2,hu2,ru'⟩:=r2.get hy;have e4:us.toArray[j]=u1:=by
  have:us[j]?=some us[j]:=ā j1;rw[hu1]at this;simpa using (Option.some.inj this).symm
 have e5:ws.toArray[j]=u2:=by
  have:ws[j]?=some ws[j]:=ā j3;rw[hu2]at this;simpa using (Option.some.inj this).symm
 rw[e4,e5];exact EqW.of (eqS I 3 al ru ru' (by show X.A.units+1+3<cLine;lia))
end
theorem yQ2 {α:Type}{P C:α->Prop}{G:Prop}(go:(∀x,C x->P x)->G)(body:∀x,C x->P x):G:=go body
theorem zK8 {α β:Type}{P C:α->β->Prop}{G:Prop}(go:(∀x y,C x y->P x y)->G)(body:∀x y,C x y->P x y):G:=go body
end L2
namespace Tc
noncomputable def sN (n:Nat)(f:Nat->Rat):Rat:=sumL (Đ n) f
theorem zH4 (f:Nat->Rat):sN 0 f=0:=rfl
theorem ü (n:Nat)(f:Nat->Rat):sN (n+1) f=sN n f+f n:=by
 unfold sN;rw[Ř,zM4]
theorem Ô {n:Nat}{f g:Nat->Rat}(h:∀i,i<n->f i=g i):sN n f=sN n g:=by
 induction n with
 | zero=>rfl
 | succ n ih=>rw[ü,ü,ih fun i hi=>h i (by lia),h n (by lia)]
theorem Μ (n:Nat)(f g:Nat->Rat)(a b:Rat):sN n (fun i=>f i*a+g i*b)=sN n f*a+sN n g*b:=by
 induction n with
 | zero=>rw[zH4,zH4,zH4];grind
 | succ n ih=>rw[ü,ü,ü,ih];grind
theorem Ů {n:Nat}{f:Nat->Rat}(h:∀i,i<n->f i=0):sN n f=0:=by
 induction n with
 | zero=>rfl
 | succ n ih=>rw[ü,ih fun i hi=>h i (by lia),h n (by lia)];grind
theorem Ź {n k:Nat}{f:Nat->Rat}(hk:k<n)(h:∀i,i<n->i≠k->f i=0):sN n f=f k:=by
 induction n with
 | zero=>lia
 | succ n ih =>
  rw[ü]
  by_cases e:k=n
  ·subst e;rw[Ů fun i hi=>h i (by lia) (by lia)];grind
  ·rw[ih (by lia) fun i hi=>h i (by lia),h n (by lia) (fun q=>e q.symm)];grind
noncomputable def pivM (M:Nat->Nat->Rat)(c k:Nat):Nat->Nat->Rat:=fun i j=>if i=c then M c j / M c k else M i j - M c j / M c k*M i k
noncomputable def Cd (D N:Nat)(r:Rat):Prop:=∃m:Int,r*(D:Rat)=(m:Rat) /\ m.natAbs<=N
theorem Cd.mono {D N N':Nat}{r:Rat}(h:Cd D N r)(hn:N<=N'):Cd D N' r:=let ⟨m,e,l⟩:=h;⟨m,e,ĉ l hn⟩
theorem Cd.mul {D N E W:Nat}{r q:Rat}(h:Cd D N r)(g:Cd E W q):Cd (D*E) (N*W) (r*q):=by
 obtain⟨m,e,l⟩:=h;obtain⟨k,f,u⟩:=g;refine⟨m*k,?_,by rw[Ĵ];exact Ě l u⟩;rw[į,Ē,<- e,<- f];grind
theorem Cd.add {D N W:Nat}{r q:Rat}(h:Cd D N r)(g:Cd D W q):Cd D (N+W) (r+q):=by
 obtain⟨m,e,l⟩:=h;obtain⟨k,f,u⟩:=g;refine⟨m+k,?_,by lia⟩;rw[Rat.intCast_add,<- e,<- f];grind
theorem Cd.neg {D N:Nat}{r:Rat}(h:Cd D N r):Cd D N (-r):=by
 obtain⟨m,e,l⟩:=h;refine⟨-m,?_,by lia⟩;rw[Rat.intCast_neg,<- e];grind
theorem Cd.sub {D N W:Nat}{r q:Rat}(h:Cd D N r)(g:Cd D W q):Cd D (N+W) (r - q):=by
 have:=h.add g.neg;rw[<- Rat.sub_eq_add_neg]at this;exact this
theorem Cd.zero (D N:Nat):Cd D N 0:=⟨0,by rw[Ğ];rfl,Ń _⟩
theorem Cd.one (D:Nat):Cd D D 1:=⟨D,by rw[Ť];rfl,by simp⟩
theorem Cd.up {D N:Nat}{r:Rat}(h:Cd D N r)(d:Nat):Cd (D*d) (N*d) r:=by
 have:=h.mul (Cd.one d);rw[Ň]at this;exact this
section
variable {α:Type}[DecidableEq α]
theorem zQ1 {L:List α}{f g:α->Rat}(h:∀z∈L,f z=g z):sumL L f=sumL L g:=by
 induction L with
 | nil=>rfl
 | cons z L ih=>rw[ä,ä,h z Ĉ,ih fun y hy=>h y (ć _ hy)]
theorem yJ1 (L:List α)(f g:α->Rat):sumL L (fun z=>f z - g z)=sumL L f - sumL L g:=by
 induction L with
 | nil=>simp only[yD8];grind
 | cons z L ih=>rw[ä,ä,ä,ih];grind
theorem zW0 (L:List α)(f:α->Rat)(c:Rat):sumL L (fun z=>c*f z)=c*sumL L f:=by
 induction L with
 | nil=>simp only[yD8];grind
 | cons z L ih=>rw[ä,ä,ih];grind
end
theorem Cd.bd {D N s:Nat}{r:Rat}(hD:0<D)(hDN:D<=N)(hN:N<=2^s)(h:Cd D N r):Bd (s+1) r:=by
 obtain⟨m,e,l⟩:=h;have er:r=Ċ m D:=by
  rw[Ħ,Ĝ];have:=χ hD
  grind
 have hp:(2:Nat)^s<2^(s+1):=by rw[ł];have:=ś s;lia
 rw[er];refine Bd.divInt (by lia) (by lia) ?_;show D<_;lia
section
variable {α:Type}[DecidableEq α]
noncomputable def lap (a:α->Rat)(g:List α->Rat):List α->Rat
 | []=>0
 | r::R=>a r*g R - lap a (fun S=>g (r::S)) R
theorem zU6 (a:α->Rat)(x:Rat):∀(R:List α) (g h:List α->Rat),lap a (fun S=>x*g S - h S) R=x*lap a g R - lap a h R
 | [],_,_=>by show (0:Rat)=x*0 - 0;grind
 | r::R,g,h=>by
  show a r*(x*g R - h R) - lap a (fun S=>x*g (r::S) - h (r::S)) R=x*(a r*g R - lap a (fun S=>g (r::S)) R) - (a r*h R - lap a (fun S=>h (r::S)) R);rw[zU6 a x R (fun S=>g (r::S)) fun S=>h (r::S)]
  grind
theorem zU7 (a b:α->Rat):∀(R:List α) (g:List α->Rat),lap a (lap b g) R = -lap b (lap a g) R
 | [],_=>by show (0:Rat) = -0;grind
 | r::R,g=>by
  have e1:lap a (lap b g) (r::R)=a r*lap b g R - (b r*lap a g R - lap a (lap b fun T=>g (r::T)) R):=by
   show a r*lap b g R - lap a (fun S=>b r*g S - lap b (fun T=>g (r::T)) S) R=_;rw[zU6]
  have e2:lap b (lap a g) (r::R)=b r*lap a g R - (a r*lap b g R - lap b (lap a fun T=>g (r::T)) R):=by
   show b r*lap a g R - lap b (fun S=>a r*g S - lap a (fun T=>g (r::T)) S) R=_;rw[zU6]
  rw[e1,e2,zU7 a b R fun T=>g (r::T)]
  grind
theorem zU5 (a:α->Rat):∀R:List α,lap a (fun _=>0) R=0
 | []=>rfl
 | r::R=>by
  show a r*0 - lap a (fun _=>0) R=0;rw[zU5 a R];grind
theorem yU1 (a:α->Rat)(s:Rat)(g:List α->Rat)(R:List α):lap a (fun S=>s*g S) R=s*lap a g R:=by
 have:=zU6 a s R g fun _=>0;rw[zU5]at this;have e:(fun S=>s*g S)=fun S=>s*g S - 0:=by funext S;grind
 rw[e,this];grind
theorem yM8 (A:α->α->Rat)(x:α->Rat)(C:List α):∀(R:List α) (g:List α->Rat) {b:α->Rat},(∀r∈R,b r=sumL C fun j=>A r j*x j)->lap b g R=sumL C fun j=>x j*lap (fun r=>A r j) g R
 | [],_,_,_=>by
  show (0:Rat)=sumL C fun j=>x j*0;exact(zH8 _ _ fun z _=>by grind).symm
 | r::R,g,b,h=>by
  show b r*g R - lap b (fun S=>g (r::S)) R=sumL C fun j=>x j*(A r j*g R - lap (fun r=>A r j) (fun S=>g (r::S)) R);rw[yM8 A x C R (fun S=>g (r::S)) fun y hy=>h y (ć _ hy),h r Ĉ];have e:(sumL C fun j=>x j*(A r j*g R - lap (fun r=>A r j) (fun S=>g (r::S)) R))=sumL C fun j=>g R*(A r j*x j) - x j*lap (fun r=>A r j) (fun S=>g (r::S)) R:=zQ1 fun j _=>by grind
  rw[e,yJ1,zW0]
  grind
noncomputable def detL (A:α->α->Rat):List α->List α->Rat
 | []=>fun _=>1
 | c::cs=>lap (fun r=>A r c) (detL A cs)
theorem zV2 (A:α->α->Rat)(a:α):∀(cs:List α),a∈cs->∀R,detL A (a::cs) R=0
 | [],h,_=>nomatch h
 | b::cs,h,R=>by
  have e:=zU7 (fun r=>A r a) (fun r=>A r b) R (detL A cs);show lap (fun r=>A r a) (lap (fun r=>A r b) (detL A cs)) R=0
  by_cases q:a=b
  ·subst q;grind
  ·have h:a∈cs:=by
    rcases Ė.mp h with h | h
    ·exact absurd h q
    ·exact h
   rw[e];have:lap (fun r=>A r a) (detL A cs)=fun _=>0:=by
    funext S
    exact zV2 A a cs h S
   rw[this,zU5];grind
theorem zY1 (A:α->α->Rat)(a:α):∀(cs:List α),a∈cs->∃s:Rat,(s=1 \/ s = -1) /\ ∀R,detL A (a::cs.erase a) R=s*detL A cs R
 | [],h=>nomatch h
 | b::cs,h=>by
  by_cases q:b=a
  ·subst q;refine⟨1,.inl rfl,fun R=>?_⟩;rw[List.erase_cons_head];grind
  ·have h:a∈cs:=by
    rcases Ė.mp h with h | h
    ·exact absurd h.symm q
    ·exact h
   obtain⟨s,hs,e⟩:=zY1 A a cs h;have hs':-s=1 \/ -s = -1:=by
    rcases hs with hs | hs
    ·right;rw[hs]
    ·left;rw[hs];rfl
   refine⟨-s,hs',fun R=>?_⟩;rw[List.erase_cons_tail (by simpa using q)];have e1:=zU7 (fun r=>A r a) (fun r=>A r b) R (detL A (cs.erase a));show lap (fun r=>A r a) (lap (fun r=>A r b) (detL A (cs.erase a))) R = -s*lap (fun r=>A r b) (detL A cs) R;rw[e1];have:lap (fun r=>A r a) (detL A (cs.erase a))=fun S=>s*detL A cs S:=by
    funext S
    exact e S
   rw[this,yU1];grind
theorem yU2 {C:List α}(g:List α->Rat):∀{R:List α},R.Nodup->(∀r∈R,r∈C)->C.Nodup->∃w:α->Rat,(∀z,z∉R->w z=0) /\ ∀a:α->Rat,lap a g R=sumL C fun z=>w z*a z:=by
 intro R
 induction R generalizing g with
 | nil=>intro _ _ _;exact⟨fun _=>0,fun _ _=>rfl,fun a=>(zH8 _ _ fun z _=>by grind).symm⟩
 | cons r R ih =>
  intro hn hR hC;have hn':=ō.mp hn;obtain⟨w,w0,hw⟩:=ih (fun S=>g (r::S)) hn'.2 (fun z hz=>hR z (ć _ hz)) hC;refine⟨fun z=>if z=r then g R else -w z,fun z hz=>?_,fun a=>?_⟩
  ·have h1:z≠r:=fun e=>hz (by rw[e];exact Ĉ);have h2:z∉R:=fun e=>hz (ć _ e);show (if z=r then g R else -w z)=0;rw[if_neg h1,w0 z h2];grind
  ·show a r*g R - lap a (fun S=>g (r::S)) R=_;rw[hw a];have hr:=hR r Ĉ;rw[zG4 hr (fun z=>(if z=r then g R else -w z)*a z),zG4 hr (fun z=>w z*a z),w0 r hn'.1];have e:(sumL (C.erase r) fun z=>(if z=r then g R else -w z)*a z)=sumL (C.erase r) fun z=>-1*(w z*a z):=zQ1 fun z hz=>by
    have:=((hC.mem_erase_iff).mp hz).1;show (if z=r then g R else -w z)*a z = -1*(w z*a z);rw[if_neg this];grind
   rw[e,zW0];show _=(if r=r then g R else _)*a r+_;rw[if_pos rfl];grind
theorem yM9 {C:List α}(g:List α->Rat){r:α}{R:List α}(hn:(r::R).Nodup)(hR:∀z∈r::R,z∈C)(hC:C.Nodup):∃w:α->Rat,w r=g R /\ ∀a:α->Rat,lap a g (r::R)=sumL C fun z=>w z*a z:=by
 obtain⟨w,_,hw⟩:=yU2 g hn hR hC;refine⟨w,?_,hw⟩;have h:=hw (dlt r);have hr:=hR r Ĉ;rw[zG4 hr]at h;have e:(sumL (C.erase r) fun z=>w z*dlt r z)=0:=zH8 _ _ fun z hz=>by
  have:=((hC.mem_erase_iff).mp hz).1;unfold dlt;rw[if_neg this];grind
 have e2:lap (dlt r) g (r::R)=g R:=by
  have go:∀(S:List α) (g:List α->Rat),r∉S->lap (dlt r) g S=0:=by
   intro S
   induction S with
   | nil=>intro _ _;rfl
   | cons y S ih =>
    intro g hy;show dlt r y*g S - lap (dlt r) (fun T=>g (y::T)) S=0;have h1:y≠r:=fun e=>hy (by rw[e];exact Ĉ);rw[ih _ fun e=>hy (ć _ e)];unfold dlt;rw[if_neg h1];grind
  show dlt r r*g R - lap (dlt r) (fun T=>g (r::T)) R=g R;rw[go R _ (ō.mp hn).1];unfold dlt;rw[if_pos rfl];grind
 rw[e2,e]at h;unfold dlt at h;rw[if_pos rfl]at h
 grind
theorem zY0 {C:List α}{A:α->α->Rat}(hC:C.Nodup)(hK:∀w:α->Rat,(∀j∈C,(sumL C fun z=>w z*A z j)=0)->∀z∈C,w z=0):∀m,m<=C.length->∃cs R:List α,cs.length=m /\ R.length=m /\ R.Nodup /\ (∀z∈R,z∈C) /\ cs.Nodup /\ (∀z∈cs,z∈C) /\ detL A cs R≠0
 | 0,_=>⟨[],[],rfl,rfl,.nil,nofun,.nil,nofun,by show (1:Rat)≠0;decide⟩
 | m+1,hm=>by
  obtain⟨cs,R,lc,lR,nR,hR,nc,hc,hd⟩:=zY0 hC hK m (by lia);have:∃r∈C,r∉R:=Classical.byContradiction fun q=>by
   have:∀z∈C,z∈R:=fun z hz=>Classical.byContradiction fun h=>q ⟨z,hz,h⟩;have:=zI5 hC this;lia
  obtain⟨r,hr,hrR⟩:=this;have n2:(r::R).Nodup:=ō.mpr ⟨hrR,nR⟩;have h2:∀z∈r::R,z∈C:=fun z hz=>by
   rcases Ė.mp hz with e | e
   ·rw[e];exact hr
   ·exact hR z e
  obtain⟨w,w1,hw⟩:=yM9 (detL A cs) n2 h2 hC;have:∃j∈C,(sumL C fun z=>w z*A z j)≠0:=Classical.byContradiction fun q=>by
   have:=hK w (fun j hj=>Classical.byContradiction fun h=>q ⟨j,hj,h⟩) r hr;rw[w1]at this;exact hd this
  obtain⟨j,hj,hne⟩:=this;have e:detL A (j::cs) (r::R)≠0:=by
   show lap (fun r=>A r j) (detL A cs) (r::R)≠0;rw[hw];exact hne
  refine⟨j::cs,r::R,by rw[ī,lc],by rw[ī,lR],n2,h2,ō.mpr ⟨fun q=>e (zV2 A j cs q _),nc⟩,fun z hz=>?_,e⟩;rcases Ė.mp hz with q | q
  ·rw[q];exact hj
  ·exact hc z q
theorem yN0 {D N E W:Nat}{a:α->Rat}:∀{R:List α} {g:List α->Rat},(∀r∈R,Cd D N (a r))->(∀S,(∀z∈S,z∈R)->S.length+1=R.length->Cd E W (g S))->Cd (D*E) (R.length*(N*W)) (lap a g R)
 | [],_,_,_=>Cd.zero _ _
 | r::R,g,ha,hg=>by
  have h1:=(ha r Ĉ).mul (hg R (fun z hz=>ć _ hz) rfl);have h2:=yN0 (R:=R) (g:=fun S=>g (r::S)) (fun z hz=>ha z (ć _ hz)) fun S hS hl=>hg _ (fun z hz=>by
   rcases Ė.mp hz with e | e
   ·rw[e];exact Ĉ
   ·exact ć _ (hS z e)) (by rw[ī,ī,hl])
  refine(h1.sub h2).mono ?_;rw[ī,Nat.succ_mul];lia
theorem yP2 {D N n:Nat}{A:α->α->Rat}:∀{cs R:List α},R.length<=n->(∀z∈R,∀j∈cs,Cd D N (A z j))->Cd (D^cs.length) ((n*N)^cs.length) (detL A cs R)
 | [],R,_,_=>by
  rw[List.length_nil,Nat.pow_zero,Nat.pow_zero];exact Cd.one 1
 | c::cs,R,hn,h=>by
  have:=yN0 (R:=R) (g:=detL A cs) (fun r hr=>h r hr c Ĉ) fun S hS hl=>yP2 (n:=n) (by lia) fun z hz j hj=>h z (hS z hz) j (ć _ hj);rw[ī,ł,ť (D^cs.length),ł];refine this.mono ?_;rw[<- Nat.mul_assoc,ť ((n*N)^_)];exact Ĭ _ (Ĭ _ hn)
theorem xL1 {C:List α}{A:α->α->Rat}{x b:α->Rat}(hC:C.Nodup){cs R:List α}(nc:cs.Nodup)(hcs:∀z,z∈cs↔z∈C)(hb:∀r∈R,b r=sumL C fun j=>A r j*x j){k:α}(hk:k∈cs):∃s:Rat,(s=1 \/ s = -1) /\ x k*detL A cs R=s*lap b (detL A (cs.erase k)) R:=by
 obtain⟨s,hs,e⟩:=zY1 A k cs hk;refine⟨s,hs,?_⟩;have h:=yM8 A x C R (detL A (cs.erase k)) hb;have hkC:=(hcs k).mp hk;rw[zG4 hkC]at h;have e0:(sumL (C.erase k) fun j=>x j*lap (fun r=>A r j) (detL A (cs.erase k)) R)=0:=zH8 _ _ fun j hj=>by
  have hj':=(hC.mem_erase_iff).mp hj;have:lap (fun r=>A r j) (detL A (cs.erase k)) R=0:=zV2 A j (cs.erase k) ((nc.mem_erase_iff).mpr ⟨hj'.1,(hcs j).mpr hj'.2⟩) R;rw[this];grind
 have e1:lap (fun r=>A r k) (detL A (cs.erase k)) R=s*detL A cs R:=e R;rw[e0,e1]at h;rw[h];rcases hs with q | q<;>rw[q]<;>grind
theorem xC5 {C cs:List α}(hC:C.Nodup)(hn:cs.Nodup)(hs:∀z∈cs,z∈C)(hl:cs.length=C.length):∀z,z∈cs↔z∈C:=fun z=>⟨hs z,fun hz=>Classical.byContradiction fun q=>by
 have:=zI5 (ks:=z::cs) (ō.mpr ⟨q,hn⟩) (fun y hy=>by
  rcases Ė.mp hy with e | e
  ·rw[e];exact hz
  ·exact hs y e)
 rw[ī]at this;lia⟩
end
end Tc
namespace L2
open PySem PySem.Spec PyProof.Rows
theorem scF {N P:List Str}{sc:Scope}(h1:sc.kind = .function:=by rfl)(h2:sc.isCoroutine=false:=by rfl)(h3:sc.isGenerator=false:=by rfl)(h4:N.Nodup:=by decide +kernel)(h5:N.take P.length=P:=by rfl)(h6:∀x∈P,sc.names.lookup x=some .local \/ sc.names.lookup x=some .cell:=by decide +kernel)(h7:∀y∈sc.names,y.2 ≠ .free:=by decide +kernel):Ï N P sc:=⟨h1,h2,h3,h4,h5,h6,h7⟩
section
variable {X:Cx}{k j:Nat}{ps:List Str}{sp:Sp}{x:Str}{p pos:Pos}{e:Expr}{es:List Expr}{t:TA}
theorem pfn (F:FnAt X.prog X.w X.K X.mg X.base CX0 j x ps sp)(hr:Room k X.A)(ha:PA X (e::es) t)(hg:Gl X x:=by rfl)(hj:j<=k:=by decide)
  (hdb:(x==("__debug__":Str))=false:=by decide)(he:starEach (e::es) X.env=(false,eval e X.env)::starEach es X.env:=by rfl)(hpl:(backTo pos (starEach es X.env)).any (·.1)=false:=by rfl) :
  PE X (.Call (.Name x p) (e::es) [] pos) (zZ6 sp [] E0 t):=ο F hr hg ρ ha hj hdb he hpl
end
theorem pixT {X:Cx}{K:Ā}{a b:Expr}{ta tb:TE}{pos:Pos}(ha:PE X a ta)(hb:PE X b tb)(h:X.K=K:=by rfl)(hs:yC8 b:=by exact fun _ _=>rfl):PE X (.Subscript a b pos) (tOp (rIxT K) ta tb):=xB6 (xC9 h) ha hb hs
theorem pixL {X:Cx}{K:Ā}{a b:Expr}{ta tb:TE}{pos:Pos}(ha:PE X a ta)(hb:PE X b tb)(h:X.K=K:=by rfl)(hs:yC8 b:=by exact fun _ _=>rfl):PE X (.Subscript a b pos) (tOp (rIxL K) ta tb):=xB6 (yU4 h) ha hb hs
end L2
namespace L2
open PySem PySem.Spec PyProof.Rows
section
variable {K:Ā}{σ:St}{H:Hp}{Q:VK}{a:Addr}{xs:List V}{n i j:Int}{x:V}{C:Int->Int->Prop}{g:Int->Int->V}
theorem gL (h:H a=some (.lst xs))(e:atI xs n=some x)(q:Q x H):rIxL K (.ref a) (.int n) H Q:=⟨a,_,_,_,rfl,rfl,SqL.of h,e,q⟩
theorem gT (h:H a=some (.tup xs))(e:atI xs n=some x)(q:Q x H):rIxT K (.ref a) (.int n) H Q:=⟨a,_,_,_,rfl,rfl,SqT.of h,e,q⟩
theorem hL (h:H a=some (.lst xs))(e:atI xs n=some x)(q:Q x H):tC (.int n) σ H fun y H2=>rIxL K (.ref a) y H2 Q:=gL h e q
theorem hT (h:H a=some (.tup xs))(e:atI xs n=some x)(q:Q x H):tC (.int n) σ H fun y H2=>rIxT K (.ref a) y H2 Q:=gT h e q
theorem gI (c:C i j)(q:Q (g i j) H):rI C g (.int i) (.int j) H Q:=⟨_,_,rfl,rfl,c,q⟩
theorem gJ (q:Q (g i j) H):rI0 g (.int i) (.int j) H Q:=⟨_,_,rfl,rfl,q⟩
theorem hI (c:C i j)(q:Q (g i j) H):tC (.int j) σ H fun y H2=>rI C g (.int i) y H2 Q:=gI c q
theorem hJ (q:Q (g i j) H):tC (.int j) σ H fun y H2=>rI0 g (.int i) y H2 Q:=gJ q
end
theorem cutS {a b:TS}{D:Ends}{σ:St}{H:Hp}(h:∀N:St->Hp->Prop,N=b D->a { D with nx:=N } σ H):tSeq a b D σ H:=h _ rfl
theorem stpS {N:St->Hp->Prop}{a b:TS}{D:Ends}{σ:St}{H:Hp}(e:N=tSeq a b D)(h:∀N':St->Hp->Prop,N'=b D->a { D with nx:=N' } σ H):N σ H:=by subst e;exact h _ rfl
end L2
namespace Tc
set_option genInjectivity false in
structure Tb where
 t:Nat->Nat->Rat
 b:Nat->Rat
 c:Nat->Rat
 z:Rat
 B:Nat->Nat
noncomputable def Tb.Sol (S:Tb)(m n:Nat)(y:Nat->Rat)(w:Rat):Prop:=∀i,i<m->sN n (fun j=>S.t i j*y j)=S.b i*w
noncomputable def Tb.Can (S:Tb)(m n:Nat):Prop:=(∀i l,i<m->l<m->S.t i (S.B l)=if i=l then 1 else 0) /\ ∀l,l<m->S.c (S.B l)=0 /\ S.B l<n
structure Stb (many m n:Nat)(S S':Tb)(s r:Nat):Prop where
 hs:s<many
 mn:many<=n
 neg:S.c s<0
 fst:∀j,j<s->0<=S.c j
 hr:r<m
 pos:0<S.t r s
 least:∀i,i<m->0<S.t i s->S.b r*S.t i s<=S.b i*S.t r s /\ (S.b r*S.t i s=S.b i*S.t r s->S.B r<=S.B i)
 t':∀i j,i<m->j<n->S'.t i j=if i=r then S.t r j / S.t r s else S.t i j - S.t i s*(S.t r j / S.t r s)
 b':∀i,i<m->S'.b i=if i=r then S.b r / S.t r s else S.b i - S.t i s*(S.b r / S.t r s)
 c':∀j,j<n->S'.c j=S.c j - S.c s*(S.t r j / S.t r s)
 z':S'.z=S.z - S.c s*(S.b r / S.t r s)
 B':∀i,i<m->S'.B i=if i=r then s else S.B i
section
variable {many m n:Nat}{S S':Tb}{s r:Nat}{y:Nat->Rat}{w:Rat}
theorem ų (n:Nat)(f:Nat->Rat)(a:Rat):sN n (fun i=>f i*a)=sN n f*a:=by
 have:=Μ n f (fun _=>0) a 0;rw[show (fun i=>f i*a+(fun _=>(0:Rat)) i*0)=fun i=>f i*a from funext fun i=>by simp[Rat.add_zero]]at this;rw[this,Ł,Rat.add_zero]
theorem Stb.row (h:Stb many m n S S' s r){i:Nat}(hi:i<m):sN n (fun j=>S'.t i j*y j)=if i=r then sN n (fun j=>S.t r j*y j) / S.t r s else sN n (fun j=>S.t i j*y j) - S.t i s*(sN n (fun j=>S.t r j*y j) / S.t r s):=by
 by_cases e:i=r
 ·rw[if_pos e,ę,<- ų];refine Ô fun j hj=>?_;rw[h.t' i j hi hj,if_pos e,ę];grind
 ·rw[if_neg e];have:=Μ n (fun j=>S.t i j*y j) (fun j=>S.t r j*y j) 1 (-(S.t i s*(S.t r s)⁻¹));rw[show sN n (fun j=>S'.t i j*y j)=sN n (fun j=>S.t i j*y j*1+S.t r j*y j*(-(S.t i s*(S.t r s)⁻¹))) from Ô fun j hj=>by rw[h.t' i j hi hj,if_neg e,ę];grind,this,ę]
  grind
theorem Stb.sol (h:Stb many m n S S' s r):S.Sol m n y w↔S'.Sol m n y w:=by
 have hp:=h.pos;have n0:S.t r s≠0:=fun e=>by rw[e]at hp;exact absurd hp (by decide)
 constructor
 ·intro g i hi;rw[h.row hi,h.b' i hi,g r h.hr]
  by_cases e:i=r
  ·rw[if_pos e,if_pos e,ę,ę];grind
  ·rw[if_neg e,if_neg e,g i hi,ę,ę];grind
 ·intro g;have gr:=g r h.hr;rw[h.row h.hr,h.b' r h.hr,if_pos rfl,if_pos rfl,ę,ę]at gr;have er:sN n (fun j=>S.t r j*y j)=S.b r*w:=by
   have:=congrArg (· * S.t r s) gr;have i1:(S.t r s)⁻¹*S.t r s=1:=Rat.inv_mul_cancel _ n0
   grind
  intro i hi
  by_cases e:i=r
  ·rw[e];exact er
  ·have gi:=g i hi;rw[h.row hi,h.b' i hi,if_neg e,if_neg e,er,ę,ę]at gi
   grind
theorem Stb.cost (h:Stb many m n S S' s r)(g:S.Sol m n y w):sN n (fun j=>S'.c j*y j) - S'.z*w=sN n (fun j=>S.c j*y j) - S.z*w:=by
 have:=Μ n (fun j=>S.c j*y j) (fun j=>S.t r j*y j) 1 (-(S.c s*(S.t r s)⁻¹));rw[show sN n (fun j=>S'.c j*y j)=sN n (fun j=>S.c j*y j*1+S.t r j*y j*(-(S.c s*(S.t r s)⁻¹))) from Ô fun j hj=>by rw[h.c' j hj,ę];grind,this,g r h.hr,h.z',ę]
 grind
theorem Stb.n0 (h:Stb many m n S S' s r):S.t r s≠0:=fun e=>by have hp:=h.pos;rw[e]at hp;exact absurd hp (by decide)
theorem Stb.self (h:Stb many m n S S' s r):S.t r s / S.t r s=1:=by rw[ę];exact Ŕ _ h.n0
theorem Stb.can (h:Stb many m n S S' s r)(g:S.Can m n):S'.Can m n:=by
 have sn:s<n:=Ă h.hs h.mn;refine⟨fun i l hi hl=>?_,fun l hl=>?_⟩
 ·rw[h.B' l hl]
  by_cases el:l=r
  ·rw[if_pos el,h.t' i s hi sn,h.self]
   by_cases e:i=r
   ·rw[if_pos e,if_pos (e.trans el.symm)]
   ·rw[if_neg e,if_neg (fun z=>e (z.trans el))];grind
  ·have hn:=(g.2 l hl).2;have rl:S.t r (S.B l)=0:=by rw[g.1 r l h.hr hl,if_neg (fun z=>el z.symm)]
   rw[if_neg el,h.t' i _ hi hn,rl,ę,Ğ]
   by_cases e:i=r
   ·rw[if_pos e,if_neg (fun z=>el (z.symm.trans e))]
   ·rw[if_neg e,g.1 i l hi hl];grind
 ·rw[h.B' l hl]
  by_cases el:l=r
  ·rw[if_pos el,h.c' s sn,h.self];exact⟨by grind,sn⟩
  ·have hn:=(g.2 l hl).2;have rl:S.t r (S.B l)=0:=by rw[g.1 r l h.hr hl,if_neg (fun z=>el z.symm)]
   rw[if_neg el,h.c' _ hn,rl,(g.2 l hl).1,ę,Ğ];exact⟨by grind,hn⟩
theorem Stb.q0 (h:Stb many m n S S' s r)(f:∀i,i<m->0<=S.b i):0<=S.b r / S.t r s:=by
 rw[ę];exact ĩ (f r h.hr) (Ŗ (Rat.inv_pos.mpr h.pos))
theorem Stb.back (h:Stb many m n S S' s r):S.b r / S.t r s*S.t r s=S.b r:=by
 rw[ę,Rat.mul_assoc,Rat.inv_mul_cancel _ h.n0,Ň]
theorem Stb.feas (h:Stb many m n S S' s r)(f:∀i,i<m->0<=S.b i):∀i,i<m->0<=S'.b i:=fun i hi=>by
 have q:=h.q0 f;rw[h.b' i hi]
 by_cases e:i=r
 ·rw[if_pos e];exact q
 ·rw[if_neg e]
  by_cases tp:0<S.t i s
  ·have l:=(h.least i hi tp).1;have bk:=h.back;have:=h.pos;have k:S.t i s*(S.b r / S.t r s)*S.t r s<=S.b i*S.t r s:=by rw[Rat.mul_assoc,bk,ŕ];exact l
   have:=Rat.le_of_mul_le_mul_right k h.pos
   grind
  ·have tn:S.t i s<=0:=ĵ.mp tp;have:0<=(-S.t i s)*(S.b r / S.t r s):=ĩ (by grind) q;have:=f i hi
   grind
theorem Stb.up (h:Stb many m n S S' s r)(f:∀i,i<m->0<=S.b i):S.z<=S'.z:=by
 have:=ĩ (show 0 <= -S.c s by have:=h.neg;grind) (h.q0 f);rw[h.z'];grind
theorem Stb.still (h:Stb many m n S S' s r)(e:S'.z=S.z):S.b r=0:=by
 have n:=h.neg;rw[h.z']at e;have k:S.c s*(S.b r / S.t r s)=0:=by grind
 rcases Rat.mul_eq_zero.mp k with k | k
 ·rw[k]at n;exact absurd n (by decide)
 ·rw[<- h.back,k,Ğ]
theorem Stb.same (h:Stb many m n S S' s r)(e:S.b r=0){i:Nat}(hi:i<m):S'.b i=S.b i:=by
 rw[h.b' i hi,e,ę,Ğ]
 by_cases q:i=r
 ·rw[if_pos q,q,e]
 ·rw[if_neg q];grind
end
noncomputable def bsol (S:Tb)(m:Nat)(a:Nat->Rat)(j:Nat):Rat:=sN m (fun l=>if S.B l=j then a l else 0)
theorem Β {S:Tb}{m n:Nat}(hB:∀l,l<m->S.B l<n)(a f:Nat->Rat):sN n (fun j=>f j*bsol S m a j)=sN m (fun l=>f (S.B l)*a l):=by
 induction m with
 | zero=>exact Ů fun j _=>by unfold bsol;rw[zH4,Ł]
 | succ m ih =>
  rw[ü,<- ih fun l hl=>hB l (ĺ hl)];have:=Μ n (fun j=>f j*bsol S m a j) (fun j=>if S.B m=j then f j*a m else 0) 1 1;rw[show sN n (fun j=>f j*bsol S (m+1) a j)=sN n (fun j=>f j*bsol S m a j*1+(if S.B m=j then f j*a m else 0)*1) from Ô fun j _=>by
   unfold bsol;rw[ü]
   by_cases e:S.B m=j
   ·rw[if_pos e,if_pos e];grind
   ·rw[if_neg e,if_neg e];grind,this]
  rw[Ź (k:=S.B m) (hB m (ķ m)) fun i _ ne=>if_neg fun z=>ne z.symm,if_pos rfl]
  grind
theorem Tb.Can.inj {S:Tb}{m n:Nat}(g:S.Can m n){i l:Nat}(hi:i<m)(hl:l<m)(e:S.B i=S.B l):i=l:=by
 by_cases q:i=l
 ·exact q
 ·have h1:=g.1 i l hi hl;have h2:=g.1 i i hi hi;rw[if_neg q]at h1;rw[if_pos rfl,e,h1]at h2;exact absurd h2 (by decide)
theorem Tb.Can.row {S:Tb}{m n:Nat}(g:S.Can m n)(a:Nat->Rat){i:Nat}(hi:i<m):sN m (fun l=>S.t i (S.B l)*a l)=a i:=by
 rw[Ź hi fun l hl ne=>by rw[g.1 i l hi hl,if_neg fun z=>ne z.symm,Ğ],g.1 i i hi hi,if_pos rfl,Ť]
theorem xA4 {n:Nat}{f:Nat->Rat}(h:0<sN n f):∃i,i<n /\ 0<f i:=by
 induction n with
 | zero=>rw[zH4]at h;exact absurd h (by decide)
 | succ n ih =>
  by_cases e:0<f n
  ·exact⟨n,ķ n,e⟩
  ·rw[ü]at h;obtain⟨i,hi,hf⟩:=ih (by have:=ĵ.mp e;grind);exact⟨i,ĺ hi,hf⟩
theorem xI9 (s:Nat->Nat){q:Nat}(hq:0<q):∃k,k<q /\ ∀j,j<q->s j<=s k:=by
 induction q with
 | zero=>exact absurd hq (by decide)
 | succ q ih =>
  by_cases e:0<q
  ·obtain⟨k,hk,h⟩:=ih e
   by_cases le:s q<=s k
   ·exact⟨k,ĺ hk,fun j hj=>by
     rcases Ę (ĕ hj) with z | z
     ·exact h j z
     ·rw[z];exact le⟩
   ·exact⟨q,ķ q,fun j hj=>by
     rcases Ę (ĕ hj) with z | z
     ·have:=h j z;lia
     ·rw[z];exact Ć _⟩
  ·refine⟨0,by lia,fun j hj=>?_⟩;have:j=0:=by lia
   rw[this];exact Ć _
section
variable {many m n q:Nat}{S:Nat->Tb}{s r:Nat->Nat}(run:∀k,k<q->Stb many m n (S k) (S (k+1)) (s k) (r k))(can:(S 0).Can m n)(feas:∀i,i<m->0<=(S 0).b i)
noncomputable def Bas (S:Nat->Tb)(m k v:Nat):Prop:=∃i,i<m /\ (S k).B i=v
include run can in
theorem ψ:∀k,k<=q->(S k).Can m n
 | 0,_=>can
 | k+1,h=>(run k h).can (ψ k (Nat.le_of_succ_le h))
include run feas in
theorem zQ5:∀k,k<=q->∀i,i<m->0<=(S k).b i
 | 0,_=>feas
 | k+1,h=>(run k h).feas (zQ5 k (Nat.le_of_succ_le h))
include run in
theorem yJ5 {y:Nat->Rat}{w:Rat}:∀k,k<=q->((S 0).Sol m n y w↔(S k).Sol m n y w)
 | 0,_=>Iff.rfl
 | k+1,h=>(yJ5 k (Nat.le_of_succ_le h)).trans (run k h).sol
include run in
theorem zY3 {y:Nat->Rat}{w:Rat}(g:(S 0).Sol m n y w):∀k,k<=q->sN n (fun j=>(S k).c j*y j) - (S k).z*w=sN n (fun j=>(S 0).c j*y j) - (S 0).z*w
 | 0,_=>rfl
 | k+1,h=>((run k h).cost ((yJ5 run k (Nat.le_of_succ_le h)).mp g)).trans (zY3 g k (Nat.le_of_succ_le h))
include run feas in
theorem z_up {k:Nat}:∀d,k+d<=q->(S k).z<=(S (k+d)).z
 | 0,_=>Ŏ
 | d+1,h=>Rat.le_trans (z_up d (by lia)) ((run (k+d) (by lia)).up (zQ5 run feas (k+d) (by lia)))
include run in
theorem xD8 {k v:Nat}(hk:k<q)(h:Bas S m (k+1) v):v=s k \/ Bas S m k v:=by
 obtain⟨i,hi,e⟩:=h;rw[(run k hk).B' i hi]at e
 by_cases z:i=r k
 ·rw[if_pos z]at e;exact .inl e.symm
 ·rw[if_neg z]at e;exact .inr ⟨i,hi,e⟩
include run in
theorem xD7 {k v:Nat}(hk:k<q)(h:Bas S m k v)(ne:(S k).B (r k)≠v):Bas S m (k+1) v:=by
 obtain⟨i,hi,e⟩:=h;refine⟨i,hi,?_⟩;rw[(run k hk).B' i hi,if_neg (fun z:i=r k=>ne (by rw[<- z];exact e)),e]
include run in
theorem xL7 {k:Nat}(hk:k<q):Bas S m (k+1) (s k):=⟨r k,(run k hk).hr,by rw[(run k hk).B' _ (run k hk).hr,if_pos rfl]⟩
include run can in
theorem xD6 {k:Nat}(hk:k<q):¬Bas S m k (s k):=fun⟨i,hi,e⟩=>by
 have h:=(run k hk).neg;rw[<- e,((ψ run can k (Ĩ hk)).2 i hi).1]at h;exact absurd h (by decide)
include run can in
theorem yV4 {k:Nat}(hk:k<q)(ne:s k≠(S k).B (r k)):¬Bas S m (k+1) ((S k).B (r k)):=fun⟨i,hi,e⟩=>by
 rw[(run k hk).B' i hi]at e
 by_cases z:i=r k
 ·rw[if_pos z]at e;exact ne e
 ·rw[if_neg z]at e;exact z ((ψ run can k (Ĩ hk)).inj hi (run k hk).hr e)
include run in
theorem zL8 {v:Nat}(nl:∀k,k<q->(S k).B (r k)≠v){k:Nat}:∀d,k+d<=q->Bas S m k v->Bas S m (k+d) v
 | 0,_,h=>h
 | d+1,hq,h=>xD7 run (k:=k+d) (by lia) (zL8 nl d (by lia) h) (nl _ (by lia))
include run in
theorem zI0 {v:Nat}(ne:∀k,k<q->s k≠v){k:Nat}:∀d,k+d<=q->¬Bas S m k v->¬Bas S m (k+d) v
 | 0,_,h=>h
 | d+1,hq,h=>fun g=>by
  rcases xD8 run (k:=k+d) (by lia) g with z | z
  ·exact ne (k+d) (by lia) z.symm
  ·exact zI0 ne d (by lia) h z
include run can in
theorem yM6 (ends:∀v,Bas S m 0 v↔Bas S m q v){k:Nat}(hk:k<q):∃j,j<q /\ s j=(S k).B (r k):=by
 apply Classical.byContradiction;intro no;have ne:∀j,j<q->s j≠(S k).B (r k):=fun j hj e=>no ⟨j,hj,e⟩;have out:¬Bas S m q ((S k).B (r k)):=by
  have:=zI0 run ne (k:=k+1) (q - (k+1)) (by lia) (yV4 run can hk (ne k hk))
  rwa [show k+1+(q - (k+1))=q by lia]at this
 have b0:¬Bas S m 0 ((S k).B (r k)):=fun h=>out ((ends _).mp h);have:=zI0 run ne (k:=0) k (by lia) b0;rw[Nat.zero_add]at this;exact this ⟨r k,(run k hk).hr,rfl⟩
include run can in
theorem yQ0 (ends:∀v,Bas S m 0 v↔Bas S m q v){k:Nat}(hk:k<q):∃j,j<q /\ (S j).B (r j)=s k:=by
 apply Classical.byContradiction;intro no;have nl:∀j,j<q->(S j).B (r j)≠s k:=fun j hj e=>no ⟨j,hj,e⟩;have h0:¬Bas S m 0 (s k):=fun h=>by
  have:=zL8 run nl (k:=0) k (by lia) h;rw[Nat.zero_add]at this;exact xD6 run can hk this
 have hq:=zL8 run nl (k:=k+1) (q - (k+1)) (by lia) (xL7 run hk);rw[show k+1+(q - (k+1))=q by lia]at hq;exact h0 ((ends _).mpr hq)
include run can in
theorem xO4 (ends:∀v,Bas S m 0 v↔Bas S m q v):(S q).z=(S 0).z:=by
 have hB:=fun l hl=>(can.2 l hl).2;have sol:(S 0).Sol m n (bsol (S 0) m (S 0).b) 1:=fun i hi=>by rw[Β hB,can.row _ hi,Ň]
 have g:=zY3 run sol q (Ć q);rw[Β hB,Β hB,Ů (f:=fun l=>(S 0).c ((S 0).B l)*(S 0).b l) fun l hl=>by rw[(can.2 l hl).1,Ğ],Ů fun l hl=>by
  obtain⟨i,hi,e⟩:=(ends ((S 0).B l)).mp ⟨l,hl,rfl⟩;rw[<- e,((ψ run can q (Ć q)).2 i hi).1,Ğ]]at g
 grind
include run can feas in
theorem yC5 (ends:∀v,Bas S m 0 v↔Bas S m q v){k:Nat}(hk:k<q):(S k).b (r k)=0:=by
 refine(run k hk).still ?_;have h1:=z_up run feas (k:=0) k (by lia);have h2:=(run k hk).up (zQ5 run feas k (by lia));have h3:=z_up run feas (k:=k+1) (q - (k+1)) (by lia);rw[Nat.zero_add]at h1;rw[show k+1+(q - (k+1))=q by lia,xO4 run can ends]at h3
 grind
include run can feas in
theorem yR0 (ends:∀v,Bas S m 0 v↔Bas S m q v){i:Nat}(hi:i<m):∀k,k<=q->(S k).b i=(S 0).b i
 | 0,_=>rfl
 | k+1,h=>((run k h).same (yC5 run can feas ends h) hi).trans (yR0 ends hi k (by lia))
include run in
theorem zN1 {i:Nat}(hi:i<m)(nr:∀k,k<q->r k≠i):∀k,k<=q->(S k).B i=(S 0).B i
 | 0,_=>rfl
 | k+1,h=>by rw[(run k h).B' i hi,if_neg fun z=>nr k h z.symm];exact zN1 hi nr k (by lia)
include run can feas in
theorem yT8 (hq:0<q)(ends:∀v,Bas S m 0 v↔Bas S m q v):False:=by
 obtain⟨ke,hke,top⟩:=xI9 s hq;obtain⟨ko,hko,eo⟩:=yQ0 run can ends hke;have D:=ψ run can ko (Ĩ hko);have so:=run ko hko;have se:=run ke hke;have hB:=fun l hl=>(D.2 l hl).2;have sn:s ko<n:=Ă so.hs so.mn;let a:Nat->Rat:=fun l=>-(S ko).t l (s ko);let y:Nat->Rat:=fun j=>bsol (S ko) m a j+if j=s ko then 1 else 0;have sum:∀f:Nat->Rat,sN n (fun j=>f j*y j)=sN m (fun l=>f ((S ko).B l)*a l)+f (s ko):=fun f=>by
  have h:=Μ n (fun j=>f j*bsol (S ko) m a j) (fun j=>if j=s ko then f j else 0) 1 1;rw[show sN n (fun j=>f j*y j)=sN n (fun j=>f j*bsol (S ko) m a j*1+(if j=s ko then f j else 0)*1) from Ô fun j _=>by
   show f j*(bsol (S ko) m a j+if j=s ko then 1 else 0)=_
   by_cases e:j=s ko
   ·rw[if_pos e,if_pos e];grind
   ·rw[if_neg e,if_neg e];grind,h,Β hB,Ź (k:=s ko) sn fun i _ ne=>if_neg ne,if_pos rfl]
  grind
 have sol:(S ko).Sol m n y 0:=fun i hi=>by
  rw[sum,D.row a hi,Ł];show -(S ko).t i (s ko)+(S ko).t i (s ko)=0
  grind
 have sol0:=(yJ5 run ko (Ĩ hko)).mpr sol;have c1:=zY3 run sol0 ko (Ĩ hko);have c2:=zY3 run sol0 ke (Ĩ hke);rw[<- c1,sum,sum,Ů (f:=fun l=>(S ko).c ((S ko).B l)*a l) fun l hl=>by rw[(D.2 l hl).1,Ğ]]at c2;have ct:(S ko).c (s ke)=0:=by rw[<- eo];exact(D.2 _ so.hr).1
 have lt:s ko<s ke:=by
  rcases Ę (top ko hko) with z | z
  ·exact z
  ·have:=so.neg;rw[z,ct]at this;exact absurd this (by decide)
 have cs:=se.fst (s ko) lt;have neg:=so.neg;have tot:0<sN m (fun l=>(S ke).c ((S ko).B l)*(S ko).t l (s ko)):=by
  have:=ų m (fun l=>(S ke).c ((S ko).B l)*(S ko).t l (s ko)) (-1);rw[show sN m (fun l=>(S ke).c ((S ko).B l)*a l)=sN m (fun l=>(S ke).c ((S ko).B l)*(S ko).t l (s ko) * -1) from Ô fun l _=>by
   show _ * -(S ko).t l (s ko)=_
   grind,this]at c2
  grind
 obtain⟨l,hl,pl⟩:=xA4 tot;have nz:¬Bas S m ke ((S ko).B l):=fun⟨i,hi,e⟩=>by
  rw[<- e,((ψ run can ke (Ĩ hke)).2 i hi).1,Ğ]at pl;exact absurd pl (by decide)
 have fick:∃j,j<q /\ s j=(S ko).B l:=by
  apply Classical.byContradiction;intro no;have ne:∀j,j<q->s j≠(S ko).B l:=fun j hj e=>no ⟨j,hj,e⟩;have nl:∀j,j<q->(S j).B (r j)≠(S ko).B l:=fun j hj e=>by
   obtain⟨j',hj',e'⟩:=yM6 run can ends hj;exact no ⟨j',hj',e'.trans e⟩
  by_cases le:ko<=ke
  ·have:=zL8 run nl (k:=ko) (ke - ko) (by lia) ⟨l,hl,rfl⟩;rw[show ko+(ke - ko)=ke by lia]at this;exact nz this
  ·have:=zI0 run ne (k:=ke) (ko - ke) (by lia) nz;rw[show ke+(ko - ke)=ko by lia]at this;exact this ⟨l,hl,rfl⟩
 obtain⟨j,hj,ej⟩:=fick;have le:=top j hj;have ne:(S ko).B l≠s ke:=fun e=>by
  have:=D.inj hl so.hr (e.trans eo.symm);have p1:=so.pos;have n1:=se.neg;rw[e,this]at pl;have:=ĩ (show 0 <= -(S ke).c (s ke) by grind) (Ŗ p1)
  grind
 have vlt:(S ko).B l<s ke:=by lia
 have cv:=se.fst _ vlt;have tp:0<(S ko).t l (s ko):=by
  apply Classical.byContradiction;intro z;have:=ĩ cv (show 0 <= -(S ko).t l (s ko) by have:=ĵ.mp z;grind)
  grind
 have b0:(S ko).b l=0:=by
  rw[yR0 run can feas ends hl ko (Ĩ hko)];apply Classical.byContradiction;intro z;have nr:∀k,k<q->r k≠l:=fun k hk e=>z (by
   rw[<- yR0 run can feas ends hl k (Ĩ hk),<- e];exact yC5 run can feas ends hk)
  refine nz ⟨l,hl,?_⟩;rw[zN1 run hl nr ke (Ĩ hke),zN1 run hl nr ko (Ĩ hko)]
 have:=(so.least l hl tp).2 (by rw[b0,yC5 run can feas ends hko,Ğ,Ğ]);rw[eo]at this;lia
end
open Classical in
noncomputable def cdB (P:Nat->Prop):Nat->Nat
 | 0=>0
 | n+1=>cdB P n+if P n then 2^n else 0
theorem yG2 (P:Nat->Prop):∀n,cdB P n<2^n
 | 0=>Nat.zero_lt_one
 | n+1=>by
  have:=yG2 P n;unfold cdB;rw[ł]
  split<;>lia
theorem yY4 {P Q:Nat->Prop}:∀n,cdB P n=cdB Q n->∀v,v<n->(P v↔Q v)
 | 0,_,_,h=>absurd h (ņ _)
 | n+1,e,v,h=>by
  have h1:=yG2 P n;have h2:=yG2 Q n;unfold cdB at e;have both:cdB P n=cdB Q n /\ (P n↔Q n):=by
   by_cases p:P n<;>by_cases q:Q n
   ·rw[if_pos p,if_pos q]at e;exact⟨by lia,⟨fun _=>q,fun _=>p⟩⟩
   ·rw[if_pos p,if_neg q]at e;lia
   ·rw[if_neg p,if_pos q]at e;lia
   ·rw[if_neg p,if_neg q]at e;exact⟨by lia,⟨fun z=>absurd z p,fun z=>absurd z q⟩⟩
  rcases Ę (ĕ h) with z | z
  ·exact yY4 n both.1 v z
  ·rw[z];exact both.2
theorem xH0 {f:Nat->Nat}{N:Nat}(h:∀k,k<=N->f k<N):∃i j,i<j /\ j<=N /\ f i=f j:=by
 apply Classical.byContradiction;intro no;have inj:∀i j,i<j->j<=N->f i≠f j:=fun i j h1 h2 e=>no ⟨i,j,h1,h2,e⟩;have nd:((Đ (N+1)).map f).Nodup:=by
  refine List.Pairwise.map f (R:=fun i j=>f i≠f j) (fun _ _ z=>z) ?_;refine List.Pairwise.imp_of_mem ?_ List.pairwise_lt_range;intro i j hi hj hlt;exact inj i j hlt (ĕ (ğ.mp hj))
 have:=zI5 (L:=Đ N) nd fun x hx=>by
  obtain⟨k,hk,rfl⟩:=ŀ.mp hx;exact ğ.mpr (h k (ĕ (ğ.mp hk)))
 rw[ą,ē,ē]at this;lia
theorem yO5 {many m n q:Nat}{S:Nat->Tb}{s r:Nat->Nat}(run:∀k,k<q->Stb many m n (S k) (S (k+1)) (s k) (r k))(can:(S 0).Can m n)(feas:∀i,i<m->0<=(S 0).b i):q<2^n:=by
 apply Classical.byContradiction;intro no;obtain⟨i,j,hij,hj,e⟩:=xH0 (f:=fun k=>cdB (Bas S m k) n) (N:=2^n) fun k _=>yG2 _ _;have eq:=yY4 n e;have C:=fun k (hk:k<=q)=>ψ run can k hk;refine yT8 (S:=fun k=>S (i+k)) (s:=fun k=>s (i+k)) (r:=fun k=>r (i+k)) (many:=many) (m:=m) (n:=n) (q:=j - i) (fun k hk=>run (i+k) (by lia)) (C i (by lia)) (zQ5 run feas i (by lia)) (by lia) fun v=>?_;have hb:∀k,k<=q->Bas S m k v->v<n:=fun k hk ⟨l,hl,e⟩=>e▸((C k hk).2 l hl).2;have e1:Bas (fun k=>S (i+k)) m (j - i) v↔Bas S m j v:=by
  show (∃l,l<m /\ (S (i+(j - i))).B l=v)↔_;rw[show i+(j - i)=j by lia];exact Iff.rfl
 rw[e1];show Bas S m i v↔_
 by_cases h:v<n
 ·exact eq v h
 ·exact⟨fun g=>absurd (hb i (by lia) g) h,fun g=>absurd (hb j (by lia) g) h⟩
theorem zR6 (m n:Nat)(f:Nat->Nat->Rat):sN m (fun i=>sN n (fun j=>f i j))=sN n (fun j=>sN m (fun i=>f i j)):=by
 induction m with
 | zero=>exact(Ů fun j _=>rfl).symm
 | succ m ih =>
  rw[ü,ih];have:=Μ n (fun j=>sN m (fun i=>f i j)) (fun j=>f m j) 1 1;rw[show sN n (fun j=>sN (m+1) (fun i=>f i j))=sN n (fun j=>sN m (fun i=>f i j)*1+f m j*1) from Ô fun j _=>by rw[ü];grind,this]
  grind
noncomputable def red (S:Tb)(m:Nat)(f:Nat->Rat)(j:Nat):Rat:=f j - sN m (fun i=>f (S.B i)*S.t i j)
noncomputable def redb (S:Tb)(m:Nat)(f:Nat->Rat)(d:Rat):Rat:=d - sN m (fun i=>f (S.B i)*S.b i)
section
variable {many m n:Nat}{S S':Tb}{s r:Nat}
theorem Stb.sumAt (h:Stb many m n S S' s r)(f u u':Nat->Rat)(q:Rat)(hu:∀i,i<m->u' i=if i=r then q else u i - S.t i s*q)(hq:u r - S.t r s*q=0):sN m (fun i=>f (S'.B i)*u' i)=sN m (fun i=>f (S.B i)*u i) - q*sN m (fun i=>f (S.B i)*S.t i s)+f s*q:=by
 have e1:sN m (fun i=>f (S'.B i)*u' i)=sN m (fun i=>(f (S.B i)*(u i - S.t i s*q))*1+(if i=r then f s*q else 0)*1):=Ô fun i hi=>by
  rw[h.B' i hi,hu i hi]
  by_cases e:i=r
  ·rw[if_pos e,if_pos e,if_pos e,e,hq];grind
  ·rw[if_neg e,if_neg e,if_neg e];grind
 have e2:sN m (fun i=>f (S.B i)*(u i - S.t i s*q))=sN m (fun i=>f (S.B i)*u i*1+f (S.B i)*S.t i s*(-q)):=Ô fun i _=>by grind
 rw[e1,Μ,e2,Μ,Ź (k:=r) h.hr fun i _ ne=>if_neg ne,if_pos rfl]
 grind
theorem Stb.zq (h:Stb many m n S S' s r)(x:Rat):x - S.t r s*(x / S.t r s)=0:=by
 have:S.t r s*(S.t r s)⁻¹=1:=Ŕ _ h.n0;rw[ę];grind
theorem Stb.red (h:Stb many m n S S' s r)(f:Nat->Rat){j:Nat}(hj:j<n):red S' m f j=red S m f j - red S m f s*(S.t r j / S.t r s):=by
 unfold Tc.red;rw[h.sumAt f (fun i=>S.t i j) (fun i=>S'.t i j) (S.t r j / S.t r s) (fun i hi=>h.t' i j hi hj) (h.zq _)]
 grind
theorem Stb.redb (h:Stb many m n S S' s r)(f:Nat->Rat)(d:Rat):redb S' m f d=redb S m f d - Tc.red S m f s*(S.b r / S.t r s):=by
 unfold Tc.redb Tc.red;rw[h.sumAt f S.b S'.b (S.b r / S.t r s) (fun i hi=>h.b' i hi) (h.zq _)]
 grind
end
section
variable {many m n q:Nat}{S:Nat->Tb}{s r:Nat->Nat}(run:∀k,k<q->Stb many m n (S k) (S (k+1)) (s k) (r k))(can:(S 0).Can m n)
include run can in
include run can in
include run can in
include run can in
include run can in
include run can in
end
theorem yG8 {n:Nat}{f:Nat->Rat}(h:∀i,i<n->0<=f i):0<=sN n f:=by
 induction n with
 | zero=>exact Ŏ
 | succ n ih =>
  rw[ü];have:=ih fun i hi=>h i (ĺ hi);have:=h n (ķ n)
  grind
theorem yQ7 {S:Tb}{m:Nat}{a:Nat->Rat}(h:∀i,i<m->0<=a i)(j:Nat):0<=bsol S m a j:=yG8 fun i hi=>by
 by_cases e:S.B i=j
 ·rw[if_pos e];exact h i hi
 ·rw[if_neg e];exact Ŏ
section
variable {many m n q:Nat}{S:Nat->Tb}{s r:Nat->Nat}(run:∀k,k<q->Stb many m n (S k) (S (k+1)) (s k) (r k))(can:(S 0).Can m n)(feas:∀i,i<m->0<=(S 0).b i)
include run can feas in
theorem leaves {L:Rat}(bnd:∀y:Nat->Rat,(∀j,j<n->0<=y j)->(S 0).Sol m n y 1->L<=sN n (fun j=>(S 0).c j*y j)){k:Nat}(hk:k<=q){t:Nat}(ht:t<n)(neg:(S k).c t<0):∃i,i<m /\ 0<(S k).t i t:=by
 apply Classical.byContradiction;intro no;have np:∀i,i<m->(S k).t i t<=0:=fun i hi=>ĵ.mp fun z=>no ⟨i,hi,z⟩;have C:=ψ run can k hk;have F:=zQ5 run feas k hk;have hB:=fun l hl=>(C.2 l hl).2;have key:∀θ:Rat,0<=θ->L<=θ*(S k).c t+(S 0).z - (S k).z:=fun θ h0=>by
  let a:Nat->Rat:=fun l=>(S k).b l+θ * -(S k).t l t;let y:Nat->Rat:=fun j=>bsol (S k) m a j+if j=t then θ else 0;have sum:∀f:Nat->Rat,sN n (fun j=>f j*y j)=sN m (fun l=>f ((S k).B l)*a l)+f t*θ:=fun f=>by
   have h:=Μ n (fun j=>f j*bsol (S k) m a j) (fun j=>if j=t then f j*θ else 0) 1 1;rw[show sN n (fun j=>f j*y j)=sN n (fun j=>f j*bsol (S k) m a j*1+(if j=t then f j*θ else 0)*1) from Ô fun j _=>by
    show f j*(bsol (S k) m a j+if j=t then θ else 0)=_
    by_cases e:j=t
    ·rw[if_pos e,if_pos e];grind
    ·rw[if_neg e,if_neg e];grind,h,Β hB,Ź (k:=t) ht fun i _ ne=>if_neg ne,if_pos rfl]
   grind
  have sol:(S k).Sol m n y 1:=fun i hi=>by
   rw[sum,C.row a hi,Ň];show (S k).b i+θ * -(S k).t i t+(S k).t i t*θ=(S k).b i
   grind
  have sol0:=(yJ5 run k hk).mpr sol;have yn:∀j,j<n->0<=y j:=fun j _=>by
   have h1:0<=bsol (S k) m a j:=yQ7 (fun i hi=>by
    have:=ĩ h0 (show 0 <= -(S k).t i t by have:=np i hi;grind);have:=F i hi;show 0<=(S k).b i+θ * -(S k).t i t
    grind) j
   show 0<=bsol (S k) m a j+if j=t then θ else 0
   by_cases e:j=t
   ·rw[if_pos e];grind
   ·rw[if_neg e];grind
  have g:=bnd y yn sol0;have c:=zY3 run sol0 k hk;rw[sum,Ů (f:=fun l=>(S k).c ((S k).B l)*a l) fun l hl=>by rw[(C.2 l hl).1,Ğ]]at c
  grind
 by_cases K:(S 0).z - (S k).z - L<0
 ·have:=key 0 Ŏ
  grind
 ·have K:=ĵ.mp K;have np:(0:Rat) < -(S k).c t:=by grind
  have i1:(-(S k).c t)*(-(S k).c t)⁻¹=1:=Ŕ _ fun e=>by rw[e]at np;exact absurd np (by decide)
  have ip:0<(-(S k).c t)⁻¹:=Rat.inv_pos.mpr np;have:=key (((S 0).z - (S k).z - L+1)*(-(S k).c t)⁻¹) (ĩ (by grind) (Ŗ ip));have e:((S 0).z - (S k).z - L+1)*(-(S k).c t)⁻¹*(S k).c t = -((S 0).z - (S k).z - L+1):=by
   have:((S 0).z - (S k).z - L+1)*(-(S k).c t)⁻¹*(S k).c t = -(((S 0).z - (S k).z - L+1)*((-(S k).c t)*(-(S k).c t)⁻¹)):=by grind
   rw[this,i1,Ň]
  rw[e]at this
  grind
include run can feas in
include run in
end
noncomputable def tbM (mm n:Nat)(M:Nat->Nat->Rat)(B:Nat->Nat):Tb:={ t:=M,b:=fun i=>M i n,c:=M mm,z:=M mm n,B:=B }
theorem xF3 {many mm n:Nat}{M:Nat->Nat->Rat}{B:Nat->Nat}{s r:Nat}(hs:s<many)(mn:many<=n)(neg:M mm s<0)(fst:∀j,j<s->0<=M mm j)(hr:r<mm)(pos:0<M r s)
  (least:∀i,i<mm->0<M i s->M r n*M i s<=M i n*M r s /\ (M r n*M i s=M i n*M r s->B r<=B i)) :
  Stb many mm n (tbM mm n M B) (tbM mm n (pivM M r s) fun i=>if i=r then s else B i) s r:=by
 have ne:mm≠r:=fun e=>by lia
 have row:∀i j,pivM M r s i j=if i=r then M r j / M r s else M i j - M i s*(M r j / M r s):=fun i j=>by
  unfold pivM
  by_cases e:i=r
  ·rw[if_pos e,if_pos e]
  ·rw[if_neg e,if_neg e,ŕ]
 exact { hs:=hs,mn:=mn,neg:=neg,fst:=fst,hr:=hr,pos:=pos,least:=least,t':=fun i j _ _=>row i j,b':=fun i _=>row i n,c':=fun j _=>by show pivM M r s mm j=_;rw[row,if_neg ne];rfl,z':=by show pivM M r s mm n=_;rw[row,if_neg ne];rfl,B':=fun i _=>rfl }
structure Frm (m n:Nat)(F S:Tb):Prop where
 can:∀i l,i<m->l<m->S.t i (S.B l)=if i=l then 1 else 0
 lt:∀l,l<m->S.B l<n
 sol:∀(y:Nat->Rat) (w:Rat),F.Sol m n y w↔S.Sol m n y w
theorem yZ7 {S:Tb}{m n j:Nat}(hB:∀l,l<m->S.B l<n)(hj:j<n)(a f:Nat->Rat)(θ:Rat):sN n (fun k=>f k*(bsol S m a k+if k=j then θ else 0))=sN m (fun l=>f (S.B l)*a l)+f j*θ:=by
 have h:=Μ n (fun k=>f k*bsol S m a k) (fun k=>if k=j then f k*θ else 0) 1 1;rw[show sN n (fun k=>f k*(bsol S m a k+if k=j then θ else 0))=sN n (fun k=>f k*bsol S m a k*1+(if k=j then f k*θ else 0)*1) from Ô fun k _=>by
  by_cases e:k=j
  ·rw[if_pos e,if_pos e];grind
  ·rw[if_neg e,if_neg e];grind,h,Β hB,Ź (k:=j) hj fun i _ ne=>if_neg ne,if_pos rfl]
 grind
section
variable {m n:Nat}{F S:Tb}
theorem Frm.row (h:Frm m n F S)(a:Nat->Rat){i:Nat}(hi:i<m):sN m (fun l=>S.t i (S.B l)*a l)=a i:=by
 rw[Ź hi fun l hl ne=>by rw[h.can i l hi hl,if_neg fun z=>ne z.symm,Ğ],h.can i i hi hi,if_pos rfl,Ť]
theorem Frm.inj (g:Frm m n F S){i l:Nat}(hi:i<m)(hl:l<m)(e:S.B i=S.B l):i=l:=by
 by_cases q:i=l
 ·exact q
 ·have h1:=g.can i l hi hl;have h2:=g.can i i hi hi;rw[if_neg q]at h1;rw[if_pos rfl,e,h1]at h2;exact absurd h2 (by decide)
theorem zR7 (n:Nat)(f:Nat->Rat):sN n (fun i=>-f i) = -sN n f:=by
 have:=ų n f (-1);rw[show sN n (fun i=>-f i)=sN n (fun i=>f i * -1) from Ô fun i _=>by grind,this];grind
theorem Frm.eq (h:Frm m n F S){i j:Nat}(hi:i<m)(hj:j<n):F.t i j=sN m (fun l=>F.t i (S.B l)*S.t l j):=by
 have sum:=fun f=>yZ7 (S:=S) h.lt hj (fun l=>-S.t l j) f 1;have ng:∀f:Nat->Rat,sN m (fun l=>f (S.B l) * -S.t l j) = -sN m (fun l=>f (S.B l)*S.t l j):=fun f=>by
  rw[<- zR7];exact Ô fun l _=>by grind
 have g:=(h.sol (fun k=>bsol S m (fun l=>-S.t l j) k+if k=j then 1 else 0) 0).mpr (fun i hi=>by
  rw[sum,ng,h.row _ hi];grind) i hi
 rw[sum,ng]at g
 grind
theorem Frm.basic (h:Frm m n F S):F.Sol m n (bsol S m S.b) 1:=(h.sol _ _).mpr fun i hi=>by rw[Β h.lt,h.row _ hi,Ň]
theorem Frm.eqb (h:Frm m n F S){i:Nat}(hi:i<m):F.b i=sN m (fun l=>F.t i (S.B l)*S.b l):=by
 have g:=h.basic i hi;rw[Β h.lt]at g;rw[g,Ň]
theorem Frm.ker (h:Frm m n F S)(h0:Frm m n F F){w:Nat->Rat}(g:∀l,l<m->sN m (fun z=>w z*F.t z (S.B l))=0){z:Nat}(hz:z<m):w z=0:=by
 have all:∀j,j<n->sN m (fun z=>w z*F.t z j)=0:=fun j hj=>by
  rw[show sN m (fun z=>w z*F.t z j)=sN m (fun z=>w z*sN m (fun l=>F.t z (S.B l)*S.t l j)) from Ô fun z hz=>by rw[<- h.eq hz hj]];rw[show sN m (fun z=>w z*sN m (fun l=>F.t z (S.B l)*S.t l j))=sN m (fun l=>sN m (fun z=>w z*F.t z (S.B l))*S.t l j) from ?_]
  ·exact Ů fun l hl=>by rw[g l hl,Ğ]
  ·rw[show sN m (fun z=>w z*sN m (fun l=>F.t z (S.B l)*S.t l j))=sN m (fun z=>sN m (fun l=>w z*F.t z (S.B l)*S.t l j)) from Ô fun z _=>by
    rw[ŕ,<- ų];exact Ô fun l _=>by grind]
   rw[zR6];exact Ô fun l _=>ų m _ _
 have g:=all (F.B z) (h0.lt z hz);rw[Ź (k:=z) hz fun i hi ne=>by rw[h0.can i z hi hz,if_neg ne,Ł],h0.can z z hz hz,if_pos rfl,Ň]at g;exact g
theorem zL9 {f y:Nat->Rat}{d:Rat}(h:S.Sol m n y 1):sN n (fun j=>red S m f j*y j) - redb S m f d=sN n (fun j=>f j*y j) - d:=by
 have e1:sN n (fun j=>red S m f j*y j)=sN n (fun j=>f j*y j*1+sN m (fun i=>f (S.B i)*S.t i j)*y j * -1):=Ô fun j _=>by unfold red;grind
 have e2:sN n (fun j=>sN m (fun i=>f (S.B i)*S.t i j)*y j)=sN m (fun i=>f (S.B i)*S.b i):=by
  rw[show sN n (fun j=>sN m (fun i=>f (S.B i)*S.t i j)*y j)=sN n (fun j=>sN m (fun i=>f (S.B i)*S.t i j*y j)) from Ô fun j _=>(ų m _ _).symm,<- zR6];refine Ô fun i hi=>?_;rw[show sN n (fun j=>f (S.B i)*S.t i j*y j)=sN n (fun j=>S.t i j*y j*f (S.B i)) from Ô fun j _=>by grind,ų,h i hi]
  grind
 rw[e1,Μ,e2];unfold redb
 grind
theorem Frm.red0 (h:Frm m n F S)(f:Nat->Rat){l:Nat}(hl:l<m):red S m f (S.B l)=0:=by
 unfold red;rw[Ź hl fun i hi ne=>by rw[h.can i l hi hl,if_neg ne,Ł],h.can l l hl hl,if_pos rfl];grind
end
section
variable {many m n q:Nat}{F:Tb}{S:Nat->Tb}{s r:Nat->Nat}(run:∀k,k<q->Stb many m n (S k) (S (k+1)) (s k) (r k))
include run in
theorem xG3 {f:Nat->Rat}{d:Rat}(h0:∀j,j<n->(S 0).c j=red (S 0) m f j)(hz:(S 0).z=redb (S 0) m f d):∀k,k<=q->(∀j,j<n->(S k).c j=red (S k) m f j) /\ (S k).z=redb (S k) m f d
 | 0,_=>⟨h0,hz⟩
 | k+1,h=>by
  obtain⟨h1,h2⟩:=xG3 h0 hz k (by lia);have hk:=run k h;have hs:=h1 (s k) (Ă hk.hs hk.mn);exact⟨fun j hj=>by rw[hk.c' j hj,hk.red _ hj,h1 j hj,hs],by rw[hk.z',hk.redb,h2,hs]⟩
theorem Frm.can0 {f:Nat->Rat}{S:Tb}(h:Frm m n F S)(h0:∀j,j<n->S.c j=red S m f j):S.Can m n:=⟨h.can,fun l hl=>⟨by rw[h0 _ (h.lt l hl),h.red0 f hl],h.lt l hl⟩⟩
include run in
theorem xO3 (h:Frm m n F (S 0))(can:(S 0).Can m n){k:Nat}(hk:k<=q):Frm m n F (S k) :=
 ⟨(ψ run can k hk).1,fun l hl=>((ψ run can k hk).2 l hl).2,fun y w=>(h.sol y w).trans (yJ5 run k hk)⟩
include run in
theorem xI4 {v:Nat}(hv:many<=v)(h0:∀i,i<m->(S 0).B i≠v):∀k,k<=q->∀i,i<m->(S k).B i≠v
 | 0,_=>h0
 | k+1,h=>fun i hi e=>by
  have hk:=run k h;rw[hk.B' i hi]at e
  by_cases z:i=r k
  ·rw[if_pos z]at e;have:=hk.hs;lia
  ·rw[if_neg z]at e;exact xI4 hv h0 k (by lia) i hi e
end
theorem Frm.piv {m n:Nat}{F:Tb}{mm:Nat}{M:Nat->Nat->Rat}{B:Nat->Nat}{at' col:Nat}(h:Frm m n F (tbM mm n M B))(hr:at'<m)(hc:col<n)(ne:M at' col≠0):Frm m n F (tbM mm n (pivM M at' col) fun i=>if i=at' then col else B i):=by
 have row:∀i j,pivM M at' col i j=if i=at' then M at' j / M at' col else M i j - M i col*(M at' j / M at' col):=fun i j=>by
  unfold pivM
  by_cases e:i=at'
  ·rw[if_pos e,if_pos e]
  ·rw[if_neg e,if_neg e,ŕ]
 have self:M at' col / M at' col=1:=by rw[ę];exact Ŕ _ ne
 have i1:(M at' col)⁻¹*M at' col=1:=Rat.inv_mul_cancel _ ne;refine⟨fun i l hi hl=>?_,fun l hl=>?_,fun y w=>(h.sol y w).trans ?_⟩
 ·show pivM M at' col i (if l=at' then col else B l)=_
  by_cases el:l=at'
  ·rw[if_pos el,row,self]
   by_cases e:i=at'
   ·rw[if_pos e,if_pos (e.trans el.symm)]
   ·rw[if_neg e,if_neg (fun z=>e (z.trans el))];grind
  ·have rl:M at' (B l)=0:=by have:=h.can at' l hr hl;rw[if_neg (fun z=>el z.symm)]at this;exact this
   have il:M i (B l)=if i=l then 1 else 0:=h.can i l hi hl;rw[if_neg el,row,rl,ę,Ğ]
   by_cases e:i=at'
   ·rw[if_pos e,if_neg (fun z=>el (z.symm.trans e))]
   ·rw[if_neg e,il];grind
 ·show (if l=at' then col else B l)<n
  by_cases el:l=at'
  ·rw[if_pos el];exact hc
  ·rw[if_neg el];exact h.lt l hl
 ·have rowS:∀i,i<m->sN n (fun j=>pivM M at' col i j*y j)=if i=at' then sN n (fun j=>M at' j*y j)*(M at' col)⁻¹ else sN n (fun j=>M i j*y j) - M i col*(sN n (fun j=>M at' j*y j)*(M at' col)⁻¹):=fun i hi=>by
   by_cases e:i=at'
   ·rw[if_pos e,<- ų];refine Ô fun j hj=>?_;rw[row,if_pos e,ę];grind
   ·rw[if_neg e];have:=Μ n (fun j=>M i j*y j) (fun j=>M at' j*y j) 1 (-(M i col*(M at' col)⁻¹));rw[show sN n (fun j=>pivM M at' col i j*y j)=sN n (fun j=>M i j*y j*1+M at' j*y j*(-(M i col*(M at' col)⁻¹))) from Ô fun j hj=>by rw[row,if_neg e,ę];grind,this]
    grind
  constructor
  ·intro g i hi;have gr:sN n (fun j=>M at' j*y j)=M at' n*w:=g at' hr;have gi:sN n (fun j=>M i j*y j)=M i n*w:=g i hi;show sN n (fun j=>pivM M at' col i j*y j)=pivM M at' col i n*w;rw[rowS i hi,row,gr]
   by_cases e:i=at'
   ·rw[if_pos e,if_pos e,ę];grind
   ·rw[if_neg e,if_neg e,gi,ę];grind
  ·intro g;have gr:sN n (fun j=>pivM M at' col at' j*y j)=pivM M at' col at' n*w:=g at' hr;rw[rowS at' hr,row,if_pos rfl,if_pos rfl,ę]at gr;have er:sN n (fun j=>M at' j*y j)=M at' n*w:=by
    have:=congrArg (· * M at' col) gr
    grind
   intro i hi;show sN n (fun j=>M i j*y j)=M i n*w
   by_cases e:i=at'
   ·rw[e];exact er
   ·have gi:sN n (fun j=>pivM M at' col i j*y j)=pivM M at' col i n*w:=g i hi;rw[rowS i hi,row,if_neg e,if_neg e,er,ę]at gi
    grind
theorem yE3 (a b:Nat)(f:Nat->Rat):sN (a+b) f=sN a f+sN b (fun k=>f (a+k)):=by
 induction b with
 | zero=>rw[zH4];grind
 | succ b ih=>rw[show a+(b+1)=a+b+1 from rfl,ü,ü,ih];grind
theorem yW4 {w x:Nat}(hx:x<w)(f g:Nat->Rat)(t:Rat):sN w (fun j=>f j*(if j=x then t else g j))=sN w (fun j=>f j*g j)+f x*(t - g x):=by
 have h:=Μ w (fun j=>f j*g j) (fun j=>if j=x then f j*(t - g j) else 0) 1 1;rw[show sN w (fun j=>f j*(if j=x then t else g j))=sN w (fun j=>f j*g j*1+(if j=x then f j*(t - g j) else 0)*1) from Ô fun j _=>by
  by_cases e:j=x
  ·rw[if_pos e,if_pos e];grind
  ·rw[if_neg e,if_neg e];grind,h,Ź (k:=x) hx fun i _ ne=>if_neg ne,if_pos rfl]
 grind
theorem xA3 {w x:Nat}(hx:x<w)(g:Nat->Rat)(t:Rat):sN w (fun j=>if j=x then t else g j)=sN w g+(t - g x):=by
 have h:=yW4 hx (fun _=>1) g t;rw[show sN w (fun j=>(fun _=>(1:Rat)) j*(if j=x then t else g j))=sN w (fun j=>if j=x then t else g j) from Ô fun j _=>Ť _,show sN w (fun j=>(fun _=>(1:Rat)) j*g j)=sN w g from Ô fun j _=>Ť _]at h;rw[h];grind
theorem xA5 {w:Nat}{f g:Nat->Rat}(h:∀j,j<w->f j<=g j):sN w f<=sN w g:=by
 induction w with
 | zero=>exact Ŏ
 | succ w ih =>
  rw[ü,ü];have:=ih fun j hj=>h j (ĺ hj);have:=h w (ķ w)
  grind
noncomputable def rwA (w k:Nat)(Wt:Nat->Nat->Rat)(i j:Nat):Rat:=if i<w then (if j=i then 1 else 0) else if i<w+k then 0 - Wt (i - w) j else 1
noncomputable def rwB (w k:Nat)(T:Nat->Rat)(wd:Rat)(i:Nat):Rat:=if i<w then T i else if i<w+k then 0 else wd
noncomputable def rwM (w k:Nat)(Wt:Nat->Nat->Rat)(T:Nat->Rat)(wd:Rat)(i j:Nat):Rat:=if j<w then rwA w k Wt i j else if j<2*w+k+1 then (if j=w+i then 1 else 0) else rwB w k T wd i
structure Fsb (w k:Nat)(Wt:Nat->Nat->Rat)(T:Nat->Rat)(wd:Rat)(y:Nat->Rat):Prop where
 low:∀j,j<w->0<=y j /\ y j<=T j
 sum:sN w y=wd
 wts:∀c,c<k->0<=sN w (fun j=>Wt c j*y j)
section
variable {w k mm:Nat}{Wt:Nat->Nat->Rat}{T:Nat->Rat}{wd:Rat}
noncomputable def Frw (w k:Nat)(Wt:Nat->Nat->Rat)(T:Nat->Rat)(wd:Rat):Tb:=tbM (w+k+1) (2*w+k+1) (rwM w k Wt T wd) (fun i=>w+i)
theorem yW5 {i:Nat}(hi:i<w+k+1)(Y:Nat->Rat):sN (2*w+k+1) (fun j=>rwM w k Wt T wd i j*Y j)=sN w (fun j=>rwA w k Wt i j*Y j)+Y (w+i):=by
 rw[show 2*w+k+1=w+(w+k+1) by lia,yE3];rw[show sN w (fun j=>rwM w k Wt T wd i j*Y j)=sN w (fun j=>rwA w k Wt i j*Y j) from Ô fun j hj=>by unfold rwM;rw[if_pos hj]];rw[Ź (k:=i) hi fun l hl ne=>by unfold rwM;rw[if_neg (by lia),if_pos (by lia),if_neg (by lia),Ğ]]
 congr 1
 unfold rwM;rw[if_neg (by lia),if_pos (by lia),if_pos rfl,Ť]
theorem rw_b {i:Nat}:rwM w k Wt T wd i (2*w+k+1)=rwB w k T wd i:=by
 unfold rwM;rw[if_neg (by lia),if_neg (by lia)]
theorem yA4 {i:Nat}(y:Nat->Rat)(hi:i<w+k+1):sN w (fun j=>rwA w k Wt i j*y j)=if i<w then y i else if i<w+k then -sN w (fun j=>Wt (i - w) j*y j) else sN w y:=by
 by_cases h:i<w
 ·rw[if_pos h,Ź (k:=i) h fun j hj ne=>by unfold rwA;rw[if_pos h,if_neg ne,Ğ]];unfold rwA;rw[if_pos h,if_pos rfl,Ť]
 ·by_cases h2:i<w+k
  ·rw[if_neg h,if_pos h2,<- zR7];exact Ô fun j _=>by unfold rwA;rw[if_neg h,if_pos h2];grind
  ·rw[if_neg h,if_neg h2];exact Ô fun j _=>by unfold rwA;rw[if_neg h,if_neg h2,Ť]
theorem zV0:Frm (w+k+1) (2*w+k+1) (Frw w k Wt T wd) (Frw w k Wt T wd):=by
 refine⟨fun i l hi hl=>?_,fun l hl=>?_,fun _ _=>Iff.rfl⟩
 ·show rwM w k Wt T wd i (w+l)=_;unfold rwM;rw[if_neg (by lia),if_pos (by lia)]
  by_cases e:i=l
  ·rw[if_pos (by lia),if_pos e]
  ·rw[if_neg (by lia),if_neg e]
 ·show w+l<_;lia
theorem xA0 {Y:Nat->Rat}(h:(Frw w k Wt T wd).Sol (w+k+1) (2*w+k+1) Y 1)(nn:∀j,0<=Y j)(l0:Y (2*w+k)=0):Fsb w k Wt T wd Y:=by
 have eq:∀i,i<w+k+1->(if i<w then Y i else if i<w+k then -sN w (fun j=>Wt (i - w) j*Y j) else sN w Y)+Y (w+i)=rwB w k T wd i:=fun i hi=>by
  have g:sN (2*w+k+1) (fun j=>rwM w k Wt T wd i j*Y j)=rwM w k Wt T wd i (2*w+k+1)*1:=h i hi;rw[yW5 hi,yA4 Y hi,rw_b,Ň]at g;exact g
 refine⟨fun j hj=>⟨nn j,?_⟩,?_,fun c hc=>?_⟩
 ·have:=eq j (by lia);unfold rwB at this;rw[if_pos hj,if_pos hj]at this;have:=nn (w+j)
  grind
 ·have:=eq (w+k) (by lia);unfold rwB at this;rw[if_neg (by lia),if_neg (by lia),if_neg (by lia),if_neg (by lia),show w+(w+k)=2*w+k by lia,l0]at this
  grind
 ·have:=eq (w+c) (by lia);unfold rwB at this;rw[if_neg (by lia),if_pos (by lia),if_neg (by lia),if_pos (by lia),show w+c - w=c by lia]at this;have:=nn (w+(w+c))
  grind
noncomputable def extY (w k:Nat)(Wt:Nat->Nat->Rat)(b:Nat->Rat)(y:Nat->Rat)(j:Nat):Rat:=if j<w then y j else b (j - w) - sN w (fun l=>rwA w k Wt (j - w) l*y l)
theorem yC1 {b y:Nat->Rat}{u:Rat}(hb:∀i,i<w+k+1->b i=rwB w k T wd i*u):(Frw w k Wt T wd).Sol (w+k+1) (2*w+k+1) (extY w k Wt b y) u:=fun i hi=>by
 show sN (2*w+k+1) (fun j=>rwM w k Wt T wd i j*extY w k Wt b y j)=rwM w k Wt T wd i (2*w+k+1)*u;rw[yW5 hi,rw_b,show sN w (fun j=>rwA w k Wt i j*extY w k Wt b y j)=sN w (fun j=>rwA w k Wt i j*y j) from Ô fun j hj=>by unfold extY;rw[if_pos hj]];unfold extY;rw[if_neg (by lia),show w+i - w=i by lia,hb i hi]
 grind
theorem yO0 {y:Nat->Rat}(h:Fsb w k Wt T wd y):(∀j,j<2*w+k+1->0<=extY w k Wt (rwB w k T wd) y j) /\ extY w k Wt (rwB w k T wd) y (2*w+k)=0:=by
 have at':∀i,i<w+k+1->extY w k Wt (rwB w k T wd) y (w+i)=rwB w k T wd i - (if i<w then y i else if i<w+k then -sN w (fun j=>Wt (i - w) j*y j) else sN w y):=fun i hi=>by
  unfold extY;rw[if_neg (by lia),show w+i - w=i by lia,yA4 y hi]
 have lastz:extY w k Wt (rwB w k T wd) y (w+(w+k))=0:=by
  rw[at' (w+k) (by lia)];unfold rwB;rw[if_neg (by lia),if_neg (by lia),if_neg (by lia),if_neg (by lia),h.sum]
  grind
 refine⟨fun j hj=>?_,by rw[show 2*w+k=w+(w+k) by lia];exact lastz⟩
 by_cases e:j<w
 ·unfold extY;rw[if_pos e];exact(h.low j e).1
 ·obtain⟨i,rfl⟩:∃i,j=w+i:=⟨j - w,by lia⟩;rcases Nat.lt_or_ge i (w+k) with e2 | e2
  ·rw[at' i (by lia)];unfold rwB
   by_cases e3:i<w
   ·rw[if_pos e3,if_pos e3];have:=(h.low i e3).2
    grind
   ·rw[if_neg e3,if_neg e3,if_pos e2,if_pos e2];have:=h.wts (i - w) (by lia)
    grind
  ·have:i=w+k:=by lia
   rw[this,lastz];exact Ŏ
noncomputable def ż (w k:Nat)(j:Nat):Rat:=if j=2*w+k then 1 else 0
variable {S:Tb}(h:Frm (w+k+1) (2*w+k+1) (Frw w k Wt T wd) S)(feas:∀i,i<w+k+1->0<=S.b i)
include feas in
theorem yF3 (z:S.z=redb S (w+k+1) (ż w k) 0):S.z<=0:=by
 have:0<=sN (w+k+1) (fun i=>ż w k (S.B i)*S.b i):=yG8 fun i hi=>ĩ (by unfold ż;split<;>decide) (feas i hi);rw[z];unfold redb;grind
include h feas in
theorem yN2 (c:∀j,j<2*w+k+1->S.c j=red S (w+k+1) (ż w k) j)(z:S.z=redb S (w+k+1) (ż w k) 0)(pos:∀j,j<2*w+k->0<=S.c j)(ne:S.z≠0)(y:Nat->Rat):¬Fsb w k Wt T wd y:=fun f=>by
 obtain⟨g1,g2⟩:=yO0 f;have sol:=(h.sol _ _).mp (yC1 (y:=y) (b:=rwB w k T wd) (u:=1) fun i _=>(Ň _).symm);have e:=zL9 (f:=ż w k) (d:=0) sol;have e2:sN (2*w+k+1) (fun j=>ż w k j*extY w k Wt (rwB w k T wd) y j)=0:=by
  refine Ů fun j _=>?_;unfold ż
  by_cases q:j=2*w+k
  ·rw[q,g2,Ł]
  ·rw[if_neg q,Ğ]
 have e3:0<=sN (2*w+k+1) (fun j=>red S (w+k+1) (ż w k) j*extY w k Wt (rwB w k T wd) y j):=yG8 fun j hj=>by
  by_cases q:j=2*w+k
  ·rw[q,g2,Ł];exact Ŏ
  ·rw[<- c j hj];exact ĩ (pos j (by lia)) (g1 j hj)
 have:=yF3 feas z;rw[e2,<- z]at e;exact ne (by grind)
include feas in
theorem yN1 (z:S.z=redb S (w+k+1) (ż w k) 0)(e:S.z=0){l:Nat}(hl:l<w+k+1)(hB:S.B l=2*w+k):S.b l=0:=by
 have nn:∀i,i<w+k+1->0<=ż w k (S.B i)*S.b i:=fun i hi=>ĩ (by unfold ż;split<;>decide) (feas i hi);have k1:sN (w+k+1) (fun i=>if i=l then ż w k (S.B i)*S.b i else 0)<=sN (w+k+1) (fun i=>ż w k (S.B i)*S.b i):=xA5 fun i hi=>by
  by_cases q:i=l
  ·rw[if_pos q];exact Ŏ
  ·rw[if_neg q];exact nn i hi
 rw[Ź (k:=l) hl fun i _ ne=>if_neg ne,if_pos rfl,hB]at k1;have el:ż w k (2*w+k)=1:=by unfold ż;rw[if_pos rfl]
 rw[el,Ť]at k1;rw[e]at z;unfold redb at z;have:=feas l hl
 grind
include h in
theorem yU3 (w1:1<=w){l:Nat}(hl:l<w+k+1)(hB:S.B l=2*w+k):∃j,j<2*w+k /\ S.t l j≠0:=by
 apply Classical.byContradiction;intro no;have z:∀j,j<2*w+k->S.t l j=0:=fun j hj=>Classical.byContradiction fun n=>no ⟨j,hj,n⟩;have sol:=(h.sol _ _).mp (yC1 (y:=fun j=>if j=0 then 1 else 0) (b:=fun _=>0) (u:=0) fun i _=>(Ł _).symm) l hl;rw[Ź (k:=2*w+k) (by lia) fun j hj ne=>by rw[z j (by lia),Ğ],Ł]at sol;have c1:=h.can l l hl hl;rw[if_pos rfl,hB]at c1;have c2:extY w k Wt (fun _=>0) (fun j=>if j=0 then 1 else 0) (2*w+k) = -1:=by
  unfold extY;rw[if_neg (by lia),show 2*w+k - w=w+k by lia,yA4 _ (by lia),if_neg (by lia),if_neg (by lia),Ź (k:=0) (by lia) fun j _ ne=>if_neg ne,if_pos rfl]
  grind
 rw[c1,c2]at sol
 grind
include h feas in
theorem yI3 {p:Nat->Rat}(hp:∀j,w<=j->p j=0)(c:∀j,j<2*w+k+1->S.c j=red S (w+k+1) p j)(pos:∀j,j<2*w+k->0<=S.c j)(nl:∀l,l<w+k+1->S.B l≠2*w+k) :
  Fsb w k Wt T wd (bsol S (w+k+1) S.b) /\ ∀y,Fsb w k Wt T wd y->sN w (fun j=>p j*bsol S (w+k+1) S.b j)<=sN w (fun j=>p j*y j):=by
 have l0:bsol S (w+k+1) S.b (2*w+k)=0:=Ů fun l hl=>if_neg (nl l hl);refine⟨xA0 h.basic (yQ7 feas) l0,fun y f=>?_⟩;have cut:∀Y:Nat->Rat,sN (2*w+k+1) (fun j=>p j*Y j)=sN w (fun j=>p j*Y j):=fun Y=>by
  rw[show 2*w+k+1=w+(w+k+1) by lia,yE3,Ů (n:=w+k+1) fun j _=>by rw[hp _ (by lia),Ğ]];grind
 obtain⟨g1,g2⟩:=yO0 f;have sol:=(h.sol _ _).mp (yC1 (y:=y) (b:=rwB w k T wd) (u:=1) fun i _=>(Ň _).symm);have e:=zL9 (f:=p) (d:=0) sol;have ex:=zL9 (f:=p) (d:=0) ((h.sol _ _).mp h.basic);rw[Β h.lt,Ů (n:=w+k+1) fun l hl=>by rw[h.red0 p hl,Ğ],cut]at ex;have e3:0<=sN (2*w+k+1) (fun j=>red S (w+k+1) p j*extY w k Wt (rwB w k T wd) y j):=yG8 fun j hj=>by
  by_cases q:j=2*w+k
  ·rw[q,g2,Ł];exact Ŏ
  ·rw[<- c j hj];exact ĩ (pos j (by lia)) (g1 j hj)
 rw[cut,show sN w (fun j=>p j*extY w k Wt (rwB w k T wd) y j)=sN w (fun j=>p j*y j) from Ô fun j hj=>by unfold extY;rw[if_pos hj]]at e
 grind
end
section
variable {m n:Nat}{F:Tb}{M:Nat->Nat->Rat}{B:Nat->Nat}{mm:Nat}
theorem zO6 {D N:Nat}{f:Nat->Rat}:∀{m:Nat},(∀i,i<m->Cd D N (f i))->Cd D (m*N) (sN m f)
 | 0,_=>Cd.zero D _
 | m+1,h=>by
  rw[ü,Nat.succ_mul];exact(zO6 fun i hi=>h i (ĺ hi)).add (h m (ķ m))
noncomputable def ú (f:Nat->Rat)(B:Nat->Nat)(M:Nat->Nat->Rat)(i j:Nat):Rat:=f j - sN i (fun l=>f (B l)*M l j)
theorem yL5 {f:Nat->Rat}{X P Q:Nat}(Q0:0<Q)(hf:∀j,Cd Q P (f j)){j:Nat}{E':Nat}(E0:0<E')(EX:E'<=X)(hM:∀i,i<m->Cd E' X (M i j)){i:Nat}(hi:i<=m):Cd (Q*E') ((m+1)*(P*X)) (ú f B M i j):=by
 unfold ú;have h1:Cd (Q*E') (P*X) (f j):=((hf j).up E').mono (Ō _ EX);have h2:=zO6 (m:=i) (f:=fun l=>f (B l)*M l j) fun l hl=>(hf (B l)).mul (hM l (by lia));refine(h1.sub h2).mono ?_;rw[Nat.add_mul,Nat.one_mul,Nat.add_comm];exact Nat.add_le_add_right (Ĭ _ hi) _
end
end Tc
namespace L2
open PySem PySem.Spec PyProof.Rows
section
variable {X:Cx}
noncomputable def xB0:V->List V->Hp->VK->Prop:=fun x vs H Q=>∃(l:Addr) (xs:List V) (z:V) (j:Nat),x = .ref l /\ vs=[z] /\ H l=some (.lst xs) /\ ς z=true /\ xs.all ς=true /\ (∃y,xs[j]?=some y /\ eqV y z=true) /\ (∀m,m<j->∀y,xs[m]?=some y->eqV y z=false) /\ Q (.int (j:Nat)) H
theorem yM3:MtR X "list.index" xB0:=by
 intro pins s σ H x vs v us Q I rx rv h;obtain⟨l,xs,z,j,rfl,rfl,hH,fz,fl,⟨y,hj,ej⟩,hno,q⟩:=h;cases rx;obtain⟨u,rfl,ru⟩:=rv.one;obtain⟨zz,its,n,r,hl,e⟩:=I.lstM hH;have hsz:sizeLine=16777216:=sizeLine_eq;have hlen:xs.length=its.length:=hl;have hjl:j<its.length:=by rw[<- hlen];exact(Ą.mp hj).1
 have ats:∀m (hm:m<its.length),∃y,xs[m]?=some y /\ eqU z its[m]=eqV y z:=by
  intro m hm;have hm2:m<xs.length:=by lia
  have e1:xs[m]?=some xs[m]:=ā hm2;obtain⟨w,hw,rw0⟩:=r.get e1;have e2:its[m]=w:=by
   rw[ā hm]at hw;exact Option.some.inj hw
  refine⟨_,e1,?_⟩;rw[e2,yO8 rw0 (List.all_eq_true.mp fl _ (ĥ hm2))]
 refine call_meets F.slot_list_index ⟨_,e,rfl⟩ F.entry_list_index (F.args_list_index_2 _ _) (SeqAt.list_indexAt l its.toArray n none #[] u (eqU z) j (by simpa using hjl) (by lia) ?_ ?_) ⟨e,fun y hy=>zM0 ru fz r fl y (by simpa using hy),?_⟩
 ·obtain⟨y',h1,h2⟩:=ats j hjl;rw[hj]at h1;cases h1;rw[ej]at h2;simpa using h2
 ·intro m hm hmj;have hm':m<its.length:=by simpa using hm
  obtain⟨y',h1,h2⟩:=ats m hm';rw[hno m hmj y' h1]at h2;simpa using h2
 ·exact⟨.int (j:Nat),H,I.kept (t':=s.toks+1) fun b ob e=>e,⟨_,rfl⟩,q⟩
noncomputable def yR5 (ta:TA):TE:=fun σ H Q=>ta σ H fun vs H1=>∃i j:Int,vs=[.int i,.int j] /\ (-(2^62)<=i /\ i<2^62 /\ -(2^62)<=j /\ j<2^62) /\ (j - i).toNat<=1000 /\ ∀l,H1 l=none->Q (.ref l) (upd H1 l (.lst ((Đ (j - i).toNat).map fun (k:Nat)=>V.int (i+(k:Int)))))
theorem yD2 {i:Int}:∀{n:Nat} {us:List Value},us.length=n->(∀(k:Nat) (v:Value),us[k]?=some v->∃t,v = .int (i+(k:Int)*1) t)->Vals ((Đ n).map fun (k:Nat)=>V.int (i+(k:Int))) us
 | 0,us,h,_=>by
  cases us with
  | nil=>exact .nil
  | cons a t=>simp at h
 | n+1,us,h,g=>by
  obtain⟨v,us',rfl⟩:∃v us',us=v::us':=by
   cases us with
   | nil=>simp at h
   | cons a t=>exact⟨a,t,rfl⟩
  have ih:=yD2 (i:=i+1) (n:=n) (us:=us') (by simpa using h) fun k v e=>by
   obtain⟨t,rfl⟩:=g (k+1) v (by simpa using e);exact⟨t,by congr 1;lia⟩
  rw[List.range_succ_eq_map,ľ,List.map_map];obtain⟨t,rfl⟩:=g 0 v rfl;refine .cons ⟨t,by congr 1⟩ ?_;have e:((fun (k:Nat)=>V.int (i+(k:Int)))∘Nat.succ)=fun (k:Nat)=>V.int (i+1+(k:Int)):=funext fun k=>by
   show V.int (i+((k+1:Nat):Int))=V.int (i+1+(k:Int))
   congr 1;lia
  rw[e];exact ih
theorem yH0 {a b:Expr}{ta:TA}{p p2 pos pos2:Pos}(hc:X.calm=true)(hg:Gl X "list")(hm:X.mg "list" = none)(hg2:Gl X "range")(hm2:X.mg "range" = none)(ha:PA X [a,b] ta)
  (hs:starEach [a,b] X.env=(false,eval a X.env)::starEach [b] X.env:=by rfl)(hs2:starEach [b] X.env=[(false,eval b X.env)]:=by rfl)(hs3:starEach [.Call (.Name "range" p2) [a,b] [] pos2] X.env=[(false,eval (.Call (.Name "range" p2) [a,b] [] pos2) X.env)]:=by rfl) :
  PE X (.Call (.Name "list" p) [.Call (.Name "range" p2) [a,b] [] pos2] [] pos) (yR5 ta):=by
 intro pins s σ H Q I h;refine Call_ (π I hg hm Α (PyProof.Rows.callWith_type1 ?_ hs3 rfl));rw[hs3];show wpAny _ _ (spliced ((false,eval (.Call (.Name "range" p2) [a,b] [] pos2) X.env)::[])) _ _ s;refine Calls.spliced_cons (Call_ (π I hg2 hm2 boot_range (PyProof.Rows.callWith_type1 (thn (ha pos2 pins s σ H _ I h) fun us s1 ⟨vs,H1,I1,r1,q1⟩=>?_) hs (by rw[hs2];rfl))));obtain⟨i,j,rfl,⟨z1,z2,z3,z4⟩,z5,q⟩:=q1;obtain⟨u,u',rfl,ru,ru'⟩:=yI4 r1;obtain⟨t,rfl⟩:=ru;obtain⟨t',rfl⟩:=ru';refine call_range_2 (Calls.spliced_nil ?_);have hsz:(j - i).toNat<=2^24:=ĉ z5 (by decide);refine call_list_range (I1.ok.hd hc) (IsRange.new ..) (small_one z1 z2 z3 z4) (n:=(j - i).toNat) (by rw[rangeSize_one];split<;>lia) hsz fun h' tk acc c hk hS hI=>?_;have vr:Vals ((Đ (j - i).toNat).map fun (k:Nat)=>V.int (i+(k:Int))) acc.toList:=yD2 (by simpa using hI.1) fun k v e=>hI.2 k v (by simpa using e);refine⟨.ref _,_,I1.laid (o:=.lst ((Đ (j - i).toNat).map fun (k:Nat)=>V.int (i+(k:Int)))) (t':=tk) (fun b ob e=>hk b ob (Č _ e)) ?_ ⟨?_,acc.toList,c,vr,by simpa using hS⟩,rfl,q _ (I1.hok.fresh ?_)⟩
 ·exact Ĩ (by simp)
 ·rw[ą,ē];exact ĉ z5 (by decide)
 ·exact Ĩ (by simp)
theorem xG1 {prog:Program}{w:World}{A:Around}{E:Value->Shared->Prop}{s:Shared}{l b:Addr}{xs ys:Array Value}{Q:Value->Shared->Prop}(hl:s.heap.IsList l xs)(hb:s.heap.IsList b ys)(sz:(xs.size != ys.size)=true)(hu:A.units<cLine)(q:Q (.bool true) s) :
  wpAny (model prog w) A (richCompare .NotEq (.ref l) (.ref b)) Q E s:=by
 obtain⟨⟨cls,dd,data,sl⟩,ho,hc,n,hd⟩:=id hl;obtain⟨⟨cls2,dd2,data2,sl2⟩,ho2,hc2,n2,hd2⟩:=id hb;simp only at hc hd hc2 hd2;subst hc hd hc2 hd2;exact wpAny_richCompare_same_room (op:=.NotEq) ⟨_,ho,rfl⟩ ⟨_,ho2,rfl⟩ F.slot_list_ne (call_meets F.slot_list_ne ⟨_,ho,rfl⟩ F.entry_list_ne (F.args_list_ne_2 _ _) (SeqAt.list_ne_lengthsAt l b xs ys n n2 dd dd2 sl sl2 sz) ⟨ho,ho2,show Value.bool true≠Value.notImplemented /\ Q (.bool true) s from⟨(fun x=>nomatch x),q⟩⟩) hu
noncomputable def rNeE (K:Ā):R2:=fun x y H Q=>∃a b xs,x = .ref a /\ y = .ref b /\ SqL K H a xs /\ SqL K H b [] /\ Q (.bl (!xs.isEmpty)) H
theorem xB9 {K:Ā}{k:Nat}(h:X.K=K)(hr:Room k X.A):OpR X (compareOp .NotEq) (rNeE K):=by
 subst h;intro pins s σ H x y v u Q I rx ry h;obtain⟨a,b,xs,rfl,rfl,ha,hb,q⟩:=h;cases rx;cases ry;obtain⟨its,r,p,_⟩:=I.list ha;obtain⟨its2,r2,p2,_⟩:=I.list hb;have hu:=hr.un;cases r2;cases r with
 | nil=>exact xG2 p.isList p2.isList rfl (by lia) (fun j h1=>absurd h1 (by simp)) ⟨.bl false,H,I,rfl,q⟩
 | cons _ _=>exact xG1 p.isList p2.isList (by simp) (by lia) ⟨.bl true,H,I,rfl,q⟩
end
end L2
namespace Tc
section
variable {α:Type}[DecidableEq α]
theorem xA1 {C:List α}{A:α->α->Rat}(hC:C.Nodup){D N:Nat}(D0:0<D)(DN:D<=N)(hA:∀z∈C,∀j∈C,Cd D N (A z j))
  (hK:∀w:α->Rat,(∀j∈C,(sumL C fun z=>w z*A z j)=0)->∀z∈C,w z=0):∃u':Nat,0<u' /\ u'<=(C.length*N)^C.length /\ ∀{x b:α->Rat} {E W:Nat},(∀z∈C,Cd E W (b z))->(∀z∈C,b z=sumL C fun j=>A z j*x j)->∀z∈C,Cd (E*u') (W*(C.length*N)^C.length) (x z):=by
 obtain⟨cs,R,lc,lR,nR,hR,nc,hc,hd⟩:=zY0 hC hK C.length (Ć _);have mc:=xC5 hC nc hc lc;obtain⟨u,eu,lu⟩:=yP2 (n:=C.length) (D:=D) (N:=N) (A:=A) (cs:=cs) (R:=R) (by lia) fun z hz j hj=>hA z (hR z hz) j (hc j hj);rw[lc]at eu lu;have u0:u≠0:=fun e=>by
  rw[e]at eu;have h1:((D^C.length:Nat):Rat)≠0:=χ (Nat.pow_pos D0);have:detL A cs R*((D^C.length:Nat):Rat)=0:=by rw[eu];rfl
  rcases Rat.mul_eq_zero.mp this with q | q
  ·exact hd q
  ·exact h1 q
 have up:0<u.natAbs:=by lia
 refine⟨u.natAbs,up,lu,fun {x b E W} hb hx k hk=>?_⟩;have hkc:=(mc k).mpr hk;obtain⟨s,hs,e⟩:=xL1 hC nc mc (fun r hr=>hx r (hR r hr)) hkc;have le:(cs.erase k).length=C.length - 1:=by rw[List.length_erase_of_mem hkc,lc]
 have n1:C.length=(C.length - 1)+1:=by
  have:=List.length_pos_of_mem hk;lia
 obtain⟨v,ev,lv⟩:=yN0 (R:=R) (g:=detL A (cs.erase k)) (fun r hr=>hb r (hR r hr)) fun S hS hl=>yP2 (n:=C.length) (D:=D) (N:=N) (by lia) fun z hz j hj=>hA z (hR z (hS z hz)) j (hc j (List.mem_of_mem_erase hj));rw[le]at ev lv;rw[lR]at lv;have key:x k*((E:Nat):Rat)*(u:Rat)=s*((v:Rat)*(D:Rat)):=by
  rw[<- eu,<- ev,n1,ł,į,į,show C.length - 1+1 - 1=C.length - 1 by lia];have e':=e
  grind
 have fin:∀t:Int,x k*((E*u.natAbs:Nat):Rat)=((t*(v*D):Int):Rat)->(t=1 \/ t = -1)->Cd (E*u.natAbs) (W*(C.length*N)^C.length) (x k):=by
  intro t et ht;refine⟨t*(v*D),et,?_⟩;have:(t*(v*D)).natAbs=v.natAbs*D:=by
   rw[Ĵ,Ĵ];rcases ht with q | q<;>rw[q]<;>simp
  rw[this];refine ĉ (Ě lv DN) (Nat.le_of_eq ?_);rw[n1,ł,show C.length - 1+1 - 1=C.length - 1 by lia]
  grind
 rcases hs with q | q
 ·rcases Int.natAbs_eq u with a | a
  ·refine fin 1 ?_ (.inl rfl);rw[į,Int.one_mul,Ē];rw[a,q]at key;have:((D:Int):Rat)=((D:Nat):Rat):=rfl;have:(((u.natAbs:Nat):Int):Rat)=((u.natAbs:Nat):Rat):=rfl
   grind
  ·refine fin (-1) ?_ (.inr rfl);rw[į,Ē,Ē];rw[a,q,Rat.intCast_neg]at key;have:((D:Int):Rat)=((D:Nat):Rat):=rfl;have:(((u.natAbs:Nat):Int):Rat)=((u.natAbs:Nat):Rat):=rfl;have:((-1:Int):Rat) = -1:=rfl
   grind
 ·rcases Int.natAbs_eq u with a | a
  ·refine fin (-1) ?_ (.inr rfl);rw[į,Ē,Ē];rw[a,q]at key;have:((D:Int):Rat)=((D:Nat):Rat):=rfl;have:(((u.natAbs:Nat):Int):Rat)=((u.natAbs:Nat):Rat):=rfl;have:((-1:Int):Rat) = -1:=rfl
   grind
  ·refine fin 1 ?_ (.inl rfl);rw[į,Int.one_mul,Ē];rw[a,q,Rat.intCast_neg]at key;have:((D:Int):Rat)=((D:Nat):Rat):=rfl;have:(((u.natAbs:Nat):Int):Rat)=((u.natAbs:Nat):Rat):=rfl
   grind
end
section
variable {m n:Nat}{F S:Tb}
theorem Frm.back (h:Frm m n F S)(h0:Frm m n F F):Frm m n S F:=⟨h0.can,h0.lt,fun y w=>(h.sol y w).symm⟩
theorem Frm.cdN (h:Frm m n F S)(h0:Frm m n F F){D N:Nat}(D0:0<D)(DN:D<=N)(hA:∀i j,i<m->j<n->Cd D N (F.t i j)):∃u:Nat,0<u /\ u<=(m*N)^m /\ (∀j,j<n->∀i,i<m->Cd (D*u) (N*(m*N)^m) (S.t i j)) /\ ∀{E W:Nat},(∀i,i<m->Cd E W (F.b i))->∀i,i<m->Cd (E*u) (W*(m*N)^m) (S.b i):=by
 obtain⟨u,u0,ul,hu⟩:=xA1 (C:=Đ m) (A:=fun z l=>F.t z (S.B l)) List.nodup_range D0 DN
  (fun z hz l hl=>hA z _ (ğ.mp hz) (h.lt l (ğ.mp hl)))
  (fun w g z hz=>h.ker h0 (fun l hl=>g l (ğ.mpr hl)) (ğ.mp hz))
 rw[ē]at ul;refine⟨u,u0,ul,fun j hj i hi=>?_,fun {E W} hb i hi=>?_⟩
 ·have:=hu (x:=fun i=>S.t i j) (b:=fun i=>F.t i j) (E:=D) (W:=N) (fun z hz=>hA z j (ğ.mp hz) hj) (fun z hz=>h.eq (ğ.mp hz) hj) i (ğ.mpr hi);rw[ē]at this;exact this
 ·have:=hu (x:=S.b) (b:=F.b) (E:=E) (W:=W) (fun z hz=>hb z (ğ.mp hz)) (fun z hz=>h.eqb (ğ.mp hz)) i (ğ.mpr hi);rw[ē]at this;exact this
theorem Frm.pays (h:Frm m n F S)(h0:Frm m n F F)(f:Nat->Rat):(∀j,j<n->red S m f j=f j - sN m (fun i=>sN m (fun l=>f (S.B l)*S.t l (F.B i))*F.t i j)) /\ sN m (fun l=>f (S.B l)*S.b l)=sN m (fun i=>sN m (fun l=>f (S.B l)*S.t l (F.B i))*F.b i):=by
 have hb:=h.back h0;have key:∀(v:Nat->Rat) (t:Nat->Rat),(∀l,l<m->v l=sN m (fun i=>S.t l (F.B i)*t i))->sN m (fun l=>f (S.B l)*v l)=sN m (fun i=>sN m (fun l=>f (S.B l)*S.t l (F.B i))*t i):=fun v t e=>by
  rw[show sN m (fun l=>f (S.B l)*v l)=sN m (fun l=>sN m (fun i=>f (S.B l)*S.t l (F.B i)*t i)) from Ô fun l hl=>by
   rw[e l hl,ŕ,<- ų];exact Ô fun i _=>by grind]
  rw[zR6];exact Ô fun i _=>ų m _ _
 refine⟨fun j hj=>?_,key S.b F.b fun l hl=>hb.eqb hl⟩;unfold red;rw[key (fun l=>S.t l j) (fun i=>F.t i j) fun l hl=>hb.eq hl hj]
end
section
variable {w k:Nat}{Wt:Nat->Nat->Rat}{T:Nat->Rat}{wd:Rat}{M:Nat->Nat->Rat}{B:Nat->Nat}{f c:Nat->Rat}
theorem xF8 (h:Frm (w+k+1) (2*w+k+1) (Frw w k Wt T wd) (tbM (w+k+1) (2*w+k+1) M B))(hc:∀j,j<2*w+k+2->c j=ú f B M (w+k+1) j)(f0:∀j,w<=j->j<2*w+k->f j=0)(fn:f (2*w+k+1)=0) :
  (∀j,j<w->f (2*w+k) - c (2*w+k) - c (w+j)+sN k (fun i=>c (2*w+i)*Wt i j)=f j - c j) /\ (f (2*w+k) - c (2*w+k))*wd - sN w (fun j=>c (w+j)*T j) = -c (2*w+k+1):=by
 obtain⟨g1,g2⟩:=h.pays zV0 f;let q:Nat->Rat:=fun i=>sN (w+k+1) (fun l=>f (B l)*M l (w+i));have G1:∀j,j<2*w+k+1->c j=f j - sN (w+k+1) (fun i=>q i*rwM w k Wt T wd i j):=fun j hj=>by
  rw[hc j (by lia)];exact g1 j hj
 have G2:c (2*w+k+1) = -sN (w+k+1) (fun i=>q i*rwB w k T wd i):=by
  rw[hc _ (by lia)];unfold ú;rw[fn];have e:sN (w+k+1) (fun l=>f (B l)*M l (2*w+k+1))=sN (w+k+1) (fun i=>q i*rwM w k Wt T wd i (2*w+k+1)):=g2;rw[e];rw[show sN (w+k+1) (fun i=>q i*rwM w k Wt T wd i (2*w+k+1))=sN (w+k+1) (fun i=>q i*rwB w k T wd i) from Ô fun i _=>by rw[rw_b]]
  grind
 have hq:∀i,i<w+k+1->q i=f (w+i) - c (w+i):=fun i hi=>by
  have:=G1 (w+i) (by lia);rw[Ź (k:=i) hi fun l hl ne=>by unfold rwM;rw[if_neg (by lia),if_pos (by lia),if_neg (by lia),Ł]]at this;have e1:rwM w k Wt T wd i (w+i)=1:=by unfold rwM;rw[if_neg (by lia),if_pos (by lia),if_pos rfl]
  rw[e1]at this
  grind
 have split:∀g:Nat->Rat,sN (w+k+1) g=sN w g+sN k (fun i=>g (w+i))+g (w+k):=fun g=>by
  rw[ü,yE3]
 have qa:∀i,i<w->q i = -c (w+i):=fun i hi=>by rw[hq i (by lia),f0 (w+i) (by lia) (by lia)];grind
 have qb:∀i,i<k->q (w+i) = -c (2*w+i):=fun i hi=>by
  rw[hq (w+i) (by lia),f0 _ (by lia) (by lia),show w+(w+i)=2*w+i by lia];grind
 have qc:q (w+k)=f (2*w+k) - c (2*w+k):=by rw[hq (w+k) (by lia),show w+(w+k)=2*w+k by lia]
 refine⟨fun j hj=>?_,?_⟩
 ·have e:=G1 j (by lia);rw[split]at e;rw[Ź (n:=w) (k:=j) hj fun i hi ne=>by unfold rwM rwA;rw[if_pos hj,if_pos hi,if_neg (fun z=>ne z.symm),Ł]]at e;have e1:rwM w k Wt T wd j j=1:=by unfold rwM rwA;rw[if_pos hj,if_pos hj,if_pos rfl]
  have e2:rwM w k Wt T wd (w+k) j=1:=by unfold rwM rwA;rw[if_pos hj,if_neg (by lia),if_neg (by lia)]
  have e3:sN k (fun i=>q (w+i)*rwM w k Wt T wd (w+i) j)=sN k (fun i=>c (2*w+i)*Wt i j):=Ô fun i hi=>by
   have:rwM w k Wt T wd (w+i) j=0 - Wt i j:=by unfold rwM rwA;rw[if_pos hj,if_neg (by lia),if_pos (by lia),show w+i - w=i by lia]
   rw[qb i hi,this];grind
  rw[e1,e2,e3,qa j hj,qc]at e
  grind
 ·rw[G2,split];have e1:sN w (fun i=>q i*rwB w k T wd i) = -sN w (fun j=>c (w+j)*T j):=by
   rw[<- zR7];exact Ô fun i hi=>by unfold rwB;rw[if_pos hi,qa i hi];grind
  have e2:sN k (fun i=>q (w+i)*rwB w k T wd (w+i))=0:=Ů fun i hi=>by unfold rwB;rw[if_neg (by lia),if_pos (by lia),Ł]
  have e3:rwB w k T wd (w+k)=wd:=by unfold rwB;rw[if_neg (by lia),if_neg (by lia)]
  rw[e1,e2,e3,qc]
  grind
end
end Tc
namespace L2
open PySem
structure PAw (X:Cx)(es:List Expr)(t:TA):Prop where
 h:PA X es t
structure PEw (X:Cx)(e:Expr)(t:TE):Prop where
 h:PE X e t
section
variable {X:Cx}{es:List Expr}{te:TE}{t:TA}{p:Pos}{k:Nat}
theorem wnil:PAw X [] tNil:=⟨Â⟩
theorem wC {c:Const}(ha:PEw X (.Constant c k p) te)(hr:PAw X es t):PAw X (.Constant c k p::es) (ι te t):=⟨À ha.h hr.h⟩
theorem wT {xs:List Expr}(ha:PEw X (.Tuple xs k p) te)(hr:PAw X es t):PAw X (.Tuple xs k p::es) (ι te t):=⟨À ha.h hr.h⟩
theorem wL {xs:List Expr}(ha:PEw X (.List xs p) te)(hr:PAw X es t):PAw X (.List xs p::es) (ι te t):=⟨À ha.h hr.h⟩
theorem wD {ks:List (Option Expr)}{vs:List Expr}(ha:PEw X (.Dict ks vs p) te)(hr:PAw X es t):PAw X (.Dict ks vs p::es) (ι te t):=⟨À ha.h hr.h⟩
theorem wstr {x:Str}:PEw X (.Constant (.str x) k p) (tC (.str x)):=⟨å⟩
theorem wlst (h:PAw X es t):PEw X (.List es p) (tLst t):=⟨é h.h⟩
theorem wtup (h:PAw X es t):PEw X (.Tuple es k p) (tTup t):=⟨Õ h.h⟩
end
structure PSw (X:Cx)(st:Stmt)(t:TS):Prop where
 h:PS X st t
structure PSsw (X:Cx)(sts:List Stmt)(t:TS):Prop where
 h:PSs X sts t
section
variable {X:Cx}{e a b:Expr}{te ta tb:TE}{st:Stmt}{sts:List Stmt}{t u:TS}{pos pos':Pos}{i:Nat}{x:Str}
theorem xE1 (hN:X.N.Nodup)(hi:X.N[i]?=some x)(hx:Loc X.env.scope x)(he:PEw X e te)(hs:swapsWith e (some (.Name x pos')) pos.line X.env=pure false:=by rfl)(hf:X.fn x=true \/ X.env.scope.names.lookup x=some .local:=by first | exact .inl rfl | exact .inr rfl | assumption):PSw X (.Assign [.Name x pos'] e pos) (tAsg te (yN9 i)):=⟨Í hN hi hx he.h hs hf⟩
theorem xE2 (he:PEw X e te):PSw X (.Return (some e) pos) (tRet te):=⟨É he.h⟩
theorem yC9 (h1:PSw X st t)(h2:PSsw X sts u):PSsw X (st::sts) (tSeq t u):=⟨Ä h1.h h2.h⟩
theorem yZ1 (h1:PSw X st t):PSsw X [st] t:=⟨Å h1.h⟩
end
section
variable {X:Cx}{e o:Expr}{te to:TE}{t:TA}{p apos cpos pos:Pos}{k:Nat}
theorem wint {i:Int}:PEw X (.Constant (.int i) k p) (tC (.int i)):=⟨Á⟩
theorem wbl {b:Bool}:PEw X (.Constant (.bool b) k p) (tC (.bl b)):=⟨ž⟩
theorem wnon:PEw X (.Constant .none k p) (tC .non):=⟨ζ⟩
theorem wdn:PEw X (.Dict [] [] p) yW1:=⟨yE8⟩
theorem xE3 (ho:PE X o to)(ha:PAw X [e] t)(hbase:attributeBase o "append" X.env (eval o X.env)=eval o X.env:=by rfl)
  (hfew:((backTo cpos (starEach [e] X.env)).all (fun x=>!x.1)&&(backToKw cpos (keywordEach [] X.env)).all (fun x=>x.1.isSome)
   && decide ([e].length+([]:List Keyword).length+(if ([]:List Keyword).isEmpty then 0 else 1)<30))=true:=by rfl)
  (hline:(apos.endLine==cpos.line)=true:=by rfl)(hs:starEach [e] X.env=(false,eval e X.env)::starEach [] X.env:=by rfl)(hplain:(backTo cpos (starEach [] X.env)).any (·.1)=false:=by rfl)
  (hs2:swapsWith (.Call (.Attribute o "append" apos) [e] [] cpos) none pos.line X.env=pure false:=by rfl) :
  PSw X (.Expr (.Call (.Attribute o "append" apos) [e] [] cpos) pos) (xE9 (tBM X.K "list" yK8 to t)):=⟨Ű (xH6 PySem.F.plainAttrs_list PySem.F.slot_list_append PySem.F.type_list_append í ho ha.h hbase hfew hline hs hplain) hs2⟩
end
theorem ex1 {α:Type}{p q:α->Prop}{a:α}(h:p a)(r:q a):∃x,p x /\ q x:=⟨a,h,r⟩
end L2
namespace T43
open PySem L2 Tc
noncomputable def top (i:Nat):Stmt:=PySem.Challenge.pw_tiercask_k43_papers_let_by.main.body.getD i (.Pass ⟨0,0,0,0⟩)
set_option genInjectivity false in
structure Ca where
 NoNumber:Addr
structure Txt (K:Ā)(mg:Str->Option Value)(ca:Ca):Prop where
 z_abs:mg "abs" = none
 z_all:mg "all" = none
 z_bool:mg "bool" = none
 z_enumerate:mg "enumerate" = none
 z_int:mg "int" = none
 z_isinstance:mg "isinstance" = none
 z_len:mg "len" = none
 z_list:mg "list" = none
 z_max:mg "max" = none
 z_min:mg "min" = none
 z_range:mg "range" = none
 z_str:mg "str" = none
 z_sum:mg "sum" = none
 z_tuple:mg "tuple" = none
 z_zip:mg "zip" = none
 c_NoNumber:mg "NoNumber" = some (.ref ca.NoNumber)
 e_NoNumber:PySem.W.excIn K ca.NoNumber [.type "ValueError",.type "Exception",.type "BaseException",.type "object"] "ValueError.__new__" = true
 x_NoNumber:ExcK K ca.NoNumber
 i_NoNumber_NoNumber:PySem.W.kitOne K (.ref ca.NoNumber) (.ref ca.NoNumber)=some true
 m_NoNumber_NoNumber:PySem.W.exmOne K (.ref ca.NoNumber) (.ref ca.NoNumber)=some true
theorem _root_.Tc.FrV.tup {H H':Hp}{v:V}{r:Rat}(h:FrV H v r)(s:∀a xs,H a=some (.tup xs)->H' a=some (.tup xs)):FrV H' v r:=by obtain⟨a,e,h⟩:=h;exact⟨a,e,s _ _ h⟩
theorem ð {H:Hp}{p:Addr}{u o:HO}(hp:H p=some u)(hu:∀xs,u ≠ .tup xs):∀a ys,H a=some (.tup ys)->upd H p o a=some (.tup ys):=fun a ys e=>by
 rw[upd_ne (zU2 e hp (fun z=>hu ys z.symm))];exact e
inductive Pick where
 | name (z:Str) | years (i j:Int) | old (i:Int) | both (p q:Pick) | one (p q:Pick) | nay (p:Pick)
noncomputable def RepP (H:Hp):Pick->V->Prop
 | .name z,v=>∃a,v = .ref a /\ H a=some (.tup [.str "name",.str z])
 | .years i j,v=>∃a,v = .ref a /\ H a=some (.tup [.str "years",.int i,.int j])
 | .old i,v=>∃a,v = .ref a /\ H a=some (.tup [.str "old",.int i])
 | .both p q,v=>∃a x y,v = .ref a /\ H a=some (.tup [.str "both",x,y]) /\ RepP H p x /\ RepP H q y
 | .one p q,v=>∃a x y,v = .ref a /\ H a=some (.tup [.str "one",x,y]) /\ RepP H p x /\ RepP H q y
 | .nay p,v=>∃a x,v = .ref a /\ H a=some (.tup [.str "not",x]) /\ RepP H p x
theorem RepP.mono {H H':Hp}(s:∀a xs,H a=some (.tup xs)->H' a=some (.tup xs)):∀{p:Pick} {v:V},RepP H p v->RepP H' p v
 | .name _,_,⟨a,e,h⟩=>⟨a,e,s _ _ h⟩
 | .years _ _,_,⟨a,e,h⟩=>⟨a,e,s _ _ h⟩
 | .old _,_,⟨a,e,h⟩=>⟨a,e,s _ _ h⟩
 | .both _ _,_,⟨a,x,y,e,h,h1,h2⟩=>⟨a,x,y,e,s _ _ h,RepP.mono s h1,RepP.mono s h2⟩
 | .one _ _,_,⟨a,x,y,e,h,h1,h2⟩=>⟨a,x,y,e,s _ _ h,RepP.mono s h1,RepP.mono s h2⟩
 | .nay _,_,⟨a,x,e,h,h1⟩=>⟨a,x,e,s _ _ h,RepP.mono s h1⟩
theorem RepP.same {H H':Hp}{p:Pick}{v:V}(h:RepP H p v)(s:Same H H'):RepP H' p v:=h.mono fun _ _ e=>s _ _ e
theorem RepP.updL {H:Hp}{p:Pick}{v:V}{D:Addr}{xs:List V}{o:HO}(h:RepP H p v)(hD:H D=some (.lst xs)):RepP (upd H D o) p v:=h.mono fun a ys e=>by
 rw[upd_ne (zU2 e hD (by intro z;cases z))];exact e
noncomputable def dp:Pick->Nat
 | .name _=>1 | .years _ _=>1 | .old _=>1
 | .both p q=>max (dp p) (dp q)+1 | .one p q=>max (dp p) (dp q)+1 | .nay p=>dp p+1
theorem yF7 (p:Pick):1<=dp p:=by cases p<;>simp[dp]
noncomputable def mean (z:Str)(y now:Int):Pick->Bool
 | .name n=>decide (V.str z=V.str n)
 | .years i j=>decide (i<=y)&&decide (y<=j)
 | .old i=>decide (i<=now - y)
 | .both p q=>mean z y now p&&mean z y now q
 | .one p q=>mean z y now p||mean z y now q
 | .nay p=>!mean z y now p
noncomputable def zR2 (d:Nat):Sp:=fun vs H Q _=>∃(v:V) (l:Addr) (z:Str) (y now:Int) (p:Pick),vs=[v,.ref l,.int now] /\ H l=some (.tup [.str z,.int y]) /\ RepP H p v /\ dp p<=d /\ Q (.bl (mean z y now p)) H
noncomputable def PkV (H:Hp)(d:Nat)(v:V):Prop:=∃p,RepP H p v /\ dp p<=d
theorem PkV.same {H H':Hp}{d:Nat}{v:V}(h:PkV H d v)(s:Same H H'):PkV H' d v:=let ⟨p,h,l⟩:=h;⟨p,h.same s,l⟩
theorem PkV.updL {H:Hp}{d:Nat}{v:V}{D:Addr}{xs:List V}{o:HO}(h:PkV H d v)(hD:H D=some (.lst xs)):PkV (upd H D o) d v:=let ⟨p,h,l⟩:=h;⟨p,h.updL hD,l⟩
theorem PkV.le {H:Hp}{d e:Nat}{v:V}(h:PkV H d v)(l:d<=e):PkV H e v:=let ⟨p,h,l'⟩:=h;⟨p,h,ĉ l' l⟩
noncomputable def spMixed2:Sp:=fun vs H Q _=>∃c j:Int,vs=[.int c,.int j] /\ (0<=j /\ j<4) /\ ∀(m:Int) H',0<=m->m<65551->Same H H'->Q (.int m) H'
noncomputable def spLowest2:Sp:=fun vs H Q _=>∃t b:Int,vs=[.int t,.int b] /\ 0<b /\ b.natAbs<2^9000 /\ ∀v H',Same H H'->FrV H' v (Ċ t b)->Q v H'
noncomputable def yJ3:Sp:=fun vs H Q _=>∃c:Int,vs=[.int c] /\ ∀(a:Addr) H' (zs:List Str),Same H H'->H' a=some (.lst (zs.map V.str))->zs.length=3->Q (.ref a) H'
noncomputable def yW3:Sp:=fun vs H Q _=>∃(n now:Int) (a:Addr) (zs:List Str),vs=[.int n,.ref a,.int now] /\ H a=some (.lst (zs.map V.str)) /\ zs.length=3 /\ ∀v H',Same H H'->PkV H' 4 v->Q v H'
inductive Cond where
 | mean (r:Rat) | least (r:Rat) (p:Pick) | most (r:Rat) (p:Pick)
noncomputable def Cond.rat:Cond->Rat | .mean r=>r | .least r _=>r | .most r _=>r
noncomputable def RepC (H:Hp):Cond->V->Prop
 | .mean r,v=>∃a x,v = .ref a /\ H a=some (.tup [.str "mean",x]) /\ FrV H x r
 | .least r p,v=>∃a x y,v = .ref a /\ H a=some (.tup [.str "least",x,y]) /\ FrV H x r /\ RepP H p y /\ dp p<=4
 | .most r p,v=>∃a x y,v = .ref a /\ H a=some (.tup [.str "most",x,y]) /\ FrV H x r /\ RepP H p y /\ dp p<=4
theorem RepC.same {H H':Hp}(s:Same H H'):∀{c:Cond} {v:V},RepC H c v->RepC H' c v
 | .mean _,_,⟨a,x,e,h,f⟩=>⟨a,x,e,s _ _ h,f.same s⟩
 | .least _ _,_,⟨a,x,y,e,h,f,g,l⟩=>⟨a,x,y,e,s _ _ h,f.same s,g.same s,l⟩
 | .most _ _,_,⟨a,x,y,e,h,f,g,l⟩=>⟨a,x,y,e,s _ _ h,f.same s,g.same s,l⟩
noncomputable def Υ (b:Bool):Int:=if b then 1 else 0
noncomputable def wt (z:Str)(y now:Int):Cond->Rat
 | .mean r=>((now - y:Int):Rat) - r
 | .least r p=>((Υ (mean z y now p):Int):Rat) - r
 | .most r p=>r - ((Υ (mean z y now p):Int):Rat)
noncomputable def fac (z:Str)(y now:Int):Cond->Int
 | .mean r=>(now - y)*r.den - r.num
 | .least r p=>if mean z y now p=true then r.den - r.num else 0 - r.num
 | .most r p=>0 - (if mean z y now p=true then r.den - r.num else 0 - r.num)
theorem zZ7 (n:Int)(r:Rat):(n:Rat) - r=Ċ (n*r.den - r.num) r.den:=by
 have d:=Î r;have h:=Rat.divInt_sub_divInt n r.num (d₁:=1) (d₂:=r.den) (by decide) (by lia);rw[ġ,Int.one_mul,Int.mul_one]at h;rw[<- h];have e:(n:Rat)=Ċ n 1:=(ġ (n:Rat)).symm;rw[e]
theorem yX1 {w:Rat}{f d:Int}(hd:d≠0)(h:w=Ċ f d):w.num*d=f*w.den:=by
 have e:Ċ w.num w.den=Ċ f d:=by rw[ġ];exact h
 exact(Rat.divInt_eq_divInt_iff (by have:=Î w;lia) hd).mp e
theorem xK5 (z:Str)(y now:Int)(c:Cond):(wt z y now c).num*c.rat.den=fac z y now c*(wt z y now c).den:=by
 have d:=Î c.rat;refine yX1 (by lia) ?_;cases c with
 | mean r=>exact zZ7 _ _
 | least r p =>
  have h:=zZ7 (Υ (mean z y now p)) r;show ((Υ (mean z y now p):Int):Rat) - r=Ċ (if mean z y now p=true then r.den - r.num else 0 - r.num) r.den;rw[h];cases mean z y now p<;>simp[Υ]
 | most r p =>
  have h:=zZ7 (Υ (mean z y now p)) r;have e:r - ((Υ (mean z y now p):Int):Rat) = -(((Υ (mean z y now p):Int):Rat) - r):=by grind
  show r - ((Υ (mean z y now p):Int):Rat)=Ċ (0 - (if mean z y now p=true then r.den - r.num else 0 - r.num)) r.den;rw[e,h,Rat.neg_divInt];cases mean z y now p<;>simp[Υ]
noncomputable def spWeight:Sp:=fun vs H Q _=>∃(v:V) (l:Addr) (z:Str) (y now:Int) (c:Cond),vs=[v,.ref l,.int now] /\ H l=some (.tup [.str z,.int y]) /\ RepC H c v /\ Bd 200 c.rat /\ (now - y).natAbs<2^100 /\ ∀u H',Same H H'->FrV H' u (wt z y now c)->Q u H'
noncomputable def yE1:Sp:=fun vs H Q _=>∃(v:V) (l:Addr) (z:Str) (y now:Int) (c:Cond),vs=[v,.ref l,.int now] /\ H l=some (.tup [.str z,.int y]) /\ RepC H c v /\ Bd 200 c.rat /\ (now - y).natAbs<2^100 /\ Q (.int (fac z y now c)) H
noncomputable def yJ4:Sp:=fun vs H Q _=>∃v r,vs=[v] /\ FrV H v r /\ Q (.bl true) H
theorem yA6:(10:Int)^(12:Int).toNat=1000000000000:=by decide
theorem yM5 {i:Int}(h:0<=i /\ i<26):∃ch,atI ("abcdefghijklmnopqrstuvwxyz":Str).cps.toList i=some ch:=by
 obtain⟨j,rfl⟩:=Ī h.1;have e:("abcdefghijklmnopqrstuvwxyz":Str).cps.toList.length=26:=by decide +kernel
 have hj:j<("abcdefghijklmnopqrstuvwxyz":Str).cps.toList.length:=by lia
 exact⟨_,Ŭ (ā hj)⟩
theorem yW2 {zs:List Str}{k:Int}(h0:0<=k)(h1:k<zs.length):∃z,atI (zs.map V.str) k=some (V.str z):=by
 obtain⟨j,rfl⟩:=Ī h0;have hj:j<zs.length:=by lia
 refine⟨zs[j],Ŭ ?_⟩;rw[č,ā hj];rfl
theorem PkV.nay {H:Hp}{q:Addr}{x:V}{d:Nat}(h:H q=some (.tup [.str "not",x]))(hx:PkV H d x):PkV H (d+1) (.ref q):=by
 obtain⟨p,r,l⟩:=hx;exact⟨.nay p,⟨q,x,rfl,h,r⟩,by simp only[dp];lia⟩
theorem PkV.both {H:Hp}{q:Addr}{x y:V}{d:Nat}(h:H q=some (.tup [.str "both",x,y]))(hx:PkV H d x)(hy:PkV H d y):PkV H (d+1) (.ref q):=by
 obtain⟨p,r,l⟩:=hx;exact let ⟨p',r',l'⟩:=hy;⟨.both p p',⟨q,x,y,rfl,h,r,r'⟩,by simp only[dp];lia⟩
theorem PkV.one {H:Hp}{q:Addr}{x y:V}{d:Nat}(h:H q=some (.tup [.str "one",x,y]))(hx:PkV H d x)(hy:PkV H d y):PkV H (d+1) (.ref q):=by
 obtain⟨p,r,l⟩:=hx;exact let ⟨p',r',l'⟩:=hy;⟨.one p p',⟨q,x,y,rfl,h,r,r'⟩,by simp only[dp];lia⟩
theorem PkV.years {H:Hp}{q:Addr}{i j:Int}(h:H q=some (.tup [.str "years",.int i,.int j])):PkV H 1 (.ref q):=⟨.years i j,⟨q,rfl,h⟩,Ć _⟩
theorem PkV.old {H:Hp}{q:Addr}{i:Int}(h:H q=some (.tup [.str "old",.int i])):PkV H 1 (.ref q):=⟨.old i,⟨q,rfl,h⟩,Ć _⟩
theorem PkV.name {H:Hp}{q:Addr}{z:Str}(h:H q=some (.tup [.str "name",.str z])):PkV H 1 (.ref q):=⟨.name z,⟨q,rfl,h⟩,Ć _⟩
structure PL (H H1:Hp)(p:Addr)(xs:List V)(m d:Nat):Prop where
 same:Same H H1
 here:H1 p=some (.lst xs)
 len:xs.length=m
 all:∀v∈xs,PkV H1 d v
theorem PL.snoc {H H1:Hp}{p q:Addr}{xs:List V}{m d e:Nat}{o:HO}(h:PL H H1 p xs m d)(hp:H p=none)(hq:H1 q=none)(hde:d<=e)
  (new:∀H',H' q=some o->(∀v∈xs,PkV H' d v)->PkV H' e (.ref q)):PL H (upd (upd H1 q o) p (.lst (xs++[.ref q]))) p (xs++[.ref q]) (m+1) e:=by
 have hs:=Same.upd (o:=o) hq;have hpq:=hs _ _ h.here;have al:∀v∈xs,PkV (upd (upd H1 q o) p (.lst (xs++[.ref q]))) d v:=fun v hv=>((h.all v hv).same hs).updL hpq;refine⟨(h.same.trans hs).updD hp,Ã,by rw[Ĕ,h.len];rfl,fun v hv=>?_⟩;rcases ř.mp hv with z | z
 ·exact(al v z).le hde
 ·have z:=ő.mp z;subst z;refine new _ ?_ al;rw[upd_ne (ê h.here hq).symm];exact Ã
theorem PL.get {H H1:Hp}{p:Addr}{xs:List V}{m d:Nat}(h:PL H H1 p xs m d){k:Int}(h0:0<=k)(h1:k<m):∃v,v∈xs /\ atI xs k=some v:=yR1 h0 (by rw[h.len];exact h1)
theorem RepC.snd {H:Hp}:∀{c:Cond} {v:V},RepC H c v->∃a b xs,v = .ref a /\ H a=some (.tup xs) /\ atI xs 1=some (.ref b) /\ H b=some (.tup (fq c.rat))
 | .mean _,_,⟨a,x,e,h,⟨b,e2,f⟩⟩=>⟨a,b,_,e,h,by rw[e2];rfl,f⟩
 | .least _ _,_,⟨a,x,y,e,h,⟨b,e2,f⟩,_⟩=>⟨a,b,_,e,h,by rw[e2];rfl,f⟩
 | .most _ _,_,⟨a,x,y,e,h,⟨b,e2,f⟩,_⟩=>⟨a,b,_,e,h,by rw[e2];rfl,f⟩
theorem yY6 {n:Int}{m:Nat}(h:n.natAbs<2^m)(hm:1<=m):Bd m (n:Rat):=⟨h,by show 1<2^m;exact Nat.one_lt_two_pow (by lia)⟩
theorem yQ9 {m n:Nat}{r q:Rat}(h1:Bd m r)(h2:Bd n q):Bd (m+n+1) (r - q):=by
 rw[Rat.sub_eq_add_neg];exact h1.add h2.neg
theorem yE9 (b:Bool):Bd 100 ((Υ b:Int):Rat):=yY6 (by cases b<;>decide) (by decide)
theorem xM3 {z:Str}{y now:Int}{c:Cond}(hB:Bd 200 c.rat)(hn:(now - y).natAbs<2^100):Bd 400 (wt z y now c):=by
 cases c with
 | mean r=>exact(yQ9 (yY6 hn (by decide)) hB).mono (by decide)
 | least r p=>exact(yQ9 (yE9 _) hB).mono (by decide)
 | most r p=>exact(yQ9 hB (yE9 _)).mono (by decide)
theorem zW1 {a b:Int}{A B:Nat}(h4:4*A<=B)(x:a.natAbs<A)(y:b.natAbs<A):(a - b).natAbs<B:=by lia
theorem yO6 {z:Str}{y now:Int}{c:Cond}(hB:Bd 200 c.rat)(hn:(now - y).natAbs<2^100):(fac z y now c).natAbs<2^400:=by
 have h1:c.rat.num.natAbs<2^300:=Ă hB.num (Þ (by decide));have h2:((c.rat.den:Int)).natAbs<2^300:=Ă hB.den (Þ (by decide));have h3:((now - y)*(c.rat.den:Int)).natAbs<2^300:=Û (m:=100) (n:=200) hn hB.den;have h4:(4:Nat)*2^300<=2^400:=by
  rw[show (4:Nat)=2^2 from rfl,<- Ľ];exact Þ (by decide)
 have h0:(0:Int).natAbs<2^300:=ś _;cases c with
 | mean r=>exact zW1 h4 h3 h1
 | least r p =>
  show (if mean z y now p=true then (r.den:Int) - r.num else 0 - r.num).natAbs<_
  split
  ·exact zW1 h4 h2 h1
  ·exact zW1 h4 h0 h1
 | most r p =>
  show (0 - (if mean z y now p=true then (r.den:Int) - r.num else 0 - r.num)).natAbs<_;rw[Int.zero_sub,Int.natAbs_neg]
  split
  ·exact zW1 h4 h2 h1
  ·exact zW1 h4 h0 h1
noncomputable def cl (i:Int):Int:=if (if i<9999 then i else 9999) > 0 then (if i<9999 then i else 9999) else 0
theorem xP2 (i:Int):0<=cl i /\ cl i<=9999:=by
 unfold cl
 constructor<;>(split<;>split<;>lia)
theorem RepC.tup {H H':Hp}(s:∀a xs,H a=some (.tup xs)->H' a=some (.tup xs)):∀{c:Cond} {v:V},RepC H c v->RepC H' c v
 | .mean _,_,⟨a,x,e,h,f⟩=>⟨a,x,e,s _ _ h,f.tup s⟩
 | .least _ _,_,⟨a,x,y,e,h,f,g,l⟩=>⟨a,x,y,e,s _ _ h,f.tup s,g.mono s,l⟩
 | .most _ _,_,⟨a,x,y,e,h,f,g,l⟩=>⟨a,x,y,e,s _ _ h,f.tup s,g.mono s,l⟩
noncomputable abbrev Lot:=Str×Int
noncomputable abbrev Ent:=Lot×Rat
noncomputable def kyL (l:Lot):List Key:=[.inr l.1,.inl l.2]
noncomputable def EnV (H:Hp)(kv:List Key×V)(e:Ent):Prop:=kv.1=kyL e.1 /\ FrV H kv.2 e.2
structure OkE (now:Int)(e:Ent):Prop where
 pos:0<e.2
 den:e.2.den∣27720
 bd:Bd 100 e.2
 yr:(now - e.1.2).natAbs<2^100
 bd40:Bd 40 e.2
 yr15:(now - e.1.2).natAbs<2^15
structure OkW (now:Int)(W:List Ent):Prop where
 all:∀e∈W,OkE now e
 ne:W≠[]
 len:W.length<=3
noncomputable def WnV (H:Hp)(v:V)(W:List Ent):Prop:=∃d kvs,v = .ref d /\ H d=some (.dT kvs) /\ Paired (EnV H) kvs W
theorem WnV.same {H H':Hp}{v:V}{W:List Ent}(h:WnV H v W)(s:Same H H'):WnV H' v W:=by
 obtain⟨d,kvs,e,h1,h2⟩:=h;exact⟨d,kvs,e,s _ _ h1,Paired.mapP h2 fun _ _ f=>⟨f.1,f.2.same s⟩⟩
noncomputable def OfV (H:Hp)(v:V)(W:List Ent):Prop:=∃a w pr,v = .ref a /\ H a=some (.tup [w,pr]) /\ WnV H w W
theorem OfV.same {H H':Hp}{v:V}{W:List Ent}(h:OfV H v W)(s:Same H H'):OfV H' v W:=by
 obtain⟨a,w,pr,e,h1,h2⟩:=h;exact⟨a,w,pr,e,s _ _ h1,h2.same s⟩
noncomputable def totQ (W:List Ent):Rat:=sumL W (·.2)
noncomputable def balQ (now:Int)(c:Cond)(W:List Ent):Rat:=sumL W fun e=>e.2*wt e.1.1 e.1.2 now c
noncomputable def unZ (r:Rat):Int:=r.num*(27720:Int).fdiv r.den
noncomputable def totZ (W:List Ent):Int:=(W.map fun e=>unZ e.2).sum
noncomputable def wghZ (now:Int)(c:Cond)(W:List Ent):Int:=(W.map fun e=>unZ e.2*fac e.1.1 e.1.2 now c).sum
theorem yI6 {r:Rat}(h:r.den∣27720):((unZ r:Int):Rat)=27720*r:=by
 obtain⟨k,hk⟩:=h;have d:=Î r;have e1:(27720:Int).fdiv r.den=(k:Nat):=by
  rw[Ŀ _ (by lia)];have:(27720:Int)=(r.den:Int)*(k:Int):=by exact_mod_cast hk
  rw[this];exact Int.mul_ediv_cancel_left _ (by lia)
 unfold unZ;rw[e1,Ē,Ĝ];have e2:=Χ r;have e3:(27720:Rat)=(r.den:Rat)*(k:Rat):=by
  rw[<- į,<- hk];rfl
 rw[e3,<- e2]
 grind
theorem xK6 (z:Str)(y now:Int)(c:Cond):((fac z y now c:Int):Rat)=wt z y now c*(c.rat.den:Rat):=by
 have h:=xK5 z y now c;have h2:(((wt z y now c).num*c.rat.den:Int):Rat)=((fac z y now c*(wt z y now c).den:Int):Rat):=by rw[h]
 rw[Ē,Ē,Ĝ,Ĝ]at h2;have e:=Χ (wt z y now c);have n:=χ (wt z y now c).den_pos;rw[<- e]at h2
 grind
theorem ν {now:Int}:∀{W:List Ent},(∀e∈W,OkE now e)->((totZ W:Int):Rat)=27720*totQ W
 | [],_=>by show ((0:Int):Rat)=27720*0;grind
 | e::W,h=>by
  have ih:=ν (W:=W) fun e he=>h e (ć _ he);have e1:=yI6 (h e Ĉ).den;show ((unZ e.2+totZ W:Int):Rat)=27720*sumL (e::W) (·.2);rw[ä,Rat.intCast_add,ih,e1];show _=27720*(e.2+totQ W)
  grind
theorem yD1 {now:Int}(c:Cond):∀{W:List Ent},(∀e∈W,OkE now e)->((wghZ now c W:Int):Rat)=27720*(c.rat.den:Rat)*balQ now c W
 | [],_=>by show ((0:Int):Rat)=27720*(c.rat.den:Rat)*0;grind
 | e::W,h=>by
  have ih:=yD1 c (W:=W) fun e he=>h e (ć _ he);have e1:=yI6 (h e Ĉ).den;have e2:=xK6 e.1.1 e.1.2 now c;show ((unZ e.2*fac e.1.1 e.1.2 now c+wghZ now c W:Int):Rat)=27720*(c.rat.den:Rat)*sumL (e::W) fun e=>e.2*wt e.1.1 e.1.2 now c;rw[ä,Rat.intCast_add,Ē,ih,e1,e2];show _=27720*(c.rat.den:Rat)*(e.2*wt e.1.1 e.1.2 now c+balQ now c W)
  grind
theorem yI5 {r:Rat}(h:r.den∣27720)(h0:0<r):0<unZ r:=by
 have e:=yI6 h;have h1:(0:Rat)<((unZ r:Int):Rat):=by rw[e];grind
 exact_mod_cast h1
theorem Θ {now:Int}{W:List Ent}(h:OkW now W):0<totZ W:=by
 have key:∀{W:List Ent},(∀e∈W,OkE now e)->0<=totZ W:=by
  intro W
  induction W with
  | nil=>intro _;exact Int.le_refl 0
  | cons e W ih =>
   intro h;have:=yI5 (h e Ĉ).den (h e Ĉ).pos;have:=ih fun e he=>h e (ć _ he);show 0<=unZ e.2+totZ W;lia
 match W,h with
 | [],h=>exact absurd rfl h.ne
 | e::W,h =>
  have:=yI5 (h.all e Ĉ).den (h.all e Ĉ).pos;have:=key (W:=W) fun e he=>h.all e (ć _ he);show 0<unZ e.2+totZ W;lia
theorem zV8 {now:Int}{W:List Ent}(h:OkW now W):totQ W≠0:=fun e=>by
 have h1:=ν h.all;rw[e,Ł]at h1;have h2:totZ W=0:=by exact_mod_cast h1
 have:=Θ h;lia
theorem yD6 {r:Rat}(h:Bd 100 r):(unZ r).natAbs<2^120:=by
 unfold unZ;have d:=Î r;have h1:((27720:Int).fdiv r.den).natAbs<2^20:=by
  have:=natAbs_fdiv_le (27720:Int) r.den;have e:(2:Nat)^20=1048576:=by decide
  rw[e];have e2:(27720:Int).natAbs=27720:=rfl;lia
 exact Û (m:=100) (n:=20) h.num h1
theorem zV9 {α:Type}{f:α->Int}{n:Nat}:∀{W:List α},(∀e∈W,(f e).natAbs<2^n)->((W.map f).sum).natAbs<=W.length*2^n
 | [],_=>by simp
 | e::W,h=>by
  have h1:=h e Ĉ;have h2:=zV9 (W:=W) fun e he=>h e (ć _ he);rw[ľ,List.sum_cons,ī,Nat.add_mul];have:=Int.natAbs_add_le (f e) (W.map f).sum;lia
theorem mul4 {n k:Nat}(h:k<=4):k*2^n<=2^(n+2):=by
 rw[Ľ,ť];exact Ō _ h
theorem Λ {now:Int}{W:List Ent}(h:OkW now W):(totZ W).natAbs<=2^122:=by
 have h1:=zV9 (f:=fun e:Ent=>unZ e.2) (n:=120) fun e he=>yD6 (h.all e he).bd;exact ĉ h1 (mul4 (by have:=h.len;lia))
theorem zQ7 {now:Int}{c:Cond}{W:List Ent}(h:OkW now W)(hc:Bd 200 c.rat):(wghZ now c W).natAbs<=2^522:=by
 have h1:=zV9 (f:=fun e:Ent=>unZ e.2*fac e.1.1 e.1.2 now c) (n:=520) fun e he=>Û (m:=120) (n:=400) (yD6 (h.all e he).bd) (yO6 hc (h.all e he).yr);exact ĉ h1 (mul4 (by have:=h.len;lia))
noncomputable abbrev Zz:=List Ent×Rat
theorem yD7 {now:Int}{W:List Ent}(h:OkW now W):Bd 200 (totQ W):=by
 have h1:=ν h.all;have e:totQ W=Ċ (totZ W) 27720:=by
  rw[Ħ,h1];have:((27720:Int):Rat)=27720:=rfl;rw[this]
  grind
 rw[e];refine Bd.divInt (by decide) (ă (Λ h) (by decide)) (by decide)
theorem yC4 {now:Int}{c:Cond}{W:List Ent}(h:∀e∈W,OkE now e)(hl:W.length<=3)(hc:Bd 200 c.rat):Bd 700 (balQ now c W):=by
 have h1:=yD1 c h;have hz:(wghZ now c W).natAbs<=2^522:=by
  have h1:=zV9 (f:=fun e:Ent=>unZ e.2*fac e.1.1 e.1.2 now c) (n:=520) fun e he=>Û (m:=120) (n:=400) (yD6 (h e he).bd) (yO6 hc (h e he).yr);exact ĉ h1 (mul4 (by lia))
 have n3:=χ c.rat.den_pos;have e:balQ now c W=Ċ (wghZ now c W) (27720*c.rat.den:Nat):=by
  rw[Ħ,h1,Ĝ,į];have:((27720:Nat):Rat)=27720:=rfl;rw[this]
  grind
 rw[e];have d:=c.rat.den_pos;refine Bd.divInt (by lia) (ă hz (by decide)) ?_;have h2:c.rat.den<2^200:=hc.den;have:27720*c.rat.den<2^15*2^200:=Nat.mul_lt_mul_of_lt_of_le (by decide) (Ĩ h2) (by lia);rw[<- Ľ]at this;exact Ă (show 27720*c.rat.den<2^215 from this) (Þ (by decide))
theorem yW6 {now:Int}{c:Cond}{W:List Ent}(h:OkW now W)(hc:Bd 200 c.rat):Bd 1000 (balQ now c W / totQ W):=by
 rw[ę];exact((yC4 h.all h.len hc).mul ((yD7 h).inv (zV8 h))).mono (by decide)
noncomputable def spTotal:Sp:=fun vs H Q _=>∃(v:V) (W:List Ent) (now:Int),vs=[v] /\ WnV H v W /\ OkW now W /\ ∀u H',Same H H'->FrV H' u (totQ W)->Q u H'
noncomputable def spBal:Sp:=fun vs H Q _=>∃(v w:V) (now:Int) (c:Cond) (W:List Ent),vs=[v,w,.int now] /\ RepC H c v /\ Bd 200 c.rat /\ WnV H w W /\ OkW now W /\ ∀u H',Same H H'->FrV H' u (balQ now c W)->Q u H'
noncomputable def CdV (H:Hp)(v:V)(c:Cond):Prop:=RepC H c v /\ Bd 200 c.rat
noncomputable def RwV (H:Hp)(now:Int)(Ws:List (List Ent))(v:V)(c:Cond):Prop:=∃a xs,v = .ref a /\ H a=some (.lst xs) /\ Paired (FrV H) xs (Ws.map fun W=>balQ now c W / totQ W)
noncomputable def spWin (K:Ā):Sp:=fun vs H Q _=>∃(ao al:Addr) (now:Int) (os ls:List V) (Ws:List (List Ent)) (cs:List Cond),vs=[.ref ao,.ref al,.int now] /\ SqL K H ao os /\ Paired (OfV H) os Ws /\ (∀W∈Ws,OkW now W) /\ Ws.length<=8 /\ SqL K H al ls /\ Paired (CdV H) ls cs /\ cs.length<=8 /\
 ∀p H' rs,H p=none->Same H H'->H' p=some (.lst rs)->Paired (fun v c=>RwV H' now Ws v c /\ ∃a,v = .ref a /\ H a=none) rs cs->Q (.ref p) H'
theorem zH9 {α β:Type}(g:α->β)(f:β->Rat)(l:List α):sumL (l.map g) f=sumL l fun z=>f (g z):=by
 unfold sumL;rw[List.map_map];rfl
theorem zJ9 {α β γ:Type}{F:α->γ->Prop}{g:β->γ}:∀{xs:List α} {ys:List β},Paired (fun x y=>F x (g y)) xs ys->Paired F xs (ys.map g)
 | _,_,.nil=>.nil
 | _,_,.cons h t=>.cons h (zJ9 t)
theorem yL0 {H:Hp}{kvs:List (List Key×V)}{ps:List (V×V)}(hps:Paired (fun kv p=>∃b,p=(V.ref b,kv.2) /\ H b=some (.tup (kv.1.map kV))) kvs ps){W:List Ent}{H0:Hp}(hE:Paired (EnV H0) kvs W){i:Nat}{k v:V}(h:ps[i]?=some (k,v)) :
  ∃b e,k = .ref b /\ H b=some (.tup [.str e.1.1,.int e.1.2]) /\ W[i]?=some e /\ FrV H0 v e.2:=by
 have hi:i<ps.length:=(Ą.mp h).1;have hl:=hps.length;have hk:i<kvs.length:=by lia
 obtain⟨p,hp,b,e1,hb⟩:=zK1 hps (ā hk);rw[h]at hp;cases hp;obtain⟨e,he,h1,h2⟩:=zK1 hE (ā hk);obtain⟨e3,e4⟩:=Prod.mk.inj e1;refine⟨b,e,e3,?_,he,by rw[e4];exact h2⟩;rw[h1]at hb;exact hb
noncomputable def spUnits:Sp:=fun vs H Q _=>∃(v:V) (r:Rat),vs=[v] /\ FrV H v r /\ Bd 100 r /\ Q (.int (unZ r)) H
noncomputable def spWghd:Sp:=fun vs H Q _=>∃(v w:V) (now:Int) (c:Cond) (W:List Ent),vs=[v,w,.int now] /\ RepC H c v /\ Bd 200 c.rat /\ WnV H w W /\ OkW now W /\ ∀H',Same H H'->Q (.int (wghZ now c W)) H'
noncomputable def spLTot:Sp:=fun vs H Q _=>∃(w:V) (now:Int) (W:List Ent),vs=[w] /\ WnV H w W /\ OkW now W /\ ∀H',Same H H'->Q (.int (totZ W)) H'
noncomputable abbrev I2:=Int×Int
noncomputable def PrI (H:Hp)(v:V)(p:I2):Prop:=∃c,v = .ref c /\ H c=some (.tup [.int p.1,.int p.2])
noncomputable def quI (p:I2):Rat:=Ċ p.1 p.2
noncomputable def spLSum (K:Ā):Sp:=fun vs H Q _=>∃(a:Addr) (xs:List V) (ps:List I2),vs=[.ref a] /\ SqL K H a xs /\ Paired (PrI H) xs ps /\ (∀p∈ps,0<p.2 /\ p.1.natAbs<2^4000 /\ p.2.natAbs<2^4000) /\ (∀k,k<=ps.length->Bd 4000 (sumL (ps.take k) quI)) /\ ∀v H',Same H H'->FrV H' v (sumL ps quI)->Q v H'
theorem xL8 (S:Rat)(p:I2)(h:0<p.2):Ċ (S.num*p.2+p.1*S.den) (S.den*p.2)=S+quI p:=by
 have d:=Î S;have h1:=Rat.divInt_add_divInt S.num p.1 (d₁:=S.den) (d₂:=p.2) (by lia) (by lia);rw[ġ]at h1;unfold quI;rw[h1]
noncomputable def spWine:Sp:=fun vs H Q _=>∃(c o:Int) (an:Addr) (zs:List Str) (now:Int),vs=[.int c,.int o,.ref an,.int now] /\ H an=some (.lst (zs.map V.str)) /\ zs.length=3 /\ (0<=now /\ now<20001) /\ 1<=c.fmod 4 /\ (0<=o /\ o<1000) /\ ∀d H' W,H d=none->Same H H'->WnV H' (.ref d) W->OkW now W->Q (.ref d) H'
theorem yP3 {t b:Int}(hb:b≠0):(Ċ t b).den∣b.natAbs:=by
 have h:=yX1 hb (w:=Ċ t b) rfl;have h2:(Ċ t b).den∣((Ċ t b).num*b).natAbs:=by
  rw[h,Ĵ];exact Nat.dvd_mul_left _ _
 rw[Ĵ]at h2;exact(Nat.Coprime.symm (Ċ t b).reduced).dvd_of_dvd_mul_left h2
theorem xO6 {b:Int}(h0:1<=b)(h1:b<=12):b.natAbs∣27720:=by
 have:b=1 \/ b=2 \/ b=3 \/ b=4 \/ b=5 \/ b=6 \/ b=7 \/ b=8 \/ b=9 \/ b=10 \/ b=11 \/ b=12:=by lia
 rcases this with rfl | rfl | rfl | rfl | rfl | rfl | rfl | rfl | rfl | rfl | rfl | rfl<;>decide
theorem zO4 {t b:Int}(h0:0<t)(b0:0<b):0<Ċ t b:=by
 have h1:0<=Ċ t b:=Rat.divInt_nonneg (by lia) (by lia);have h2:Ċ t b≠0:=by
  rw[Ħ];intro e;have n1:(b:Rat)≠0:=by
   intro z;have:b=0:=by exact_mod_cast z
   lia
  have n2:(t:Rat)≠0:=by
   intro z;have:t=0:=by exact_mod_cast z
   lia
  grind
 exact xG9 h1 h2
theorem yK9 {H:Hp}{e:Ent}{v:V}(hv:FrV H v e.2):∀{kvs:List (List Key×V)} {W:List Ent},Paired (EnV H) kvs W->Paired (EnV H) (kvs.map fun kv=>if kv.1=kyL e.1 then (kv.1,v) else kv) (W.map fun x=>if kyL x.1=kyL e.1 then e else x)
 | _,_,.nil=>.nil
 | kv::kvs,x::W,.cons h t=>by
  refine .cons ?_ (yK9 hv t);have ek:=h.1;show EnV H (if kv.1=kyL e.1 then (kv.1,v) else kv) (if kyL x.1=kyL e.1 then e else x)
  by_cases q:kyL x.1=kyL e.1
  ·rw[if_pos (ek.trans q),if_pos q];exact⟨ek.trans q,hv⟩
  ·rw[if_neg (fun z=>q (ek.symm.trans z)),if_neg q];exact h
theorem yS6 {H:Hp}{kvs:List (List Key×V)}{W:List Ent}(h:Paired (EnV H) kvs W)(e:Ent){v:V}(hv:FrV H v e.2):∃W',Paired (EnV H) (putK kvs (kyL e.1) v) W' /\ (∀x∈W',x∈W \/ x=e) /\ W'.length<=W.length+1 /\ W'≠[]:=by
 unfold putK
 split
 ·rename_i ha;refine⟨_,yK9 hv h,fun x hx=>?_,by rw[ą];lia,?_⟩
  ·obtain⟨y,hy,e1⟩:=ŀ.mp hx
   by_cases q:kyL y.1=kyL e.1
   ·rw[if_pos q]at e1;exact .inr e1.symm
   ·rw[if_neg q]at e1;exact .inl (e1▸hy)
  ·intro z;have hl:=h.length;have:W=[]:=by
    cases W with
    | nil=>rfl
    | cons _ _=>simp at z
   rw[this]at hl;have:kvs=[]:=List.eq_nil_of_length_eq_zero hl;rw[this]at ha;cases ha
 ·refine⟨W++[e],Paired.snoc h ⟨rfl,hv⟩,fun x hx=>?_,by rw[Ĕ];exact Ć _,by simp⟩;rcases ř.mp hx with q | q
  ·exact .inl q
  ·exact .inr (ő.mp q)
theorem yS0 {lo hi c:Int}{i:Nat}(hc:0<c)(h:i<rngN lo hi c):lo+(i:Int)*c<hi:=by
 unfold rngN at h
 split at h
 ·have h1:(i:Int)<=(hi - lo - 1) / c:=by lia
  have h2:=Int.mul_le_of_le_ediv hc h1;lia
 ·lia
theorem yK2 {H:Hp}{xs:List V}{α:Type}{ys:List α}{F:V->α->Prop}(h:Paired F xs ys)(hF:∀v y,F v y->∃a,v = .ref a):∀x∈xs,∃a,x = .ref a:=by
 intro x hx;obtain⟨y,_,f⟩:=yH1 h hx;exact hF x y f
theorem yS1 {H:Hp}:∀{c:Cond} {v:V},RepC H c v->∃a,v = .ref a
 | .mean _,_,⟨a,_,e,_⟩=>⟨a,e⟩
 | .least _ _,_,⟨a,_,_,e,_⟩=>⟨a,e⟩
 | .most _ _,_,⟨a,_,_,e,_⟩=>⟨a,e⟩
noncomputable def LsF (H:Hp)(a:Addr)(rs:List Rat):Prop:=∃vs,H a=some (.lst vs) /\ Paired (FrV H) vs rs
theorem LsF.same {H H':Hp}{a:Addr}{rs:List Rat}(h:LsF H a rs)(s:Same H H'):LsF H' a rs:=by obtain⟨vs,h1,h2⟩:=h;exact⟨vs,s _ _ h1,Paired.mapP h2 fun _ _ f=>f.same s⟩
theorem LsF.keep {H H':Hp}{a:Addr}{rs:List Rat}(h:LsF H a rs)(tu:∀c l,H c=some (.tup l)->H' c=some (.tup l))(e:∀vs,H a=some (.lst vs)->H' a=some (.lst vs)):LsF H' a rs:=by obtain⟨vs,h1,h2⟩:=h;exact⟨vs,e _ h1,Paired.mapP h2 fun _ _ f=>f.tup tu⟩
theorem zU8 {α:Type}{xs:List α}{x y:α}{j:Nat}(h:(xs++[x])[j]?=some y):xs[j]?=some y \/ (j=xs.length /\ y=x):=by
 by_cases hj:j<xs.length
 ·left;rw[Ũ hj]at h;exact h
 ·right
  rw[ş (by lia)]at h;have:j - xs.length=0:=by
   have:=(Ą.mp h).1;simp at this;lia
  rw[this]at h;exact⟨by lia,by simpa using h.symm⟩
noncomputable def nR (m:Nat)(f:Nat->Rat):List Rat:=(Đ m).map f
theorem Ý (m:Nat)(f:Nat->Rat):(nR m f).length=m:=by unfold nR;rw[ą,ē]
theorem Ÿ {m:Nat}{f:Nat->Rat}{j:Nat}{r:Rat}(h:(nR m f)[j]?=some r):j<m /\ r=f j:=by
 unfold nR at h;rw[č]at h
 by_cases hj:j<m
 ·rw[Ģ hj]at h;exact⟨hj,(Option.some.inj h).symm⟩
 ·rw[Ġ (by rw[ē];lia)]at h;cases h
theorem xI7 {m:Nat}(f:Nat->Rat){j:Nat}(h:j<m):(nR m f)[j]?=some (f j):=by
 unfold nR;rw[č,Ģ h];rfl
theorem yM2 (m:Nat)(f:Nat->Rat){j:Nat}(h:j<=m):(nR m f).take j=nR j f:=by
 unfold nR;rw[<- Ţ,ũ,Ŝ h]
theorem Ŵ (m:Nat)(f:Nat->Rat):nR (m+1) f=nR m f++[f m]:=by
 unfold nR;rw[Ř,ė];rfl
theorem Κ {m:Nat}{f g:Nat->Rat}(h:∀j,j<m->f j=g j):nR m f=nR m g:=by
 unfold nR;exact List.map_congr_left fun j hj=>h j (ğ.mp hj)
noncomputable def MatAt (H:Hp)(a:Addr)(r m:Nat)(M:Nat->Nat->Rat):Prop:=∃bs:List Addr,H a=some (.lst (bs.map V.ref)) /\ bs.length=r /\ ∀i b,bs[i]?=some b->LsF H b (nR m (M i))
theorem MatAt.same {H H':Hp}{a:Addr}{r m:Nat}{M:Nat->Nat->Rat}(h:MatAt H a r m M)(s:Same H H'):MatAt H' a r m M:=by obtain⟨bs,h1,h2,h3⟩:=h;exact⟨bs,s _ _ h1,h2,fun i b e=>(h3 i b e).same s⟩
theorem Ε {bs:List Addr}{i:Nat}{b:Addr}(h:bs[i]?=some b):atI (bs.map V.ref) ((i:Nat):Int)=some (.ref b):=Ŭ (by rw[č,h];rfl)
theorem xA8 {bs:List Addr}{i:Nat}{x:V}(h:(bs.map V.ref)[i]?=some x):∃b,x = .ref b /\ bs[i]?=some b:=by
 rw[č]at h;cases q:bs[i]? with
 | none=>rw[q]at h;cases h
 | some b=>rw[q]at h;exact⟨b,(Option.some.inj h).symm,rfl⟩
theorem LsF.at {H:Hp}{a:Addr}{m:Nat}{f:Nat->Rat}(h:LsF H a (nR m f)){j:Nat}(hj:j<m):∃vs v,H a=some (.lst vs) /\ vs.length=m /\ atI vs ((j:Nat):Int)=some v /\ FrV H v (f j):=by
 obtain⟨vs,h1,h2⟩:=h;have hl:vs.length=m:=h2.length.trans (Ý m f);obtain⟨v,hv⟩:∃v,vs[j]?=some v:=⟨_,ā (by lia)⟩;obtain⟨r,hr,fr⟩:=Ê h2 hv;obtain⟨_,rfl⟩:=Ÿ hr;exact⟨vs,v,h1,hl,Ŭ hv,fr⟩
theorem eq01 (t:Rat):PyData.eqv (pq t.num t.den) (pq 0 1)=decide (t=0):=by
 rw[zQ6];exact zQ4 t 0
theorem Ψ {n k:Nat}(h:k<n):ixN n ((k:Nat):Int)=some k:=by
 unfold ixN;rw[if_pos (by lia),if_pos (by lia)];simp
theorem zI2 {α β:Type}{F:α->β->Prop}:∀{xs:List α} {ys:List β},xs.length=ys.length->(∀(i:Nat) (x:α) (y:β),xs[i]?=some x->ys[i]?=some y->F x y)->Paired F xs ys
 | [],[],_,_=>.nil
 | [],_::_,h,_=>by simp at h
 | _::_,[],h,_=>by simp at h
 | x::xs,y::ys,h,g=>.cons (g 0 x y rfl rfl) (zI2 (by simpa using h) fun i a b ha hb=>g (i+1) a b (by simpa using ha) (by simpa using hb))
noncomputable def spLess:Sp:=fun vs H Q _=>∃(a b:Addr) (fv:V) (m:Nat) (f g:Nat->Rat) (t:Rat),vs=[.ref a,.ref b,fv] /\ LsF H a (nR m f) /\ LsF H b (nR m g) /\ FrV H fv t /\ m<=30 /\ Bd 8000 t /\ (∀j,j<m->Bd 8000 (f j) /\ Bd 8000 (g j) /\ Bd 8000 (g j*t)) /\
 ∀p H',H p=none->Same H H'->LsF H' p (nR m fun j=>f j - g j*t)->Q (.ref p) H'
noncomputable def spPiv:Sp:=fun vs H Q _=>∃(a:Addr) (r m c k:Nat) (M:Nat->Nat->Rat),vs=[.ref a,.int (c:Nat),.int (k:Nat)] /\ MatAt H a r m M /\ c<r /\ k<m /\ r<=30 /\ m<=30 /\ M c k≠0 /\ (∀i,i<r->∀j,j<m->Bd 8000 (M i j) /\ Bd 8000 (M c j / M c k) /\ Bd 8000 (M c j / M c k*M i k)) /\
 ∀p H',H p=none->Same H H'->MatAt H' p r m (pivM M c k)->Q (.ref p) H'
noncomputable def spEnt:Sp:=fun vs H Q _=>∃(a:Addr) (m k:Nat) (f:Nat->Rat),vs=[.ref a,.int (k:Nat)] /\ LsF H a (nR m f) /\ k<=m /\ m<=1000 /\
 (∀j:Nat,j<k->f j<0->(∀i,i<j->0<=f i)->Q (.int (j:Nat)) H) /\ ((∀i,i<k->0<=f i)->Q .non H)
noncomputable def spLeav:Sp:=fun vs H Q _=>∃(a ab:Addr) (r m mm k:Nat) (M:Nat->Nat->Rat) (B:Nat->Nat),vs=[.ref a,.ref ab,.int (k:Nat)] /\ MatAt H a r m M /\ H ab=some (.lst ((Đ mm).map fun i=>V.int (B i:Nat))) /\ mm<=r /\ r<=30 /\ k<m /\ m<=30 /\
 (∀i,i<mm->Bd 8000 (M i (m - 1)) /\ Bd 8000 (M i k) /\ Bd 8000 (M i (m - 1) / M i k)) /\ (∃i,i<mm /\ 0<M i k) /\
 ∀i H',i<mm->0<M i k->(∀l,l<mm->0<M l k->M i (m - 1)*M l k<=M l (m - 1)*M i k /\ (M i (m - 1)*M l k=M l (m - 1)*M i k->B i<=B l))->Same H H'->Q (.int (i:Nat)) H'
noncomputable def BestR (M:Nat->Nat->Rat)(n k:Nat)(B:Nat->Nat)(i:Nat):Option Nat->Prop
 | none=>∀l,l<i->¬0<M l k
 | some b=>b<i /\ 0<M b k /\ ∀l,l<i->0<M l k->M b n / M b k<M l n / M l k \/ (M b n / M b k=M l n / M l k /\ B b<=B l)
section
variable {M:Nat->Nat->Rat}{n k:Nat}{B:Nat->Nat}{i:Nat}
theorem BestR.skip {o:Option Nat}(h:BestR M n k B i o)(hn:¬0<M i k):BestR M n k B (i+1) o:=by
 cases o with
 | none =>
  intro l hl;show ¬0<M l k
  ·rcases Ę (ĕ hl) with z | z
   ·exact h l z
   ·rw[z];exact hn
 | some b =>
  refine⟨ĺ h.1,h.2.1,fun l hl hp=>?_⟩;rcases Ę (ĕ hl) with z | z
  ·exact h.2.2 l z hp
  ·rw[z]at hp;exact absurd hp hn
theorem BestR.first (h:BestR M n k B i none)(hp:0<M i k):BestR M n k B (i+1) (some i):=⟨ķ i,hp,fun l hl hq=>by
 rcases Ę (ĕ hl) with z | z
 ·exact absurd hq (h l z)
 ·rw[z];exact .inr ⟨rfl,Ć _⟩⟩
theorem BestR.take {b:Nat}(h:BestR M n k B i (some b))(hp:0<M i k)(lt:M i n / M i k<M b n / M b k \/ (M i n / M i k=M b n / M b k /\ B i<B b)):BestR M n k B (i+1) (some i):=⟨ķ i,hp,fun l hl hq=>by
 rcases Ę (ĕ hl) with z | z
 ·rcases lt with lt | ⟨eq,lt⟩<;>rcases h.2.2 l z hq with g | ⟨g1,g2⟩
  ·exact .inl (by grind)
  ·exact .inl (by grind)
  ·exact .inl (by grind)
  ·exact .inr ⟨by grind,by lia⟩
 ·rw[z];exact .inr ⟨rfl,Ć _⟩⟩
theorem BestR.keep {b:Nat}(h:BestR M n k B i (some b))(nlt:¬M i n / M i k<M b n / M b k)(neq:M i n / M i k=M b n / M b k->¬B i<B b):BestR M n k B (i+1) (some b):=⟨ĺ h.1,h.2.1,fun l hl hq=>by
 rcases Ę (ĕ hl) with z | z
 ·exact h.2.2 l z hq
 ·rw[z]
  by_cases e:M i n / M i k=M b n / M b k
  ·exact .inr ⟨e.symm,by have:=neq e;lia⟩
  ·exact .inl (by grind)⟩
theorem yP1 {x y u v:Rat}(hu:0<u)(hv:0<v):(x / u<y / v->x*v<y*u) /\ (x / u=y / v->x*v=y*u) /\ (x*v=y*u->x / u=y / v):=by
 have e1:u*u⁻¹=1:=Ŕ _ fun e=>by rw[e]at hu;exact absurd hu (by decide)
 have e2:v*v⁻¹=1:=Ŕ _ fun e=>by rw[e]at hv;exact absurd hv (by decide)
 have uv:0<u*v:=Rat.mul_pos hu hv;have a1:x / u*(u*v)=x*v:=by rw[ę];grind
 have a2:y / v*(u*v)=y*u:=by rw[ę];grind
 refine⟨fun h=>?_,fun h=>?_,fun h=>?_⟩
 ·have:=Ĺ h uv
  rwa [a1,a2]at this
 ·rw[<- a1,<- a2,h]
 ·have h1:x / u=x*v*(u*v)⁻¹:=by rw[<- a1,Rat.mul_assoc,Ŕ _ fun e=>by rw[e]at uv;exact absurd uv (by decide),Ň]
  have h2:y / v=y*u*(u*v)⁻¹:=by rw[<- a2,Rat.mul_assoc,Ŕ _ fun e=>by rw[e]at uv;exact absurd uv (by decide),Ň]
  rw[h1,h2,h]
noncomputable def BestV (M:Nat->Nat->Rat)(n k:Nat)(H:Hp)(v3 v4:V):Option Nat->Prop
 | none=>v3 = .non
 | some b=>v3 = .int (b:Nat) /\ FrV H v4 (M b n / M b k)
theorem BestV.same {H H':Hp}{v3 v4:V}{o:Option Nat}(h:BestV M n k H v3 v4 o)(s:Same H H'):BestV M n k H' v3 v4 o:=by
 cases o with
 | none=>exact h
 | some b=>exact⟨h.1,h.2.same s⟩
theorem numpos {x:Rat}:0<x.num↔0<x:=by
 constructor
 ·intro h;refine Rat.not_le.mp fun z=>?_;have h1:0<=x:=Ļ.mp (by lia);have h2:x=0:=by grind
  rw[h2]at h;exact absurd h (by decide)
 ·intro h;have h1:=Ļ.mpr (Ŗ h);rcases Int.lt_or_eq_of_le h1 with z | z
  ·exact z
  ·have:x=0:=Rat.num_eq_zero.mp z.symm;rw[this]at h;exact absurd h (by decide)
theorem BestR.fin {b:Nat}(h:BestR M n k B i (some b)){l:Nat}(hl:l<i)(hq:0<M l k):M b n*M l k<=M l n*M b k /\ (M b n*M l k=M l n*M b k->B b<=B l):=by
 obtain⟨c1,c2,c3⟩:=yP1 (x:=M b n) (y:=M l n) h.2.1 hq;rcases h.2.2 l hl hq with g | ⟨g1,g2⟩
 ·have:=c1 g;exact⟨Ŗ this,fun e=>by rw[e]at this;exact absurd this (Rat.lt_irrefl)⟩
 ·exact⟨by rw[c2 g1];exact Ŏ,fun _=>g2⟩
end
noncomputable def Runs (many mm n q:Nat)(M M':Nat->Nat->Rat)(B B':Nat->Nat):Prop:=∃(S:Nat->Tb) (s r:Nat->Nat),(∀k,k<q->Stb many mm n (S k) (S (k+1)) (s k) (r k)) /\ S 0=tbM mm n M B /\ S q=tbM mm n M' B'
theorem Runs.zero {many mm n:Nat}{M:Nat->Nat->Rat}{B:Nat->Nat}:Runs many mm n 0 M M B B:=⟨fun _=>tbM mm n M B,fun _=>0,fun _=>0,fun k hk=>absurd hk (ņ _),rfl,rfl⟩
theorem Runs.snoc {many mm n q:Nat}{M M' M2:Nat->Nat->Rat}{B B' B2:Nat->Nat}{s r:Nat}(h:Runs many mm n q M M' B B')(g:Stb many mm n (tbM mm n M' B') (tbM mm n M2 B2) s r):Runs many mm n (q+1) M M2 B B2:=by
 obtain⟨S,s',r',run,e0,eq⟩:=h;refine⟨fun k=>if k<=q then S k else tbM mm n M2 B2,fun k=>if k<q then s' k else s,fun k=>if k<q then r' k else r,fun k hk=>?_,?_,?_⟩
 ·show Stb many mm n (if k<=q then S k else _) (if k+1<=q then S (k+1) else _) (if k<q then s' k else s) (if k<q then r' k else r);rw[if_pos (ĕ hk)]
  by_cases e:k<q
  ·rw[if_pos (show k+1<=q from e),if_pos e,if_pos e];exact run k e
  ·have:k=q:=by lia
   subst this;rw[if_neg (by lia),if_neg e,if_neg e,eq];exact g
 ·show (if 0<=q then S 0 else _)=_;rw[if_pos (Ń q)];exact e0
 ·show (if q+1<=q then S (q+1) else _)=_;rw[if_neg (by lia)]
theorem Runs.few {many mm n q:Nat}{M M':Nat->Nat->Rat}{B B':Nat->Nat}(h:Runs many mm n q M M' B B')(can:(tbM mm n M B).Can mm n)(feas:∀i,i<mm->0<=M i n):q<2^n:=by
 obtain⟨S,s',r',run,e0,eq⟩:=h;exact yO5 run (by rw[e0];exact can) (fun i hi=>by rw[e0];exact feas i hi)
theorem Runs.leaves {many mm n q:Nat}{M M':Nat->Nat->Rat}{B B':Nat->Nat}(h:Runs many mm n q M M' B B')(can:(tbM mm n M B).Can mm n)(feas:∀i,i<mm->0<=M i n){L:Rat}(bnd:∀y:Nat->Rat,(∀j,j<n->0<=y j)->(tbM mm n M B).Sol mm n y 1->L<=sN n (fun j=>M mm j*y j)){t:Nat}(ht:t<n)(neg:M' mm t<0):∃i,i<mm /\ 0<M' i t:=by
 obtain⟨S,s',r',run,e0,eq⟩:=h;have:=Tc.leaves (L:=L) run (by rw[e0];exact can) (fun i hi=>by rw[e0];exact feas i hi) (fun y h1 h2=>by rw[e0]at h2 ⊢;exact bnd y h1 h2) (Ć q) ht (by rw[eq];exact neg);rw[eq]at this;exact this
noncomputable def ñ (mm:Nat)(B:Nat->Nat):List V:=(Đ mm).map fun i=>V.int (B i:Nat)
noncomputable def xF7:Sp:=fun vs H Q _=>∃(a ab:Addr) (mm n many:Nat) (M:Nat->Nat->Rat) (B:Nat->Nat) (L:Rat),vs=[.ref a,.ref ab,.int (many:Nat)] /\ MatAt H a (mm+1) (n+1) M /\ H ab=some (.lst (ñ mm B)) /\ many<=n /\ mm+1<=30 /\ n+1<=30 /\ (tbM mm n M B).Can mm n /\ (∀i,i<mm->0<=M i n) /\
 (∀y:Nat->Rat,(∀j,j<n->0<=y j)->(tbM mm n M B).Sol mm n y 1->L<=sN n (fun j=>M mm j*y j)) /\
 (∀q M' B',Runs many mm n q M M' B B'->∀i,i<mm+1->∀j,j<n+1->Bd 2600 (M' i j)) /\
 ∀p pb t q M' B' H',Same H H'->MatAt H' p (mm+1) (n+1) M'->H' pb=some (.lst (ñ mm B'))->H' t=some (.tup [.ref p,.ref pb])->Runs many mm n q M M' B B'->(∀j,j<many->0<=M' mm j)->Q (.ref t) H'
theorem zG2 (mm:Nat)(B:Nat->Nat):(ñ mm B).length=mm:=by unfold ñ;rw[ą,ē]
theorem zX4 (mm:Nat)(B:Nat->Nat)(r s:Nat):(ñ mm B).set r (.int (s:Nat))=ñ mm (fun i=>if i=r then s else B i):=by
 unfold ñ;refine List.ext_getElem? fun i=>?_;rw[List.getElem?_set,č,č,ą,ē]
 by_cases hi:i<mm
 ·rw[Ģ hi]
  by_cases e:r=i
  ·subst e;rw[if_pos rfl,if_pos hi];simp
  ·rw[if_neg e];simp only[Option.map_some];rw[if_neg fun z:i=r=>e z.symm]
 ·rw[Ġ (by rw[ē];lia)]
  by_cases e:r=i
  ·subst e;rw[if_pos rfl,if_neg hi];rfl
  ·rw[if_neg e];rfl
theorem zZ1 {x y:Rat}(bx:Bd 2600 x)(hy:Bd 2600 y):Bd 5200 (x / y):=by
 rw[ę]
 by_cases h:y=0
 ·have:y⁻¹=y:=by rw[h];exact Rat.inv_zero
  rw[this];exact bx.mul hy
 ·exact bx.mul (hy.inv h)
theorem MatAt.setI {H:Hp}{p pb:Addr}{mm n:Nat}{M:Nat->Nat->Rat}{B:Nat->Nat}{xs:List V}(h:MatAt H p (mm+1) (n+1) M)(hb:H pb=some (.lst (ñ mm B))):MatAt (upd H pb (.lst xs)) p (mm+1) (n+1) M:=by
 obtain⟨bs,h1,h2,h3⟩:=h;have np:p≠pb:=fun e=>by
  rw[e,hb]at h1;have h1:=congrArg List.length (HO.lst.inj (Option.some.inj h1));rw[zG2,ą]at h1;lia
 refine⟨bs,by rw[upd_ne np];exact h1,h2,fun i b e=>?_⟩;have l:=h3 i b e;refine l.keep (ð hb fun _ z=>nomatch z) fun vs hv=>?_;have nb:b≠pb:=fun z=>by
  obtain⟨us,g1,g2⟩:=l;have lu:us.length=n+1:=g2.length.trans (Ý _ _);rw[z,hb]at g1;have g1:=HO.lst.inj (Option.some.inj g1);obtain⟨v,hv0⟩:∃v,us[0]?=some v:=⟨_,ā (by lia)⟩;obtain⟨r,_,c,rfl,_⟩:=Ê g2 hv0;rw[<- g1]at hv0;unfold ñ at hv0;rw[č]at hv0;cases q:(Đ mm)[0]? with
  | none=>rw[q]at hv0;cases hv0
  | some w=>rw[q]at hv0;cases hv0
 rw[upd_ne nb];exact hv
noncomputable def spUnit:Sp:=fun vs H Q _=>∃(m k:Nat),vs=[.int (m:Nat),.int (k:Nat)] /\ k<m /\ m<=30 /\ ∀p H',H p=none->Same H H'->LsF H' p (nR m fun j=>if j=k then 1 else 0)->Q (.ref p) H'
noncomputable def OfP (H:Hp)(v:V)(z:Zz):Prop:=∃a w pr,v = .ref a /\ H a=some (.tup [w,pr]) /\ WnV H w z.1 /\ FrV H pr z.2
theorem OfP.same {H H':Hp}{v:V}{z:Zz}(h:OfP H v z)(s:Same H H'):OfP H' v z:=by
 obtain⟨a,w,pr,e,h1,h2,h3⟩:=h;exact⟨a,w,pr,e,s _ _ h1,h2.same s,h3.same s⟩
theorem OfP.of {H:Hp}{v:V}{z:Zz}(h:OfP H v z):OfV H v z.1:=by
 obtain⟨a,w,pr,e,h1,h2,_⟩:=h;exact⟨a,w,pr,e,h1,h2⟩
noncomputable def wtQ (now:Int)(cs:List Cond)(zs:List Zz)(c j:Nat):Rat:=match cs[c]?,zs[j]? with | some k,some z=>balQ now k z.1 / totQ z.1 | _,_=>0
noncomputable def ttQ (zs:List Zz)(j:Nat):Rat:=match zs[j]? with | some z=>totQ z.1 | none=>0
noncomputable def prQ (zs:List Zz)(j:Nat):Rat:=match zs[j]? with | some z=>z.2 | none=>0
noncomputable def frM (now:Int)(cs:List Cond)(zs:List Zz)(wd:Rat):Nat->Nat->Rat:=rwM zs.length cs.length (wtQ now cs zs) (ttQ zs) wd
noncomputable def spFirst (K:Ā):Sp:=fun vs H Q _=>∃(ao aw al:Addr) (now:Int) (os ls:List V) (zs:List Zz) (cs:List Cond) (wv:V) (wd:Rat),vs=[.ref ao,.ref aw,.int now] /\ H ao=some (.lst os) /\ Paired (OfP H) os zs /\ (∀z∈zs,OkW now z.1) /\ zs.length<=8 /\ H aw=some (.tup [wv,.ref al]) /\ FrV H wv wd /\ H al=some (.lst ls) /\ Paired (CdV H) ls cs /\ cs.length<=8 /\
 ∀p H',H p=none->Same H H'->MatAt H' p (zs.length+cs.length+1) (2*zs.length+cs.length+2) (frM now cs zs wd)->Q (.ref p) H'
theorem yX2 (a b:Nat)(f g:Nat->Rat):nR a f++nR b g=nR (a+b) (fun j=>if j<a then f j else g (j - a)):=by
 unfold nR;refine List.ext_getElem? fun i=>?_
 by_cases h:i<a
 ·rw[Ũ (by simpa using h),č,č,Ģ h,Ģ (by lia)];simp[h]
 ·rw[ş (by simpa using Nat.le_of_not_lt h),ą,ē,č,č]
  by_cases h2:i<a+b
  ·rw[Ģ (by lia),Ģ h2];simp[h]
  ·rw[Ġ (by rw[ē];lia),Ġ (by rw[ē];lia)];rfl
theorem zC5 {H:Hp}{us ws:List V}{rs qs:List Rat}(h:Paired (FrV H) us rs)(g:Paired (FrV H) ws qs):Paired (FrV H) (us++ws) (rs++qs):=by
 induction h with
 | nil=>exact g
 | cons h t ih=>exact .cons h ih
theorem xI6 (m:Nat)(x:Rat):nR m (fun _=>x)=ď m x:=by
 unfold nR;rw[List.map_const',ē]
theorem zC4 {H:Hp}{v:V}{x:Rat}(h:FrV H v x)(m:Nat):Paired (FrV H) (ď m v) (nR m fun _=>x):=by
 rw[xI6]
 induction m with
 | zero=>exact .nil
 | succ m ih=>rw[ŝ,ŝ];exact .cons h ih
theorem zA6 {H:Hp}{us:List V}{m k:Nat}{f:Nat->Rat}{v:V}{x:Rat}(h:Paired (FrV H) us (nR m f))(hv:FrV H v x):Paired (FrV H) (us.set k v) (nR m fun j=>if j=k then x else f j):=by
 have hl:us.length=m:=h.length.trans (Ý m f);refine zI2 (by rw[List.length_set,Ý];exact hl) fun i y r hy hr=>?_;obtain⟨hi,rfl⟩:=Ÿ hr;rw[List.getElem?_set]at hy
 by_cases e:k=i
 ·rw[if_pos e,if_pos (by lia)]at hy;cases hy;show FrV H v (if i=k then x else f i);rw[if_pos e.symm];exact hv
 ·rw[if_neg e]at hy;obtain⟨r,hr2,fr⟩:=Ê h hy;obtain⟨_,rfl⟩:=Ÿ hr2;show FrV H y (if i=k then x else f i);rw[if_neg fun z=>e z.symm];exact fr
noncomputable def RowsV (H:Hp)(p:Addr)(N:Nat)(M:Nat->Nat->Rat)(i:Nat):Prop:=∃cs:List Addr,H p=some (.lst (cs.map V.ref)) /\ cs.length=i /\ ∀j q,cs[j]?=some q->q≠p /\ LsF H q (nR N (M j))
theorem RowsV.same {H H':Hp}{p:Addr}{N i:Nat}{M:Nat->Nat->Rat}(h:RowsV H p N M i)(s:Same H H'):RowsV H' p N M i:=by obtain⟨cs,h1,h2,h3⟩:=h;exact⟨cs,s _ _ h1,h2,fun j q e=>⟨(h3 j q e).1,(h3 j q e).2.same s⟩⟩
theorem RowsV.here {H:Hp}{p:Addr}{N i:Nat}{M:Nat->Nat->Rat}(h:RowsV H p N M i):∃xs,H p=some (.lst xs) /\ xs.length=i:=by obtain⟨cs,h1,h2,_⟩:=h;exact⟨_,h1,by rw[ą];exact h2⟩
theorem RowsV.mat {H:Hp}{p:Addr}{N i:Nat}{M:Nat->Nat->Rat}(h:RowsV H p N M i):MatAt H p i N M:=by obtain⟨cs,h1,h2,h3⟩:=h;exact⟨cs,h1,h2,fun j q e=>(h3 j q e).2⟩
theorem RowsV.new {H:Hp}{p:Addr}{N:Nat}{M:Nat->Nat->Rat}:RowsV (upd H p (.lst [])) p N M 0:=⟨[],Ã,rfl,fun j q e=>by simp at e⟩
theorem RowsV.snoc {H:Hp}{p q:Addr}{N i:Nat}{M:Nat->Nat->Rat}{xs:List V}(h:RowsV H p N M i)(hx:H p=some (.lst xs))(nq:q≠p)(hq:LsF H q (nR N (M i))):RowsV (upd H p (.lst (xs++[.ref q]))) p N M (i+1):=by
 obtain⟨cs,h1,h2,h3⟩:=h;rw[hx]at h1;cases h1;have tu:=ð (o:=.lst (cs.map V.ref++[.ref q])) hx (fun _ z=>nomatch z);refine⟨cs++[q],by rw[Ã,ė];rfl,by rw[Ĕ,h2];rfl,fun j q' e=>?_⟩;rcases zU8 e with e | ⟨e1,rfl⟩
 ·obtain⟨n1,l1⟩:=h3 j q' e;exact⟨n1,l1.keep tu fun vs h=>by rw[upd_ne n1];exact h⟩
 ·rw[e1,h2];exact⟨nq,hq.keep tu fun vs h=>by rw[upd_ne nq];exact h⟩
theorem yK1 {a b N:Nat}{f g M:Nat->Rat}{x:Rat}(e:N=a+b+1)(h1:∀j,j<a->f j=M j)(h2:∀j,j<b->g j=M (a+j))(h3:x=M (a+b)):(nR a f++nR b g)++[x]=nR N M:=by
 subst e;rw[Ŵ,<- h3,yX2]
 congr 1
 refine Κ fun j hj=>?_
 by_cases e:j<a
 ·rw[if_pos e,h1 j e]
 ·rw[if_neg e,h2 (j - a) (by lia),show a+(j - a)=j by lia]
theorem yR8 {w k i j:Nat}{Wt:Nat->Nat->Rat}{T:Nat->Rat}{wd:Rat}(h:j<w+k+1):rwM w k Wt T wd i (w+j)=if j=i then 1 else 0:=by
 unfold rwM;rw[if_neg (by lia),if_pos (by lia)]
 by_cases e:j=i
 ·rw[if_pos e,if_pos (by lia)]
 ·rw[if_neg e,if_neg (by lia)]
theorem xA6 {w k i:Nat}{Wt:Nat->Nat->Rat}{T:Nat->Rat}{wd:Rat}:rwM w k Wt T wd i (w+(w+k+1))=rwB w k T wd i:=by
 unfold rwM;rw[if_neg (by lia),if_neg (by lia)]
theorem yZ0 {now:Int}{cs:List Cond}{zs:List Zz}{i:Nat}{c:Cond}(h:cs[i]?=some c):(zs.map (·.1)).map (fun W=>balQ now c W / totQ W)=nR zs.length (wtQ now cs zs i):=by
 unfold nR;refine List.ext_getElem? fun j=>?_;rw[č,č,č]
 by_cases e:j<zs.length
 ·rw[Ģ e];unfold wtQ;simp only[Option.map_some];rw[h,ā e];rfl
 ·rw[Ġ (by lia),Ġ (by rw[ē];lia)];rfl
theorem zI3 {α β:Type}{F:α->β->Prop}:∀{xs:List α} {ys:List β} {i:Nat} {y:β},Paired F xs ys->ys[i]?=some y->∃x,xs[i]?=some x /\ F x y
 | _,_,i,_,.nil,h=>by simp at h
 | _,_,0,_,.cons h _,e=>by simp at e;exact⟨_,rfl,e▸h⟩
 | _,_,i+1,_,.cons _ t,e=>by
  obtain⟨x,hx,f⟩:=zI3 (i:=i) t (by simpa using e);exact⟨x,by simpa using hx,f⟩
noncomputable def KpP (H H':Hp)(p:Addr):Prop:=∀b ob,H b=some ob->b≠p->H' b=some ob
theorem KpP.same {H H1 H2:Hp}{p:Addr}(h:KpP H H1 p)(s:Same H1 H2):KpP H H2 p:=fun b ob e n=>s _ _ (h b ob e n)
theorem KpP.upd {H H1:Hp}{p:Addr}{o:HO}(h:KpP H H1 p):KpP H (upd H1 p o) p:=fun b ob e n=>by rw[upd_ne n];exact h b ob e n
theorem LsF.new {H:Hp}{q:Addr}{us:List V}{rs:List Rat}(hq:H q=none)(h:Paired (FrV H) us rs):LsF (upd H q (.lst us)) q rs:=⟨us,Ã,Paired.mapP h fun _ _ f=>f.same (Same.upd hq)⟩
theorem zY2 (xs:List V){k:Nat}(h:k<=xs.length):cutV xs none (some (k:Int))=xs.take k:=by
 have e1:HT.sIx xs.length xs.length (some (k:Int))=min k xs.length:=HT.sIx_nat _ _ k;have e2:HT.sIx xs.length 0 none=0:=rfl;unfold cutV;rw[e1,e2,Ŝ h,List.drop_zero,Nat.sub_zero]
theorem yF8 (xs:List V){a b:Nat}(ha:a<=b)(h:b<=xs.length):cutV xs (some (a:Int)) (some (b:Int))=(xs.drop a).take (b - a):=by
 have e1:HT.sIx xs.length xs.length (some (b:Int))=min b xs.length:=HT.sIx_nat _ _ b;have e2:HT.sIx xs.length 0 (some (a:Int))=min a xs.length:=HT.sIx_nat _ _ a;unfold cutV;rw[e1,e2,Ŝ h,Ŝ (ĉ ha h)]
theorem zK0 {H:Hp}{us:List V}{m a k:Nat}{f:Nat->Rat}(h:Paired (FrV H) us (nR m f))(hk:a+k<=m):Paired (FrV H) ((us.drop a).take k) (nR k fun j=>f (a+j)):=by
 have hl:us.length=m:=h.length.trans (Ý m f);refine zI2 (by rw[Ĥ,List.length_drop,Ý,hl];lia) fun i y r hy hr=>?_;obtain⟨hi,rfl⟩:=Ÿ hr;rw[List.getElem?_take_of_lt hi,List.getElem?_drop]at hy;obtain⟨r,hr2,fr⟩:=Ê h hy;obtain⟨_,rfl⟩:=Ÿ hr2;exact fr
noncomputable def spLack:Sp:=fun vs H Q _=>∃(a:Addr) (n:Nat) (f:Nat->Rat),vs=[.ref a] /\ LsF H a (nR (n+2) f) /\ n+2<=30 /\ (∀j,j<n+2->Bd 8000 (f j)) /\ ∀p H',H p=none->Same H H'->LsF H' p (nR (n+2) fun j=>if j=n then 0 else 0 - f j)->Q (.ref p) H'
noncomputable def spPc:Sp:=fun vs H Q _=>∃(ao ar ab:Addr) (os:List V) (zs:List Zz) (mm n:Nat) (M:Nat->Nat->Rat) (B:Nat->Nat),vs=[.ref ao,.ref ar,.ref ab] /\ H ao=some (.lst os) /\ Paired (OfP H) os zs /\ MatAt H ar mm (n+1) M /\ H ab=some (.lst (ñ mm B)) /\ 1<=mm /\ mm<=30 /\ zs.length<=n+1 /\ n+1<=30 /\
 (∀i,i<=mm->∀j,j<n+1->Bd 8000 (ú (prQ zs) B M i j)) /\ (∀i,i<mm->∀j,j<n+1->Bd 8000 (M i j) /\ Bd 8000 (M i j*prQ zs (B i))) /\ (∀j,Bd 8000 (prQ zs j)) /\
 ∀p H',H p=none->Same H H'->LsF H' p (nR (n+1) fun j=>ú (prQ zs) B M mm j)->Q (.ref p) H'
noncomputable def spWo:Sp:=fun vs H Q _=>∃(a ab:Addr) (mm n lack:Nat) (M:Nat->Nat->Rat) (B:Nat->Nat),vs=[.ref a,.ref ab,.int (lack:Nat)] /\ MatAt H a (mm+1) (n+1) M /\ H ab=some (.lst (ñ (mm+1) B)) /\ lack<n /\ mm+1<=30 /\ n+1<=30 /\ (∀l,l<mm+1->B l=lack->∃j,j<lack /\ M l j≠0) /\ (∀i,i<mm+1->∀j,j<n+1->Bd 2600 (M i j)) /\
 (∀p pb t H',Same H H'->MatAt H' p (mm+1) (n+1) M->H' pb=some (.lst (ñ (mm+1) B))->H' t=some (.tup [.ref p,.ref pb])->(∀l,l<mm+1->B l≠lack)->Q (.ref t) H') /\
 ∀p pb t H' l col,Same H H'->l<mm+1->B l=lack->col<lack->M l col≠0->MatAt H' p (mm+1) (n+1) (pivM M l col)->H' pb=some (.lst (ñ (mm+1) fun i=>if i=l then col else B i))->H' t=some (.tup [.ref p,.ref pb])->Q (.ref t) H'
noncomputable def yJ2:Sp:=fun vs H Q _=>∃(a:Addr) (w k n:Nat) (f:Nat->Rat) (lv:V) (lc:Rat),vs=[.ref a,.int (w:Nat),.int (k:Nat),lv] /\ LsF H a (nR n f) /\ FrV H lv lc /\ 2*w+k<n /\ n<=30 /\ Bd 8000 lc /\ Bd 8000 (f (2*w+k)) /\
 ∀t u pv pw H',Same H H'->H' t=some (.tup [u,.ref pv,.ref pw])->FrV H' u (lc - f (2*w+k))->LsF H' pv (nR k fun j=>f (2*w+j))->LsF H' pw (nR w fun j=>f (w+j))->Q (.ref t) H'
noncomputable def spAms:Sp:=fun vs H Q _=>∃(a ab:Addr) (mm n r w:Nat) (M:Nat->Nat->Rat) (B:Nat->Nat),vs=[.ref a,.ref ab,.int (w:Nat)] /\ MatAt H a r (n+1) M /\ mm<=r /\ H ab=some (.lst (ñ mm B)) /\ r<=30 /\ n+1<=30 /\ w<=30 /\
 ∀p H' x,H p=none->Same H H'->LsF H' p (nR w x)->(∀j,j<w->(∃l,l<mm /\ B l=j /\ x j=M l n /\ ∀i,i<mm->B i=j->i<=l) \/ (x j=0 /\ ∀l,l<mm->B l≠j))->Q (.ref p) H'
theorem Runs.frm {many m n q:Nat}{F:Tb}{M M':Nat->Nat->Rat}{B B':Nat->Nat}{f:Nat->Rat}(h:Runs many m n q M M' B B')(fr:Frm m n F (tbM m n M B))(f0:f n=0)(c:∀j,j<n+1->M m j=ú f B M m j)(feas:∀i,i<m->0<=M i n) :
  Frm m n F (tbM m n M' B') /\ (∀j,j<n+1->M' m j=ú f B' M' m j) /\ (∀i,i<m->0<=M' i n) /\ ∀v,many<=v->(∀i,i<m->B i≠v)->∀i,i<m->B' i≠v:=by
 obtain⟨S,s,r,run,e0,eq⟩:=h;have zc:∀M B,redb (tbM m n M B) m f 0=ú f B M m n:=fun M B=>by
  unfold redb ú;rw[f0];rfl
 have h0:∀j,j<n->(S 0).c j=red (S 0) m f j:=fun j hj=>by rw[e0];exact c j (ĺ hj)
 have hz:(S 0).z=redb (S 0) m f 0:=by rw[e0,zc];exact c n (ķ n)
 have fr0:Frm m n F (S 0):=by rw[e0];exact fr
 have can:(S 0).Can m n:=fr0.can0 (f:=f) h0;have k1:=xO3 run fr0 can (Ć q);have k2:=xG3 run h0 hz q (Ć q);have k3:=zQ5 run (fun i hi=>by rw[e0];exact feas i hi) q (Ć q);rw[eq]at k1 k2 k3;refine⟨k1,fun j hj=>?_,k3,fun v hv hB=>?_⟩
 ·rcases Ę (ĕ hj) with z | z
  ·exact k2.1 j z
  ·rw[z,<- zc];exact k2.2
 ·have:=xI4 run hv (fun i hi=>by rw[e0];exact hB i hi) q (Ć q);rw[eq]at this;exact this
theorem yY5 {m n:Nat}{F:Tb}{M:Nat->Nat->Rat}{B:Nat->Nat}{f:Nat->Rat}(fr:Frm m n F (tbM m n M B))(c:∀j,j<n+1->M m j=ú f B M m j):(tbM m n M B).Can m n:=fr.can0 (f:=f) fun j hj=>c j (ĺ hj)
theorem yX5 {m n:Nat}{M:Nat->Nat->Rat}{B:Nat->Nat}{f:Nat->Rat}(f0:f n=0)(fn:∀j,0<=f j)(c:∀j,j<n+1->M m j=ú f B M m j)(y:Nat->Rat)(hy:∀j,j<n->0<=y j)(sol:(tbM m n M B).Sol m n y 1):M m n<=sN n (fun j=>M m j*y j):=by
 have e:=zL9 (f:=f) (d:=0) sol;have z:redb (tbM m n M B) m f 0=M m n:=by rw[c n (ķ n)];unfold redb ú;rw[f0];rfl
 have e2:sN n (fun j=>red (tbM m n M B) m f j*y j)=sN n (fun j=>M m j*y j):=Ô fun j hj=>by rw[c j (ĺ hj)];rfl
 have e3:0<=sN n (fun j=>f j*y j):=yG8 fun j hj=>ĩ (fn j) (hy j hj);rw[z,e2]at e
 grind
theorem Frm.congr {m n:Nat}{F:Tb}{M M':Nat->Nat->Rat}{B:Nat->Nat}(h:Frm m n F (tbM m n M B))(e:∀i,i<m->M' i=M i):Frm m n F (tbM m n M' B):=by
 refine⟨fun i l hi hl=>?_,h.lt,fun y w=>(h.sol y w).trans ?_⟩
 ·show M' i (B l)=_;rw[e i hi];exact h.can i l hi hl
 ·constructor
  ·intro g i hi;show sN n (fun j=>M' i j*y j)=M' i n*w;rw[e i hi];exact g i hi
  ·intro g i hi;have:sN n (fun j=>M' i j*y j)=M' i n*w:=g i hi;rw[e i hi]at this;exact this
structure BlS (now:Int)(cs:List Cond)(zs:List Zz)(wd:Rat)(D N:Nat):Prop where
 D0:0<D
 DN:D<=N
 NW:2^130<=N
 N3:N<=2^300
 wt:∀c j,c<cs.length->j<zs.length->Cd D N (wtQ now cs zs c j)
 tt:∀j,j<zs.length->Cd 332640 (2^130) (ttQ zs j)
 wdc:Cd 332640 (2^130) wd
 wd0:0<=wd
 pr:∀j,Cd 6 144 (prQ zs j) /\ 0<=prQ zs j
 few:(zs.length+cs.length+1+1)*(144*(N*((zs.length+cs.length+1)*N)^(zs.length+cs.length+1)))<=2^2599
noncomputable def Fr0 (now:Int)(cs:List Cond)(zs:List Zz)(wd:Rat):Tb:=Frw zs.length cs.length (wtQ now cs zs) (ttQ zs) wd
section
variable {now:Int}{cs:List Cond}{zs:List Zz}{wd:Rat}{D N:Nat}(b:BlS now cs zs wd D N)
include b
theorem BlS.hA (i j:Nat)(hi:i<zs.length+cs.length+1)(hj:j<2*zs.length+cs.length+1):Cd D N ((Fr0 now cs zs wd).t i j):=by
 show Cd D N (rwM zs.length cs.length (wtQ now cs zs) (ttQ zs) wd i j);have o:Cd D N 1:=(Cd.one D).mono b.DN;have z:Cd D N 0:=Cd.zero D N;unfold rwM rwA
 by_cases h1:j<zs.length
 ·rw[if_pos h1]
  by_cases h2:i<zs.length
  ·rw[if_pos h2];split
   ·exact o
   ·exact z
  ·rw[if_neg h2]
   by_cases h3:i<zs.length+cs.length
   ·rw[if_pos h3];have:=(b.wt (i - zs.length) j (by lia) h1).neg
    rwa [show -wtQ now cs zs (i - zs.length) j=0 - wtQ now cs zs (i - zs.length) j by grind]at this
   ·rw[if_neg h3];exact o
 ·rw[if_neg h1,if_pos hj];split
  ·exact o
  ·exact z
theorem BlS.hb (i:Nat)(hi:i<zs.length+cs.length+1):Cd 332640 (2^130) ((Fr0 now cs zs wd).b i):=by
 show Cd 332640 (2^130) (rwM zs.length cs.length (wtQ now cs zs) (ttQ zs) wd i (2*zs.length+cs.length+1));rw[rw_b];unfold rwB
 by_cases h2:i<zs.length
 ·rw[if_pos h2];exact b.tt i h2
 ·rw[if_neg h2]
  by_cases h3:i<zs.length+cs.length
  ·rw[if_pos h3];exact Cd.zero _ _
  ·rw[if_neg h3];exact b.wdc
theorem BlS.col {M:Nat->Nat->Rat}{B:Nat->Nat}(h:Frm (zs.length+cs.length+1) (2*zs.length+cs.length+1) (Fr0 now cs zs wd) (tbM (zs.length+cs.length+1) (2*zs.length+cs.length+1) M B)){j:Nat}(hj:j<2*zs.length+cs.length+2) :
  ∃E',0<E' /\ E'<=N*((zs.length+cs.length+1)*N)^(zs.length+cs.length+1) /\ ∀i,i<zs.length+cs.length+1->Cd E' (N*((zs.length+cs.length+1)*N)^(zs.length+cs.length+1)) (M i j):=by
 obtain⟨u,u0,ul,c1,c2⟩:=h.cdN zV0 b.D0 b.DN b.hA
 by_cases e:j=2*zs.length+cs.length+1
 ·rw[e];exact⟨332640*u,ň (by decide) u0,Ě (ĉ (by decide) b.NW) ul,fun i hi=>(c2 b.hb i hi).mono (Ĭ _ b.NW)⟩
 ·exact⟨D*u,ň b.D0 u0,Ě b.DN ul,fun i hi=>c1 j (by lia) i hi⟩
theorem BlS.bdM {M:Nat->Nat->Rat}{B:Nat->Nat}(h:Frm (zs.length+cs.length+1) (2*zs.length+cs.length+1) (Fr0 now cs zs wd) (tbM (zs.length+cs.length+1) (2*zs.length+cs.length+1) M B)){i j:Nat}(hi:i<zs.length+cs.length+1)(hj:j<2*zs.length+cs.length+2):Bd 2600 (M i j):=by
 obtain⟨E',e0,ex,hc⟩:=b.col h hj;refine(hc i hi).bd (s:=2599) e0 ex (ĉ ?_ b.few);refine ĉ (Ş _ (show 0<144 by decide)) (Ş _ (by lia))
theorem BlS.bdP {M:Nat->Nat->Rat}{B:Nat->Nat}(h:Frm (zs.length+cs.length+1) (2*zs.length+cs.length+1) (Fr0 now cs zs wd) (tbM (zs.length+cs.length+1) (2*zs.length+cs.length+1) M B)){f:Nat->Rat}(hf:∀j,Cd 6 144 (f j)){i j:Nat}(hi:i<=zs.length+cs.length+1)(hj:j<2*zs.length+cs.length+2):Bd 2600 (ú f B M i j):=by
 obtain⟨E',e0,ex,hc⟩:=b.col h hj;have:=yL5 (B:=B) (m:=zs.length+cs.length+1) (by decide) hf e0 ex hc hi;refine this.bd (s:=2599) (ň (by decide) e0) ?_ b.few;refine ĉ (Ě (show 6<=144 by decide) ex) (Ş _ (by lia))
end
theorem zM2 (w k j:Nat):Cd 6 144 (ż w k j) /\ 0<=ż w k j:=by
 unfold ż
 split
 ·exact⟨(Cd.one 6).mono (by decide),by decide⟩
 ·exact⟨Cd.zero _ _,Ŏ⟩
noncomputable def Dual (now:Int)(cs:List Cond)(zs:List Zz)(wd:Rat)(f c:Nat->Rat):Prop:=∃(M:Nat->Nat->Rat) (B:Nat->Nat),Frm (zs.length+cs.length+1) (2*zs.length+cs.length+1) (Fr0 now cs zs wd) (tbM (zs.length+cs.length+1) (2*zs.length+cs.length+1) M B) /\ (∀j,j<2*zs.length+cs.length+2->c j=ú f B M (zs.length+cs.length+1) j) /\ ∀j,j<2*zs.length+cs.length->0<=c j
noncomputable def PapV (H:Hp)(w k:Nat)(v:V)(lc:Rat)(c:Nat->Rat):Prop:=∃t u pv pw,v = .ref t /\ H t=some (.tup [u,.ref pv,.ref pw]) /\ FrV H u (lc - c (2*w+k)) /\ LsF H pv (nR k fun j=>c (2*w+j)) /\ LsF H pw (nR w fun j=>c (w+j))
theorem PapV.same {H H':Hp}{w k:Nat}{v:V}{lc:Rat}{c:Nat->Rat}(h:PapV H w k v lc c)(s:Same H H'):PapV H' w k v lc c:=by obtain⟨t,u,pv,pw,e,h1,h2,h3,h4⟩:=h;exact⟨t,u,pv,pw,e,s _ _ h1,h2.same s,h3.same s,h4.same s⟩
noncomputable abbrev FsZ (now:Int)(cs:List Cond)(zs:List Zz)(wd:Rat)(y:Nat->Rat):Prop:=Fsb zs.length cs.length (wtQ now cs zs) (ttQ zs) wd y
noncomputable def spBl:Sp:=fun vs H Q _=>∃(ao aw al:Addr) (now:Int) (os ls:List V) (zs:List Zz) (cs:List Cond) (wv:V) (wd:Rat) (D N:Nat),vs=[.ref ao,.ref aw,.int now] /\ H ao=some (.lst os) /\ Paired (OfP H) os zs /\ (∀z∈zs,OkW now z.1) /\ 1<=zs.length /\ zs.length<=8 /\ H aw=some (.tup [wv,.ref al]) /\ FrV H wv wd /\ H al=some (.lst ls) /\ Paired (CdV H) ls cs /\ cs.length<=8 /\ BlS now cs zs wd D N /\
 (∀t pt c H',Same H H'->H' t=some (.tup [.str "none",pt])->PapV H' zs.length cs.length pt 1 c->Dual now cs zs wd (ż zs.length cs.length) c->(∀y,¬FsZ now cs zs wd y)->c (2*zs.length+cs.length+1)<0->Q (.ref t) H') /\
 ∀t pa pt c x H',Same H H'->H' t=some (.tup [.str "blend",.ref pa,pt])->LsF H' pa (nR zs.length x)->PapV H' zs.length cs.length pt 0 c->Dual now cs zs wd (prQ zs) c->FsZ now cs zs wd x->(∀y,FsZ now cs zs wd y->sN zs.length (fun j=>prQ zs j*x j)<=sN zs.length (fun j=>prQ zs j*y j)) ->
  (∃E',0<E' /\ E'<=N*((zs.length+cs.length+1)*N)^(zs.length+cs.length+1) /\ ∀j,j<zs.length->Cd E' (N*((zs.length+cs.length+1)*N)^(zs.length+cs.length+1)) (x j))->sN zs.length (fun j=>prQ zs j*x j) = -c (2*zs.length+cs.length+1)->Q (.ref t) H'
theorem zZ5 {now:Int}{W:List Ent}(h:OkW now W):0<totQ W:=by
 have e:=ν h.all;have z:=Θ h;have z2:(0:Rat)<((totZ W:Int):Rat):=by exact_mod_cast z
 rw[e]at z2
 grind
theorem xF9 {now:Int}{cs:List Cond}{zs:List Zz}{wd:Rat}(ok:∀z∈zs,OkW now z.1)(w0:0<=wd)(i:Nat):0<=rwB zs.length cs.length (ttQ zs) wd i:=by
 unfold rwB
 by_cases h:i<zs.length
 ·rw[if_pos h];unfold ttQ;rw[ā h];exact Ŗ (zZ5 (ok _ (ĥ h)))
 ·rw[if_neg h];split
  ·exact Ŏ
  ·exact w0
theorem yR9 {w k:Nat}:((Đ (((2*w+k:Nat):Int)+1 - ((w:Nat):Int)).toNat).map fun (i:Nat)=>V.int (((w:Nat):Int)+(i:Int)))=ñ (w+k+1) (fun i=>w+i):=by
 unfold ñ;rw[show (((2*w+k:Nat):Int)+1 - ((w:Nat):Int)).toNat=w+k+1 by lia];exact List.map_congr_left fun i _=>by show V.int _=V.int _;congr 1
noncomputable def lkM (now:Int)(cs:List Cond)(zs:List Zz)(wd:Rat)(i:Nat):Nat->Rat:=if i<zs.length+cs.length+1 then frM now cs zs wd i else fun j=>if j=2*zs.length+cs.length then 0 else 0 - frM now cs zs wd (zs.length+cs.length) j
theorem xJ0 {now:Int}{cs:List Cond}{zs:List Zz}{wd:Rat}:Frm (zs.length+cs.length+1) (2*zs.length+cs.length+1) (Fr0 now cs zs wd) (tbM (zs.length+cs.length+1) (2*zs.length+cs.length+1) (lkM now cs zs wd) fun i=>zs.length+i) :=
 Frm.congr (M:=frM now cs zs wd) (B:=fun i=>zs.length+i) zV0 fun i hi=>if_pos hi
theorem lk_c {now:Int}{cs:List Cond}{zs:List Zz}{wd:Rat}{j:Nat}(hj:j<2*zs.length+cs.length+2):lkM now cs zs wd (zs.length+cs.length+1) j=ú (ż zs.length cs.length) (fun i=>zs.length+i) (lkM now cs zs wd) (zs.length+cs.length+1) j:=by
 unfold ú;rw[Ź (k:=zs.length+cs.length) (by lia) fun l hl ne=>by unfold ż;rw[if_neg (by lia),Ğ]];have r1:lkM now cs zs wd (zs.length+cs.length+1) j=if j=2*zs.length+cs.length then 0 else 0 - frM now cs zs wd (zs.length+cs.length) j:=by unfold lkM;rw[if_neg (ĸ _)]
 have r2:lkM now cs zs wd (zs.length+cs.length) j=frM now cs zs wd (zs.length+cs.length) j:=by unfold lkM;rw[if_pos (ķ _)]
 rw[r1,r2];unfold ż;rw[if_pos (show zs.length+(zs.length+cs.length)=2*zs.length+cs.length by lia),Ť]
 by_cases e:j=2*zs.length+cs.length
 ·rw[if_pos e,if_pos e,e];unfold frM;rw[show 2*zs.length+cs.length=zs.length+(zs.length+cs.length) by lia,yR8 (by lia),if_pos rfl];grind
 ·rw[if_neg e,if_neg e]
theorem yV5 {m n w:Nat}{F:Tb}{M:Nat->Nat->Rat}{B:Nat->Nat}{x:Nat->Rat}(h:Frm m n F (tbM m n M B))(hx:∀j,j<w->(∃l,l<m /\ B l=j /\ x j=M l n /\ ∀i,i<m->B i=j->i<=l) \/ (x j=0 /\ ∀l,l<m->B l≠j))(j:Nat)(hj:j<w):x j=bsol (tbM m n M B) m (tbM m n M B).b j:=by
 show x j=sN m (fun l=>if B l=j then M l n else 0);rcases hx j hj with⟨l,hl,e1,e2,_⟩ | ⟨e1,e2⟩
 ·rw[Ź (k:=l) hl fun i hi ne=>if_neg fun e:B i=j=>ne (h.inj hi hl (show B i=B l by rw[e,e1])),if_pos e1];exact e2
 ·rw[e1,Ů fun l hl=>if_neg (e2 l hl)]
theorem yO1 {w k:Nat}{Wt:Nat->Nat->Rat}{T:Nat->Rat}{wd:Rat}{x y:Nat->Rat}(e:∀j,j<w->x j=y j)(h:Fsb w k Wt T wd y):Fsb w k Wt T wd x :=
 ⟨fun j hj=>by rw[e j hj];exact h.low j hj,by rw[Ô e];exact h.sum,fun c hc=>by rw[Ô fun j hj=>by rw[e j hj]];exact h.wts c hc⟩
theorem yQ8 {w k:Nat}{Wt:Nat->Nat->Rat}{T:Nat->Rat}{wd:Rat}{M:Nat->Nat->Rat}{B:Nat->Nat}(h:Frm (w+k+1) (2*w+k+1) (Frw w k Wt T wd) (tbM (w+k+1) (2*w+k+1) M B)){p:Nat->Rat}(hp:∀j,w<=j->p j=0):sN w (fun j=>p j*bsol (tbM (w+k+1) (2*w+k+1) M B) (w+k+1) (tbM (w+k+1) (2*w+k+1) M B).b j) = -ú p B M (w+k+1) (2*w+k+1):=by
 have e:=Β (S:=tbM (w+k+1) (2*w+k+1) M B) (m:=w+k+1) h.lt (tbM (w+k+1) (2*w+k+1) M B).b p;rw[show 2*w+k+1=w+(w+k+1) by lia,yE3,Ů (n:=w+k+1) fun j _=>by rw[hp _ (by lia),Ğ]]at e;rw[show 2*w+k+1=w+(w+k+1) by lia];unfold ú;rw[hp _ (by lia)];have e:sN w (fun j=>p j*bsol (tbM (w+k+1) (w+(w+k+1)) M B) (w+k+1) (tbM (w+k+1) (w+(w+k+1)) M B).b j)+0=sN (w+k+1) (fun l=>p (B l)*M l (w+(w+k+1))):=e;rw[<- e]
 grind
theorem MatAt.cat {H:Hp}{a q p:Addr}{r N:Nat}{M:Nat->Nat->Rat}{f:Nat->Rat}{xs:List V}(hp:H p=none)(h:MatAt H a r N M)(hx:H a=some (.lst xs))(hq:LsF H q (nR N f)):MatAt (upd H p (.lst (xs++[.ref q]))) p (r+1) N (fun i=>if i<r then M i else f):=by
 obtain⟨bs,h1,h2,h3⟩:=h;rw[hx]at h1;cases h1;have s:=Same.upd (o:=.lst (bs.map V.ref++[.ref q])) hp;refine⟨bs++[q],by rw[Ã,ė];rfl,by rw[Ĕ,h2];rfl,fun i b e=>?_⟩;rcases zU8 e with e | ⟨e1,rfl⟩
 ·have:i<r:=by rw[<- h2];exact(Ą.mp e).1
  show LsF _ b (nR N (if i<r then M i else f));rw[if_pos this];exact(h3 i b e).same s
 ·show LsF _ _ (nR N (if i<r then M i else f));rw[e1,h2,if_neg (ĸ r)];exact hq.same s
theorem MatAt.take {H:Hp}{a p:Addr}{r N k:Nat}{M:Nat->Nat->Rat}{xs:List V}(hp:H p=none)(h:MatAt H a r N M)(hx:H a=some (.lst xs))(hk:k<=r):MatAt (upd H p (.lst (xs.take k))) p k N M:=by
 obtain⟨bs,h1,h2,h3⟩:=h;rw[hx]at h1;cases h1;refine⟨bs.take k,by rw[Ã,Ţ],by rw[Ĥ];lia,fun i b e=>?_⟩;have hi:i<k:=by have:=(Ą.mp e).1;rw[Ĥ]at this;lia
 rw[List.getElem?_take_of_lt hi]at e;exact(h3 i b e).same (Same.upd hp)
theorem MatAt.row {H:Hp}{a:Addr}{r N:Nat}{M:Nat->Nat->Rat}(h:MatAt H a r N M):∃bs:List Addr,H a=some (.lst (bs.map V.ref)) /\ bs.length=r /\ ∀i,i<r->∃b,bs[i]?=some b /\ LsF H b (nR N (M i)):=by
 obtain⟨bs,h1,h2,h3⟩:=h;refine⟨bs,h1,h2,fun i hi=>?_⟩;obtain⟨b,hb⟩:∃b,bs[i]?=some b:=⟨_,ā (by lia)⟩;exact⟨b,hb,h3 i b hb⟩
noncomputable def OkR (r:Rat):Prop:=r.den<=20 /\ r.num.natAbs<=60
theorem okR {t b:Int}(b0:0<b)(b1:b<=20)(ht:t.natAbs<=60):OkR (Ċ t b):=by
 constructor
 ·have h:=Nat.le_of_dvd (by lia) (yP3 (t:=t) (b:=b) (by lia));lia
 ·have h:=zX5 t b (by lia);lia
noncomputable def spCond2:Sp:=fun vs H Q _=>∃(n now:Int) (a:Addr) (zs:List Str),vs=[.int n,.ref a,.int now] /\ H a=some (.lst (zs.map V.str)) /\ zs.length=3 /\ ∀v H' c,Same H H'->RepC H' c v->Bd 200 c.rat->OkR c.rat->Q v H'
noncomputable def spLab2 (K:Ā):Sp:=fun vs H Q _=>∃(a:Addr) (ns:List Int) (at' ms:Int) (an:Addr) (zs:List Str) (now:Int),vs=[.ref a,.int at',.int ms,.ref an,.int now] /\ SqL K H a (ns.map V.int) /\ 0<=at' /\ at'<=100 /\ 0<=ms /\ ms<=5 /\ H an=some (.lst (zs.map V.str)) /\ zs.length=3 /\ ∀p H' ls cs,H p=none->Same H H'->H' p=some (.lst ls)->Paired (CdV H') ls cs->(cs.length:Int)<=ms->(∀c∈cs,OkR c.rat)->Q (.ref p) H'
noncomputable def PrOk (r:Rat):Prop:=0<=r /\ Cd 6 144 r
theorem prOk {a b:Int}(ha:0<=a /\ a<25)(b0:1<=b)(b3:b<=3):PrOk (Ċ a b):=by
 have e:∀d:Int,b*d=6->Ċ a b*((6:Nat):Rat)=((a*d:Int):Rat):=fun d h=>by
  have hb:((b:Int):Rat)≠0:=by
   have:b≠0:=by lia
   exact_mod_cast this
  have h6:((6:Nat):Rat)=((b:Int):Rat)*((d:Int):Rat):=by rw[<- Ē,h];rfl
  rw[Ħ,Ē,h6]
  grind
 have nn:0<=Ċ a b:=by
  rw[Ħ,ę];have h1:(0:Rat)<=((a:Int):Rat):=by exact_mod_cast ha.1
  have h2:(0:Rat)<((b:Int):Rat):=by
   have:0<b:=by lia
   exact_mod_cast this
  exact ĩ h1 (Ŗ (Rat.inv_pos.mpr h2))
 have:b=1 \/ b=2 \/ b=3:=by lia
 rcases this with rfl | rfl | rfl
 ·exact⟨nn,a*6,e 6 rfl,by lia⟩
 ·exact⟨nn,a*3,e 3 rfl,by lia⟩
 ·exact⟨nn,a*2,e 2 rfl,by lia⟩
noncomputable def spOff4 (K:Ā):Sp:=fun vs H Q _=>∃(a:Addr) (ns:List Int) (at':Int) (an:Addr) (zs:List Str) (now:Int),vs=[.ref a,.int at',.ref an,.int now] /\ SqL K H a (ns.map V.int) /\ 0<=at' /\ at'<=100 /\ H an=some (.lst (zs.map V.str)) /\ zs.length=3 /\ (0<=now /\ now<20001) /\ ∀p H' os zz,H p=none->Same H H'->H' p=some (.lst os)->Paired (OfP H') os zz->(∀z∈zz,OkW now z.1 /\ PrOk z.2)->1<=zz.length->zz.length<=4->Q (.ref p) H'
noncomputable def unQ (zs:List Zz):Int:=(zs.map fun z=>totZ z.1).sum
theorem yI7 {now:Int}:∀{zs:List Zz},(∀z∈zs,OkW now z.1)->0<=unQ zs /\ (unQ zs).natAbs<=zs.length*2^122
 | [],_=>⟨by decide,by decide⟩
 | z::zs,h=>by
  have ih:=yI7 (zs:=zs) fun z hz=>h z (ć _ hz);have h1:=Θ (h z Ĉ);have h2:=Λ (h z Ĉ);have e:unQ (z::zs)=totZ z.1+unQ zs:=by unfold unQ;rw[ľ,List.sum_cons]
  rw[e,ī,Nat.add_mul];lia
theorem yZ2 {now:Int}{zs:List Zz}(h:∀z∈zs,OkW now z.1)(ne:1<=zs.length):0<unQ zs:=by
 cases zs with
 | nil=>simp at ne
 | cons z zs =>
  have h1:=Θ (h z Ĉ);have h2:=yI7 (zs:=zs) fun z hz=>h z (ć _ hz);have e:unQ (z::zs)=totZ z.1+unQ zs:=by unfold unQ;rw[ľ,List.sum_cons]
  lia
noncomputable def spWanted:Sp:=fun vs H Q _=>∃(ao:Addr) (os:List V) (zs:List Zz) (now c:Int),vs=[.ref ao,.int c] /\ H ao=some (.lst os) /\ Paired (OfP H) os zs /\ (∀z∈zs,OkW now z.1) /\ 1<=zs.length /\ zs.length<=4 /\ ∀v H' wd,Same H H'->FrV H' v wd->0<wd->Cd 332640 (2^130) wd->Q v H'
noncomputable def spLCost (K:Ā):Sp:=fun vs H Q _=>∃(ao aa:Addr) (os:List V) (zs:List Zz) (x:Nat->Rat),vs=[.ref ao,.ref aa] /\ H ao=some (.lst os) /\ Paired (OfP H) os zs /\ LsF H aa (nR zs.length x) /\ zs.length<=4 /\ (∀z∈zs,PrOk z.2) /\ (∀j,j<zs.length->Bd 2700 (x j)) /\ (∀k,k<=zs.length->Bd 4000 (sN k fun j=>prQ zs j*x j)) /\
 ∀v H',Same H H'->FrV H' v (sN zs.length fun j=>prQ zs j*x j)->Q v H'
theorem PrOk.bd {r:Rat}(h:PrOk r):Bd 9 r:=h.2.bd (s:=8) (by decide) (by decide) (by decide)
theorem yW8 (r q:Rat):quI (r.num*q.num,(r.den:Int)*(q.den:Int))=q*r:=by
 have e1:=Χ r;have e2:=Χ q;have n1:=χ r.den_pos;have n2:=χ q.den_pos;show Ċ (r.num*q.num) ((r.den:Int)*(q.den:Int))=_;rw[Ħ,Ē,Ē,Ĝ,Ĝ,<- e1,<- e2]
 grind
noncomputable def cpI (zs:List Zz)(x:Nat->Rat)(j:Nat):I2:=((x j).num*(prQ zs j).num,((x j).den:Int)*((prQ zs j).den:Int))
theorem yY3 (zs:List Zz)(x:Nat->Rat)(k:Nat):sumL ((Đ k).map (cpI zs x)) quI=sN k (fun j=>prQ zs j*x j):=by
 rw[zH9];show sN k (fun j=>quI (cpI zs x j))=_;exact Ô fun j _=>yW8 _ _
theorem zQ3 {zs:List Zz}{j:Nat}{z:Zz}(h:zs[j]?=some z):prQ zs j=z.2:=by unfold prQ;rw[h]
theorem zK9 {zs:List Zz}{j:Nat}{z:Zz}(h:zs[j]?=some z):ttQ zs j=totQ z.1:=by unfold ttQ;rw[h]
noncomputable def kpI (now:Int)(cc:Cond)(zs:List Zz)(x:Nat->Rat)(j:Nat):I2:=match zs[j]? with | some z=>((x j).num*wghZ now cc z.1,((x j).den:Int)*totZ z.1) | none=>(0,1)
noncomputable def spKept2 (K:Ā):Sp:=fun vs H Q _=>∃(ao al aa:Addr) (now:Int) (os ls:List V) (zs:List Zz) (cs:List Cond) (x:Nat->Rat),vs=[.ref ao,.ref al,.int now,.ref aa] /\ H ao=some (.lst os) /\ Paired (OfP H) os zs /\ (∀z∈zs,OkW now z.1) /\ zs.length<=8 /\ H al=some (.lst ls) /\ Paired (CdV H) ls cs /\ cs.length<=8 /\ LsF H aa (nR zs.length x) /\ (∀j,j<zs.length->Bd 2700 (x j)) /\ (∀cc∈cs,∀k,k<=zs.length->Bd 4000 (sumL ((Đ k).map (kpI now cc zs x)) quI)) /\
 ((∀c,c<cs.length->0<=sN zs.length (fun j=>wtQ now cs zs c j*x j))->∀H',Same H H'->Q (.bl true) H') /\ ((¬∀c,c<cs.length->0<=sN zs.length (fun j=>wtQ now cs zs c j*x j))->∀H',Same H H'->Q (.bl false) H')
noncomputable def spIsB2 (K:Ā):Sp:=fun vs H Q _=>∃(ao aw al aa:Addr) (now:Int) (os ls:List V) (zs:List Zz) (cs:List Cond) (wv:V) (wd:Rat) (x:Nat->Rat),vs=[.ref ao,.ref aw,.int now,.ref aa] /\ H ao=some (.lst os) /\ Paired (OfP H) os zs /\ (∀z∈zs,OkW now z.1) /\ zs.length<=8 /\ H aw=some (.tup [wv,.ref al]) /\ FrV H wv wd /\ H al=some (.lst ls) /\ Paired (CdV H) ls cs /\ cs.length<=8 /\ LsF H aa (nR zs.length x) /\ (∀j,j<zs.length->Bd 2700 (x j)) /\ (∀k,k<=zs.length->Bd 4000 (sN k x)) /\ (∀cc∈cs,∀k,k<=zs.length->Bd 4000 (sumL ((Đ k).map (kpI now cc zs x)) quI)) /\
 (FsZ now cs zs wd x->∀H',Same H H'->Q (.bl true) H') /\ (¬FsZ now cs zs wd x->∀H',Same H H'->Q (.bl false) H')
theorem tyT {H:Hp}{a:Addr}{us:List V}(h:H a=some (.tup us)):tyS H (.ref a)=some "tuple":=by
 show tyH (H a)=_;rw[h];rfl
theorem tyL {H:Hp}{a:Addr}{us:List V}(h:H a=some (.lst us)):tyS H (.ref a)=some "list":=by
 show tyH (H a)=_;rw[h];rfl
theorem yA5 (r:Rat):quI (r.num,(r.den:Int))=r:=ġ r
theorem yX6 {now:Int}{W:List Ent}(h:OkW now W)(l:Rat):(totZ W*(l.den:Int)<27720*l.num)↔totQ W<l:=by
 have e:=ν h.all;have e1:=Χ l;have d:(0:Rat)<(l.den:Rat):=by exact_mod_cast l.den_pos
 have e3:((27720:Int):Rat)=27720:=rfl
 constructor
 ·intro g;have g2:((totZ W*(l.den:Int):Int):Rat)<((27720*l.num:Int):Rat):=by exact_mod_cast g
  rw[Ē,Ē,Ĝ,e,<- e1,e3]at g2;refine Rat.not_le.mp fun q=>?_;have q2:=œ q (Ŗ d)
  grind
 ·intro g;have q2:=Ĺ g d;have g2:((totZ W*(l.den:Int):Int):Rat)<((27720*l.num:Int):Rat):=by
   rw[Ē,Ē,Ĝ,e,<- e1,e3];grind
  exact_mod_cast g2
theorem frI {x:Nat->Rat}{H:Hp}{vs:List V}{m:Nat}(h:Paired (FrV H) vs (nR m x)):Paired (PrI H) vs ((Đ m).map fun j=>((x j).num,((x j).den:Int))):=by
 refine zI2 (by rw[h.length,Ý,ą,ē]) fun i v p hv hp=>?_;obtain⟨r,hr,c,e,hc⟩:=Ê h hv;obtain⟨hi,rfl⟩:=Ÿ hr;rw[č,Ģ hi]at hp;cases hp;exact⟨c,e,hc⟩
theorem yY0 (x:Nat->Rat)(k:Nat):sumL ((Đ k).map fun j=>((x j).num,((x j).den:Int))) quI=sN k x:=by
 rw[zH9];show sN k (fun j=>quI ((x j).num,((x j).den:Int)))=_;exact Ô fun j _=>yA5 _
theorem PrI.tup {H H':Hp}{v:V}{p:I2}(h:PrI H v p)(s:∀a xs,H a=some (.tup xs)->H' a=some (.tup xs)):PrI H' v p:=by obtain⟨c,e,g⟩:=h;exact⟨c,e,s _ _ g⟩
theorem PrI.same {H H':Hp}{v:V}{p:I2}(h:PrI H v p)(s:Same H H'):PrI H' v p:=h.tup fun a xs e=>s _ _ e
theorem wt_z {now:Int}{c:Cond}{W:List Ent}(h:OkW now W):Ċ (wghZ now c W) (totZ W)=(c.rat.den:Rat)*(balQ now c W / totQ W):=by
 have e1:=ν h.all;have e2:=yD1 c h.all;have n1:=zV8 h;rw[Ħ,e1,e2]
 grind
theorem xN7 {now:Int}{cs:List Cond}{zs:List Zz}{x:Nat->Rat}(ok:∀z∈zs,OkW now z.1){c j:Nat}{cc:Cond}(hc:cs[c]?=some cc)(hj:j<zs.length):quI (kpI now cc zs x j)=(cc.rat.den:Rat)*(wtQ now cs zs c j*x j):=by
 have okz:=ok _ (ĥ hj);have e:=wt_z (c:=cc) okz;unfold kpI wtQ;rw[hc,ā hj];show Ċ ((x j).num*wghZ now cc zs[j].1) (((x j).den:Int)*totZ zs[j].1)=(cc.rat.den:Rat)*(balQ now cc zs[j].1 / totQ zs[j].1*x j);rw[<- Š,ġ,e]
 grind
theorem yX7 {now:Int}{cs:List Cond}{zs:List Zz}{x:Nat->Rat}(ok:∀z∈zs,OkW now z.1){c:Nat}{cc:Cond}(hc:cs[c]?=some cc){k:Nat}(hk:k<=zs.length):sumL ((Đ k).map (kpI now cc zs x)) quI=(cc.rat.den:Rat)*sN k (fun j=>wtQ now cs zs c j*x j):=by
 rw[zH9];show sN k (fun j=>quI (kpI now cc zs x j))=_;rw[Ô fun j hj=>xN7 ok hc (by lia),ŕ,<- ų];exact Ô fun j _=>by grind
theorem xC8 {d y:Rat}(h:0<d):0<=d*y↔0<=y:=by
 constructor
 ·intro g;refine ĵ.mp fun z=>?_;have:=Ĺ z h
  grind
 ·exact fun g=>ĩ (Ŗ h) g
noncomputable def wpI (now:Int)(cs:List Cond)(z:Zz)(v:Nat->Rat)(i:Nat):I2:=match cs[i]? with | some cc=>((v i).num*wghZ now cc z.1,((v i).den:Int)*totZ z.1*(cc.rat.den:Int)) | none=>(0,1)
theorem xM4 {now:Int}{cs:List Cond}{zs:List Zz}{z:Zz}{v:Nat->Rat}{k i:Nat}(hk:zs[k]?=some z)(ok:OkW now z.1)(hi:i<cs.length):quI (wpI now cs z v i)=v i*wtQ now cs zs i k:=by
 have e:=wt_z (c:=cs[i]) ok;have n3:=χ cs[i].rat.den_pos;have d0:totZ z.1≠0:=by have:=Θ ok;lia
 unfold wpI wtQ;rw[ā hi,hk];show Ċ ((v i).num*wghZ now cs[i] z.1) (((v i).den:Int)*totZ z.1*(cs[i].rat.den:Int))=v i*(balQ now cs[i] z.1 / totQ z.1);rw[show (v i).num*wghZ now cs[i] z.1=(v i).num*wghZ now cs[i] z.1*1 by lia,<- Š,<- Š,ġ,e];rw[Ħ];have e1:((1:Int):Rat)=1:=rfl;rw[e1,Ĝ]
 grind
theorem xE4 {now:Int}{cs:List Cond}{zs:List Zz}{z:Zz}{v:Nat->Rat}{k i:Nat}(hk:zs[k]?=some z)(ok:OkW now z.1)(hi:i<=cs.length):sumL ((Đ i).map (wpI now cs z v)) quI=sN i (fun i=>v i*wtQ now cs zs i k):=by
 rw[zH9];show sN i (fun i=>quI (wpI now cs z v i))=_;exact Ô fun j hj=>xM4 hk ok (by lia)
theorem yW7 (a b:Int):quI (0 - a,b) = -quI (a,b):=by
 show Ċ (0 - a) b = -Ċ a b;rw[Rat.neg_divInt,Int.zero_sub]
theorem xI8 (r q:Rat):quI (r.num*q.num,(r.den:Int)*(q.den:Int))=r*q:=(yW8 r q).trans (ŕ q r)
theorem xE5 {now:Int}{W:List Ent}(h:OkW now W):Cd 332640 (2^130) (totQ W):=by
 refine⟨totZ W*12,?_,?_⟩
 ·rw[Ē,ν h.all];have e1:((332640:Nat):Rat)=332640:=rfl;have e2:((12:Int):Rat)=12:=rfl;rw[e1,e2];grind
 ·rw[Ĵ];refine ĉ (Ě (Λ h) (show (12:Int).natAbs<=2^8 by decide)) ?_;rw[<- Ľ];exact Ć _
theorem yR2 {r:Rat}(h:Bd 40 r):(unZ r).natAbs<2^55:=by
 unfold unZ;have d:=Î r;have h1:((27720:Int).fdiv r.den).natAbs<2^15:=by
  have:=natAbs_fdiv_le (27720:Int) r.den;have e:(2:Nat)^15=32768:=by decide
  rw[e];have e2:(27720:Int).natAbs=27720:=rfl;have q:(27720:Int).fdiv r.den ≥ 0:=Int.fdiv_nonneg (by decide) (by lia);have q2:(27720:Int).fdiv r.den<=27720:=by
   rw[Ŀ _ (by lia)];exact Int.ediv_le_self _ (by decide)
  lia
 exact Û (m:=40) (n:=15) h.num h1
theorem yZ3 {now:Int}{W:List Ent}(h:OkW now W):(totZ W).natAbs<=2^57:=by
 have h1:=zV9 (f:=fun e:Ent=>unZ e.2) (n:=55) fun e he=>yR2 (h.all e he).bd40;exact ĉ h1 (mul4 (by have:=h.len;lia))
theorem xI2 {r:Rat}(h:OkR r):-60<=r /\ r<=60:=by
 have e:=Χ r;have d:(0:Rat)<(r.den:Rat):=by exact_mod_cast r.den_pos
 have d1:(1:Rat)<=(r.den:Rat):=by exact_mod_cast r.den_pos
 have n1:r.num<=60:=by have:=h.2;lia
 have n2:-60<=r.num:=by have:=h.2;lia
 have q1:((r.num:Int):Rat)<=60:=by exact_mod_cast n1
 have q2:(-60:Rat)<=((r.num:Int):Rat):=by
  have h:=Rat.intCast_le_intCast.mpr n2;have e:((-60:Int):Rat) = -60:=rfl;rw[e]at h;exact h
 constructor
 ·refine ĵ.mp fun z=>?_;have:=Ĺ z d
  grind
 ·refine ĵ.mp fun z=>?_;have:=Ĺ z d
  grind
theorem xM1 {now:Int}{e:Ent}{c:Cond}(h:OkE now e)(oc:OkR c.rat):-65536<=wt e.1.1 e.1.2 now c /\ wt e.1.1 e.1.2 now c<=65536:=by
 have r:=xI2 oc;have o:∀b:Bool,(0:Rat)<=((Υ b:Int):Rat) /\ ((Υ b:Int):Rat)<=1:=fun b=>by cases b<;>exact⟨by decide,by decide⟩
 cases c with
 | mean q =>
  have r:-60<=q /\ q<=60:=r;have y:=h.yr15;have p15:(2:Nat)^15=32768:=by decide
  have y1:now - e.1.2<=32768:=by lia
  have y2:-32768<=now - e.1.2:=by lia
  have z1:((now - e.1.2:Int):Rat)<=32768:=by exact_mod_cast y1
  have z2:(-32768:Rat)<=((now - e.1.2:Int):Rat):=by
   have h:=Rat.intCast_le_intCast.mpr y2;have e:((-32768:Int):Rat) = -32768:=rfl;rw[e]at h;exact h
  show -65536<=((now - e.1.2:Int):Rat) - q /\ ((now - e.1.2:Int):Rat) - q<=65536
  constructor<;>grind
 | least q p =>
  have r:-60<=q /\ q<=60:=r;have:=o (mean e.1.1 e.1.2 now p);show -65536<=((Υ (mean e.1.1 e.1.2 now p):Int):Rat) - q /\ ((Υ (mean e.1.1 e.1.2 now p):Int):Rat) - q<=65536
  constructor<;>grind
 | most q p =>
  have r:-60<=q /\ q<=60:=r;have:=o (mean e.1.1 e.1.2 now p);show -65536<=q - ((Υ (mean e.1.1 e.1.2 now p):Int):Rat) /\ q - ((Υ (mean e.1.1 e.1.2 now p):Int):Rat)<=65536
  constructor<;>grind
theorem yY7 {now:Int}{c:Cond}(oc:OkR c.rat):∀{W:List Ent},(∀e∈W,OkE now e)->-65536*totQ W<=balQ now c W /\ balQ now c W<=65536*totQ W
 | [],_=>by
  show -65536*(0:Rat)<=0 /\ (0:Rat)<=65536*0
  constructor<;>grind
 | e::W,h=>by
  have ih:=yY7 oc (W:=W) fun e he=>h e (ć _ he);have he:=h e Ĉ;have w:=xM1 he oc;have p:=Ŗ he.pos;have m1:=ĩ p (show 0<=wt e.1.1 e.1.2 now c+65536 by grind);have m2:=ĩ p (show 0<=65536 - wt e.1.1 e.1.2 now c by grind);have e1:totQ (e::W)=e.2+totQ W:=ä ..;have e2:balQ now c (e::W)=e.2*wt e.1.1 e.1.2 now c+balQ now c W:=ä ..;rw[e1,e2]
  constructor<;>grind
theorem xG5 {now:Int}{c:Cond}{W:List Ent}(h:OkW now W)(oc:OkR c.rat):-65536<=balQ now c W / totQ W /\ balQ now c W / totQ W<=65536:=by
 have t:=zZ5 h;obtain⟨b1,b2⟩:=yY7 oc h.all;have n1:=zV8 h;have e:balQ now c W / totQ W*totQ W=balQ now c W:=by rw[ę,Rat.mul_assoc,Rat.inv_mul_cancel _ n1,Ň]
 constructor
 ·refine ĵ.mp fun z=>?_;have:=Ĺ z t
  grind
 ·refine ĵ.mp fun z=>?_;have:=Ĺ z t
  grind
noncomputable def Φ:List Zz->Nat
 | []=>1
 | z::zs=>(totZ z.1).natAbs*Φ zs
theorem yE6 {now:Int}:∀{zs:List Zz},(∀z∈zs,OkW now z.1)->0<Φ zs /\ Φ zs<=(2^57)^zs.length
 | [],_=>⟨by decide,by decide⟩
 | z::zs,h=>by
  have ih:=yE6 (zs:=zs) fun z hz=>h z (ć _ hz);have p:=Θ (h z Ĉ);refine⟨ň (by lia) ih.1,?_⟩;rw[ī,ł,ť ((2^57)^zs.length)];exact Ě (yZ3 (h z Ĉ)) ih.2
theorem zW5:∀{zs:List Zz} {z:Zz},z∈zs->(totZ z.1).natAbs∣Φ zs
 | y::zs,z,h=>by
  rcases Ė.mp h with e | e
  ·rw[e];exact Nat.dvd_mul_right _ _
  ·exact Nat.dvd_trans (zW5 e) (Nat.dvd_mul_left _ _)
theorem xO5 {d:Nat}(h0:0<d)(h1:d<=20):d∣232792560:=by
 have:∀d:Fin 21,0<d.1->d.1∣232792560:=by decide
 exact this ⟨d,by lia⟩ h0
theorem xM2 {now:Int}{cs:List Cond}{zs:List Zz}(ok:∀z∈zs,OkW now z.1)(oc:∀c∈cs,OkR c.rat){c j:Nat}(hc:c<cs.length)(hj:j<zs.length):Cd (232792560*Φ zs) (65536*(232792560*Φ zs)) (wtQ now cs zs c j):=by
 have okz:=ok _ (ĥ hj);have okc:=oc _ (ĥ hc);have ew:wtQ now cs zs c j=balQ now cs[c] zs[j].1 / totQ zs[j].1:=by unfold wtQ;rw[ā hc,ā hj]
 rw[ew];obtain⟨w1,w2⟩:=xG5 okz okc;obtain⟨q1,e1⟩:=xO5 (cs[c].rat.den_pos) okc.1;obtain⟨q2,e2⟩:=zW5 (ĥ hj);have tp:=Θ okz;have eD:((232792560*Φ zs:Nat):Rat)=(cs[c].rat.den:Rat)*(q1:Rat)*(((totZ zs[j].1:Int):Rat)*(q2:Rat)):=by
  rw[e1,e2,į,į,į];have:(((totZ zs[j].1).natAbs:Nat):Rat)=((totZ zs[j].1:Int):Rat):=by
   rw[<- Ĝ];congr 1;lia
  rw[this]
 have e3:=yD1 cs[c] okz.all;have e4:=ν okz.all;have n1:=zV8 okz;have eW:balQ now cs[c] zs[j].1 / totQ zs[j].1*((232792560*Φ zs:Nat):Rat)=((wghZ now cs[c] zs[j].1*((q1:Int)*(q2:Int)):Int):Rat):=by
  rw[eD,Ē,Ē,Ĝ,Ĝ,e3,e4]
  grind
 refine⟨_,eW,?_⟩;have d0:(0:Rat)<=((232792560*Φ zs:Nat):Rat):=by exact_mod_cast Ń _
 have a1:=œ w2 d0;have a2:=œ w1 d0;rw[eW]at a1 a2;have b1:(65536:Rat)*((232792560*Φ zs:Nat):Rat)=((65536*(232792560*Φ zs):Nat):Rat):=by rw[į 65536];rfl
 have b2:(-65536:Rat)*((232792560*Φ zs:Nat):Rat) = -((65536*(232792560*Φ zs):Nat):Rat):=by rw[<- b1];grind
 rw[b1]at a1;rw[b2]at a2;generalize 65536*(232792560*Φ zs)=K at *;have k1:((K:Nat):Rat)=(((K:Nat):Int):Rat):=(Ĝ K).symm;rw[k1]at a1 a2;rw[<- Rat.intCast_neg]at a2;have c1:=Rat.intCast_le_intCast.mp a1;have c2:=Rat.intCast_le_intCast.mp a2;lia
theorem xK4 {m M N a:Nat}(hm:m<=M)(m8:m<=8)(hN:N<=2^a):(m+1)*(144*(N*(m*N)^m))<=2^(4+(8+(a+(3+a)*M))):=by
 have h1:m*N<=2^(3+a):=by rw[Ľ];exact Ě (by simpa using m8) hN
 have h2:(m*N)^m<=2^((3+a)*M):=by
  refine ĉ (Nat.pow_le_pow_left h1 m) ?_;rw[Nat.pow_mul];exact Nat.pow_le_pow_right (ś _) hm
 rw[Ľ,Ľ,Ľ 2 a];exact Ě (by simp;lia) (Ě (by decide) (Ě hN h2))
theorem xL6 {now:Int}{cs:List Cond}{zs:List Zz}{wd:Rat}(ok:∀z∈zs,OkW now z.1 /\ PrOk z.2)(oc:∀c∈cs,OkR c.rat)(sh:(zs.length<=4 /\ cs.length<=2) \/ (zs.length<=2 /\ cs.length<=5))(w0:0<wd)(cw:Cd 332640 (2^130) wd):∃D N,BlS now cs zs wd D N:=by
 have okW:∀z∈zs,OkW now z.1:=fun z hz=>(ok z hz).1;obtain⟨p0,pl⟩:=yE6 okW;have hN:∃a M,65536*(232792560*Φ zs)+2^130<=2^a /\ a<=300 /\ zs.length+cs.length+1<=M /\ 4+(8+(a+(3+a)*M))<=2599:=by
  rcases sh with⟨h1,h2⟩ | ⟨h1,h2⟩
  ·refine⟨273,7,?_,by decide,by lia,by decide⟩;have:Φ zs<=2^228:=ĉ pl (ĉ (Nat.pow_le_pow_right (ś _) h1) (by decide));have q:65536*(232792560*2^228)+2^130<=2^273:=by decide
   have:=Ō 232792560 this;lia
  ·refine⟨159,8,?_,by decide,by lia,by decide⟩;have:Φ zs<=2^114:=ĉ pl (ĉ (Nat.pow_le_pow_right (ś _) h1) (by decide));have q:65536*(232792560*2^114)+2^130<=2^159:=by decide
   have:=Ō 232792560 this;lia
 obtain⟨a,M,ha,a3,hM,hs⟩:=hN;refine⟨232792560*Φ zs,65536*(232792560*Φ zs)+2^130,?_⟩;exact {
  D0:=by lia
  DN:=by lia
  NW:=by lia
  N3:=ĉ ha (Þ a3)
  wt:=fun c j hc hj=>(xM2 okW oc hc hj).mono (Nat.le_add_right _ _)
  tt:=fun j hj=>by
   rw[zK9 (ā hj)];exact xE5 (okW _ (ĥ hj))
  wdc:=cw
  wd0:=Ŗ w0
  pr:=fun j=>by
   by_cases hj:j<zs.length
   ·rw[zQ3 (ā hj)];have:=(ok _ (ĥ hj)).2;exact⟨this.2,this.1⟩
   ·unfold prQ;rw[Ġ (by lia)];exact⟨Cd.zero _ _,Ŏ⟩
  few:=ĉ (xK4 hM (by lia) ha) (Þ hs) }
theorem xP3 {lc:Rat}(h:Cd 1 1 lc){E X:Nat}(hE:E<=X):Cd E X lc:=by
 have:=h.up E;rw[Nat.one_mul]at this;exact this.mono hE
theorem zL6 {H H':Hp}{v:V}{n:String}(h:tyS H v=some n)(s:Same H H'):tyS H' v=some n:=by
 cases v with
 | ref a =>
  have h:tyH (H a)=some n:=h;show tyH (H' a)=some n;cases e:H a with
  | none=>rw[e]at h;cases h
  | some o=>rw[s _ _ e,<- e];exact h
 | _=>exact h
noncomputable def FrA (H:Hp)(v:V)(b:Bool):Prop:=(∃n,tyS H v=some n /\ n ≠ "tuple" /\ b=false) \/ (∃a x y,v = .ref a /\ H a=some (.tup [.int x,.int y]) /\ b=(decide (1<=y)&&decide (dv x y=1))) \/ ∃a p y,v = .ref a /\ H a=some (.tup [.bl p,y]) /\ b=false
noncomputable def yZ9 (K:Ā):Sp:=fun vs H Q _=>∃v b,vs=[v] /\ FrA H v b /\ Q (.bl b) H
theorem zQ8 {n m:String}(h:n≠m)(hb:m ≠ "int"):subS n m=false:=by
 simp[subS,h,hb]
theorem FrA.same {H H':Hp}{v:V}{b:Bool}(h:FrA H v b)(s:Same H H'):FrA H' v b:=by
 rcases h with⟨n,h1,h2⟩ | ⟨a,x,y,h1,h2,h3⟩ | ⟨a,p,y,h1,h2,h3⟩
 ·exact .inl ⟨n,zL6 h1 s,h2⟩
 ·exact .inr (.inl ⟨a,x,y,h1,s _ _ h2,h3⟩)
 ·exact .inr (.inr ⟨a,p,y,h1,s _ _ h2,h3⟩)
theorem _root_.Tc.FrV.fra {H:Hp}{v:V}{r:Rat}(h:FrV H v r):FrA H v true:=by
 obtain⟨a,rfl,h⟩:=h;have d:=Î r;refine .inr (.inl ⟨a,_,_,rfl,h,?_⟩);rw[zL2 d,zG0 r,decide_eq_true (show 1<=(r.den:Int) by lia)];rfl
noncomputable def AfV (H:Hp)(m:Nat)(v:V)(b:Bool):Prop:=(∃n,tyS H v=some n /\ n ≠ "list" /\ b=false) \/ ∃a xs,v = .ref a /\ H a=some (.lst xs) /\ ((xs.length≠m /\ b=false) \/ (xs.length=m /\ ∃bs,Paired (FrA H) xs bs /\ b=bs.all id))
theorem AfV.same {H H':Hp}{m:Nat}{v:V}{b:Bool}(h:AfV H m v b)(s:Same H H'):AfV H' m v b:=by
 rcases h with⟨n,h1,h2⟩ | ⟨a,xs,h1,h2,h3⟩
 ·exact .inl ⟨n,zL6 h1 s,h2⟩
 ·refine .inr ⟨a,xs,h1,s _ _ h2,h3.imp id fun⟨l,bs,p,e⟩=>⟨l,bs,Paired.mapP p fun _ _ f=>f.same s,e⟩⟩
theorem xD4 {H:Hp}{xs:List V}{rs:List Rat}(h:Paired (FrV H) xs rs):∃bs:List Bool,Paired (FrA H) xs bs /\ bs.all id=true:=by
 induction h with
 | nil=>exact⟨[],.nil,rfl⟩
 | cons h t ih =>
  obtain⟨bs,p,e⟩:=ih;exact⟨true::bs,.cons h.fra p,by rw[List.all_cons,e];rfl⟩
theorem LsF.afv {H:Hp}{a:Addr}{m:Nat}{f:Nat->Rat}(h:LsF H a (nR m f)):AfV H m (.ref a) true:=by
 obtain⟨vs,h1,h2⟩:=h;obtain⟨bs,p,e⟩:=xD4 h2;exact .inr ⟨a,vs,rfl,h1,.inr ⟨h2.length.trans (Ý _ _),bs,p,e.symm⟩⟩
noncomputable def spAf:Sp:=fun vs H Q _=>∃(v:V) (m:Nat) (b:Bool),vs=[v,.int (m:Nat)] /\ m<=30 /\ AfV H m v b /\ ∀H',Same H H'->Q (.bl b) H'
noncomputable def A0V (H:Hp)(m:Nat)(v:V)(b:Bool):Prop:=(AfV H m v false /\ b=false) \/ ∃a f,v = .ref a /\ LsF H a (nR m f) /\ (b=true↔∀j,j<m->0<=f j)
theorem A0V.same {H H':Hp}{m:Nat}{v:V}{b:Bool}(h:A0V H m v b)(s:Same H H'):A0V H' m v b:=by
 rcases h with⟨h1,h2⟩ | ⟨a,f,e,l,g⟩
 ·exact .inl ⟨h1.same s,h2⟩
 ·exact .inr ⟨a,f,e,l.same s,g⟩
noncomputable def spA0:Sp:=fun vs H Q _=>∃(v:V) (m:Nat) (b:Bool),vs=[v,.int (m:Nat)] /\ m<=30 /\ A0V H m v b /\ ∀H',Same H H'->Q (.bl b) H'
noncomputable def IpV (H:Hp)(m n:Nat)(pt:V)(b:Bool):Prop:=(∃ty,tyS H pt=some ty /\ ty ≠ "tuple" /\ b=false) \/ ∃t uv vv wv bu bv bw,pt = .ref t /\ H t=some (.tup [uv,vv,wv]) /\ FrA H uv bu /\ (bu=true->A0V H n vv bv /\ (bv=true->A0V H m wv bw)) /\ b=(bu&&(bv&&bw))
theorem IpV.same {H H':Hp}{m n:Nat}{pt:V}{b:Bool}(h:IpV H m n pt b)(s:Same H H'):IpV H' m n pt b:=by
 rcases h with⟨n,h1,h2⟩ | ⟨t,uv,vv,wv,bu,bv,bw,h1,h2,h3,h4,h5⟩
 ·exact .inl ⟨n,zL6 h1 s,h2⟩
 ·exact .inr ⟨t,uv,vv,wv,bu,bv,bw,h1,s _ _ h2,h3.same s,fun e=>⟨(h4 e).1.same s,fun z=>((h4 e).2 z).same s⟩,h5⟩
noncomputable def spIp:Sp:=fun vs H Q _=>∃(ao aw al:Addr) (os ls:List V) (wv pt:V) (b:Bool),vs=[.ref ao,.ref aw,pt] /\ H ao=some (.lst os) /\ H aw=some (.tup [wv,.ref al]) /\ H al=some (.lst ls) /\ os.length<=8 /\ ls.length<=8 /\ IpV H os.length ls.length pt b /\ ∀H',Same H H'->Q (.bl b) H'
noncomputable def PpV (H:Hp)(m n:Nat)(pt:V)(u:Rat)(vq wq:Nat->Rat):Prop:=∃t uv pv pw,pt = .ref t /\ H t=some (.tup [uv,.ref pv,.ref pw]) /\ FrV H uv u /\ LsF H pv (nR n vq) /\ LsF H pw (nR m wq)
theorem PpV.same {H H':Hp}{m n:Nat}{pt:V}{u:Rat}{vq wq:Nat->Rat}(h:PpV H m n pt u vq wq)(s:Same H H'):PpV H' m n pt u vq wq:=by
 obtain⟨t,uv,pv,pw,e,h1,h2,h3,h4⟩:=h;exact⟨t,uv,pv,pw,e,s _ _ h1,h2.same s,h3.same s,h4.same s⟩
noncomputable def Nng (m n:Nat)(vq wq:Nat->Rat):Prop:=(∀i,i<n->0<=vq i) /\ ∀j,j<m->0<=wq j
theorem PpV.ip {H:Hp}{m n:Nat}{pt:V}{u:Rat}{vq wq:Nat->Rat}(h:PpV H m n pt u vq wq):∃b,IpV H m n pt b /\ (b=true↔Nng m n vq wq):=by
 classical
 obtain⟨t,uv,pv,pw,e,h1,h2,h3,h4⟩:=h;refine⟨decide (∀i,i<n->0<=vq i)&&decide (∀j,j<m->0<=wq j),.inr ⟨t,uv,_,_,true,_,_,e,h1,h2.fra,fun _=>⟨.inr ⟨pv,vq,rfl,h3,decide_eq_true_iff⟩,fun _=>.inr ⟨pw,wq,rfl,h4,decide_eq_true_iff⟩⟩,rfl⟩,?_⟩;rw[Œ,decide_eq_true_iff,decide_eq_true_iff];rfl
noncomputable def worQ (now:Int)(cs:List Cond)(zs:List Zz)(u:Rat)(vq wq:Nat->Rat)(k:Nat):Rat:=u - wq k+sN cs.length (fun i=>vq i*wtQ now cs zs i k)
noncomputable def shwQ (zs:List Zz)(wd u:Rat)(wq:Nat->Rat):Rat:=u*wd - sN zs.length (fun j=>wq j*ttQ zs j)
noncomputable def LetN (now:Int)(cs:List Cond)(zs:List Zz)(wd u:Rat)(vq wq:Nat->Rat):Prop:=Nng zs.length cs.length vq wq /\ (∀k,k<zs.length->worQ now cs zs u vq wq k<=0) /\ 0<shwQ zs wd u wq
noncomputable def LetB (now:Int)(cs:List Cond)(zs:List Zz)(wd u:Rat)(vq wq x:Nat->Rat):Prop:=FsZ now cs zs wd x /\ Nng zs.length cs.length vq wq /\ (∀k,k<zs.length->worQ now cs zs u vq wq k<=prQ zs k) /\ shwQ zs wd u wq=sN zs.length (fun j=>prQ zs j*x j)
theorem weak {now:Int}{cs:List Cond}{zs:List Zz}{wd u:Rat}{vq wq x g:Nat->Rat}(f:FsZ now cs zs wd x)(ng:Nng zs.length cs.length vq wq)(h:∀k,k<zs.length->worQ now cs zs u vq wq k<=g k):shwQ zs wd u wq<=sN zs.length (fun k=>g k*x k):=by
 have h1:sN zs.length (fun k=>worQ now cs zs u vq wq k*x k)<=sN zs.length (fun k=>g k*x k):=xA5 fun k hk=>œ (h k hk) (f.low k hk).1;have e1:sN zs.length (fun k=>worQ now cs zs u vq wq k*x k)=sN zs.length (fun k=>x k*u+(wq k*x k)*(-1))*1+sN zs.length (fun k=>sN cs.length (fun i=>vq i*(wtQ now cs zs i k*x k)))*1:=by
  rw[<- Μ];refine Ô fun k _=>?_;have:sN cs.length (fun i=>vq i*(wtQ now cs zs i k*x k))=sN cs.length (fun i=>vq i*wtQ now cs zs i k)*x k:=by
   rw[<- ų];exact Ô fun i _=>by grind
  rw[this];unfold worQ;grind
 have e2:sN zs.length (fun k=>sN cs.length (fun i=>vq i*(wtQ now cs zs i k*x k)))=sN cs.length (fun i=>sN zs.length (fun k=>wtQ now cs zs i k*x k)*vq i):=by
  rw[zR6];refine Ô fun i _=>?_;rw[<- ų];exact Ô fun k _=>by grind
 have h2:0<=sN cs.length (fun i=>sN zs.length (fun k=>wtQ now cs zs i k*x k)*vq i):=yG8 fun i hi=>ĩ (f.wts i hi) (ng.1 i hi);have h3:sN zs.length (fun k=>wq k*x k)<=sN zs.length (fun j=>wq j*ttQ zs j):=xA5 fun k hk=>by
  have:=Rat.mul_le_mul_of_nonneg_left (f.low k hk).2 (ng.2 k hk);exact this
 rw[Μ,f.sum,e2]at e1;unfold shwQ
 grind
noncomputable def PpC (e m n:Nat)(u:Rat)(vq wq:Nat->Rat):Prop:=∃E Y:Nat,0<E /\ E<=Y /\ Y<=2^e /\ Cd E Y u /\ (∀i,i<n->Cd E Y (vq i)) /\ ∀j,j<m->Cd E Y (wq j)
noncomputable def XC (e m:Nat)(x:Nat->Rat):Prop:=∃E X:Nat,0<E /\ E<=X /\ X<=2^e /\ ∀j,j<m->Cd E X (x j)
structure PpS (now:Int)(cs:List Cond)(zs:List Zz)(wd u:Rat)(vq wq:Nat->Rat):Prop where
 bv:∀i,i<cs.length->Bd 2700 (vq i)
 bw:∀j,j<zs.length->Bd 2700 (wq j)
 bu:Bd 2700 u
 b2:∀k,k<zs.length->∀i,i<=cs.length->Bd 4000 (u - wq k+sN i (fun i=>vq i*wtQ now cs zs i k))
 b3:∀i,i<=zs.length->Bd 4000 (u*wd - sN i (fun j=>wq j*ttQ zs j))
 b4:∀k,k<zs.length->∀i,i<=cs.length->Bd 4000 (sN i (fun i=>wtQ now cs zs i k*vq i))
 b5:∀k,k<zs.length->Bd 4000 (u+sN cs.length (fun i=>wtQ now cs zs i k*vq i))
 b6:∀i,i<=zs.length->Bd 4000 (sN i (fun j=>wq j*ttQ zs j))
theorem xG8 {now:Int}{cs:List Cond}{zs:List Zz}{wd u:Rat}{vq wq:Nat->Rat}{D N:Nat}(b:BlS now cs zs wd D N)(c8:cs.length<=8)(w8:zs.length<=8)(h:PpC 2610 zs.length cs.length u vq wq):PpS now cs zs wd u vq wq:=by
 obtain⟨E,Y,e0,eY,fw,cu,cv,cw⟩:=h;have n3:=b.N3;have d0:=b.D0;have dn:=b.DN;have nw:=b.NW;have yn:∀{k:Nat},k<=64->k*(Y*N)<=2^3900:=fun {k} hk=>by
  have h1:Y*N<=2^2610*2^300:=Ě fw n3;have h2:k*(Y*N)<=2^6*(2^2610*2^300):=Ě (by simpa using hk) h1;refine ĉ h2 ?_;rw[<- Ľ,<- Ľ];exact Þ (by decide)
 have ed:E*D<=Y*N:=Ě eY dn;have e3:E*332640<=Y*N:=Ě eY (ĉ (by decide) nw);have y1:Y*2^130<=Y*N:=Ō _ nw;have yd:Y*D<=Y*N:=Ō _ dn;have fit:∀{d n:Nat} {r:Rat},Cd d n r->0<d->d<=Y*N->n<=64*(Y*N)->Bd 4000 r:=fun {d n r} hc h0 h1 h2=>((hc.mono h2).bd (s:=3900) h0 (by lia) (yn (Ć _))).mono (by decide);have sv:∀k,k<zs.length->∀i,i<=cs.length->Cd (E*D) (i*(Y*N)) (sN i (fun i=>vq i*wtQ now cs zs i k)):=fun k hk i hi=>zO6 fun l hl=>(cv l (by lia)).mul (b.wt l k (by lia) hk);have sv':∀k i,sN i (fun i=>wtQ now cs zs i k*vq i)=sN i (fun i=>vq i*wtQ now cs zs i k):=fun k i=>Ô fun j _=>ŕ _ _;have sw:∀i,i<=zs.length->Cd (E*332640) (i*(Y*2^130)) (sN i (fun j=>wq j*ttQ zs j)):=fun i hi=>zO6 fun l hl=>(cw l (by lia)).mul (b.tt l (by lia));have q8:∀{i:Nat},i<=8->i*(Y*N)<=8*(Y*N):=fun h=>Ĭ _ h;have q9:∀{i:Nat},i<=8->i*(Y*2^130)<=8*(Y*N):=fun h=>Ě h y1;have p1:0<E*D:=ň e0 d0;have p3:0<E*332640:=ň e0 (by decide);refine⟨fun i hi=>((cv i hi).bd (s:=2610) e0 eY fw).mono (by decide),fun i hi=>((cw i hi).bd (s:=2610) e0 eY fw).mono (by decide),(cu.bd (s:=2610) e0 eY fw).mono (by decide),fun k hk i hi=>?_,fun i hi=>?_,fun k hk i hi=>?_,fun k hk=>?_,fun i hi=>?_⟩
 ·have:=q8 (i:=i) (by lia);have e:(Y+Y)*D=2*(Y*D):=by grind
  exact fit (((cu.sub (cw k hk)).up D).add (sv k hk i hi)) p1 ed (by lia)
 ·have:=q9 (i:=i) (by lia);exact fit ((cu.mul b.wdc).sub (sw i hi)) p3 e3 (by lia)
 ·have:=q8 (i:=i) (by lia);rw[sv'];exact fit (sv k hk i hi) p1 ed (by lia)
 ·have:=q8 (i:=cs.length) (by lia);rw[sv'];exact fit ((cu.up D).add (sv k hk _ (Ć _))) p1 ed (by lia)
 ·have:=q9 (i:=i) (by lia);exact fit (sw i hi) p3 e3 (by lia)
structure XS (now:Int)(cs:List Cond)(zs:List Zz)(x:Nat->Rat):Prop where
 bx:∀j,j<zs.length->Bd 2700 (x j)
 bX:∀k,k<=zs.length->Bd 4000 (sN k x)
 bS:∀cc∈cs,∀k,k<=zs.length->Bd 4000 (sumL ((Đ k).map (kpI now cc zs x)) quI)
 bC:∀k,k<=zs.length->Bd 4000 (sN k fun j=>prQ zs j*x j)
 bW:∀c,c<cs.length->∀k,k<=zs.length->Bd 4000 (sN k fun j=>wtQ now cs zs c j*x j)
theorem xM0 {now:Int}{cs:List Cond}{zs:List Zz}{wd:Rat}{x:Nat->Rat}{D N:Nat}(b:BlS now cs zs wd D N)(ok:∀z∈zs,OkW now z.1)(oc:∀c∈cs,OkR c.rat)(w8:zs.length<=8)(h:XC 2610 zs.length x):XS now cs zs x:=by
 obtain⟨E,X,e0,eX,hX,hx⟩:=h;have n3:=b.N3;have big:∀{k s:Nat},k<=2^10->s<=2^300->k*(s*X)<=2^3900:=fun {k s} hk hs=>by
  refine ĉ (Ě hk (Ě hs hX)) ?_;rw[<- Ľ,<- Ľ];exact Þ (by decide)
 have sw:∀c,c<cs.length->∀k,k<=zs.length->Cd (D*E) (k*(N*X)) (sN k fun j=>wtQ now cs zs c j*x j):=fun c hc k hk=>zO6 fun l hl=>(b.wt c l hc (by lia)).mul (hx l (by lia));have de:=Ě b.DN eX;refine⟨fun j hj=>((hx j hj).bd (s:=2610) e0 eX hX).mono (by decide),fun k hk=>?_,fun cc hm k hk=>?_,fun k hk=>?_,fun c hc k hk=>?_⟩
 ·have a:=(zO6 (m:=k) (f:=x) fun i hi=>hx i (by lia)).mono (N':=8*(1*X)) (by rw[Nat.one_mul];exact Ĭ _ (by lia));exact(a.bd (s:=3900) e0 (by lia) (big (by decide) (by decide))).mono (by decide)
 ·obtain⟨c,hc,e⟩:=List.getElem_of_mem hm;have hcc:cs[c]?=some cc:=by rw[ā hc,e]
  rw[yX7 ok hcc hk];have a0:Cd 1 20 (cc.rat.den:Rat):=⟨cc.rat.den,by rw[Ĝ];exact Ň _,by have:=(oc cc hm).1;lia⟩;have a2:=(a0.mul (sw c hc k hk)).mono (N':=160*(N*X)) (by
   refine ĉ (Ō 20 (Ĭ _ (show k<=8 by lia))) ?_;lia)
  exact(a2.bd (s:=3900) (ň (by decide) (ň b.D0 e0)) (by lia) (big (by decide) n3)).mono (by decide)
 ·have a1:=(zO6 (m:=k) (f:=fun j=>prQ zs j*x j) (D:=6*E) (N:=144*X) fun l hl=>(b.pr l).1.mul (hx l (by lia))).mono (N':=8*(144*X)) (Ĭ _ (by lia));refine(a1.bd (s:=3900) (ň (by decide) e0) ?_ (big (by decide) (by decide))).mono (by decide);have:=Ě (show 6<=144 by decide) eX;lia
 ·have a1:=(sw c hc k hk).mono (N':=8*(N*X)) (Ĭ _ (by lia));exact(a1.bd (s:=3900) (ň b.D0 e0) (by lia) (big (by decide) n3)).mono (by decide)
theorem yW9 {now:Int}{cs:List Cond}{zs:List Zz}{wd lc:Rat}{f c:Nat->Rat}{D N:Nat}(b:BlS now cs zs wd D N)(hf:∀j,Cd 6 144 (f j))(hl:Cd 1 1 lc)(d:Dual now cs zs wd f c):PpC 2600 zs.length cs.length (lc - c (2*zs.length+cs.length)) (fun j=>c (2*zs.length+j)) (fun j=>c (zs.length+j)):=by
 obtain⟨M,B,fr,hc,_⟩:=d;obtain⟨u,u0,ul,c1,_⟩:=fr.cdN zV0 b.D0 b.DN b.hA;let X:Nat:=N*((zs.length+cs.length+1)*N)^(zs.length+cs.length+1);have eX:D*u<=X:=Ě b.DN ul;have cc:∀j,j<2*zs.length+cs.length+1->Cd (6*(D*u)) ((zs.length+cs.length+1+1)*(144*X)) (c j):=fun j hj=>by
  rw[hc j (by lia)];exact yL5 (by decide) hf (ň b.D0 u0) eX (c1 j hj) (Ć _)
 have e0:0<6*(D*u):=ň (by decide) (ň b.D0 u0);have eE:6*(D*u)<=(zs.length+cs.length+1+1)*(144*X):=ĉ (Ě (show 6<=144 by decide) eX) (Ş _ (by lia));have fw:(zs.length+cs.length+1+1)*(144*X)<=2^2599:=b.few;generalize (zs.length+cs.length+1+1)*(144*X)=Y at *;generalize 6*(D*u)=Ec at *;have q:Y+Y<=2^2600:=by rw[ł];lia
 exact⟨Ec,Y+Y,e0,by lia,q,(xP3 hl eE).sub (cc _ (by lia)),fun i hi=>(cc _ (by lia)).mono (by lia),fun j hj=>(cc _ (by lia)).mono (by lia)⟩
structure OfW (H:Hp)(ao aw al:Addr)(now:Int)(os ls:List V)(zs:List Zz)(cs:List Cond)(wv:V)(wd:Rat):Prop where
 hO:H ao=some (.lst os)
 hP:Paired (OfP H) os zs
 ok:∀z∈zs,OkW now z.1 /\ PrOk z.2
 w1:1<=zs.length
 w4:zs.length<=4
 hW:H aw=some (.tup [wv,.ref al])
 fw:FrV H wv wd
 hL:H al=some (.lst ls)
 hC:Paired (CdV H) ls cs
 c8:cs.length<=8
 okc:∀c∈cs,OkR c.rat
 bl:∃D N,BlS now cs zs wd D N
 w0:0<wd
 bw:Bd 200 wd
section
variable {H H':Hp}{ao aw al:Addr}{now:Int}{os ls:List V}{zs:List Zz}{cs:List Cond}{wv:V}{wd:Rat}(o:OfW H ao aw al now os ls zs cs wv wd)
include o
theorem OfW.same (s:Same H H'):OfW H' ao aw al now os ls zs cs wv wd:=⟨s _ _ o.hO,Paired.mapP o.hP fun _ _ f=>f.same s,o.ok,o.w1,o.w4,s _ _ o.hW,o.fw.same s,s _ _ o.hL,Paired.mapP o.hC fun _ _ f=>⟨RepC.same s f.1,f.2⟩,o.c8,o.okc,o.bl,o.w0,o.bw⟩
theorem OfW.lO:os.length=zs.length:=o.hP.length
theorem OfW.lL:ls.length=cs.length:=o.hC.length
theorem OfW.okW:∀z∈zs,OkW now z.1:=fun z hz=>(o.ok z hz).1
theorem OfW.pps {u:Rat}{vq wq:Nat->Rat}(h:PpC 2610 zs.length cs.length u vq wq):PpS now cs zs wd u vq wq:=let ⟨_,_,b⟩:=o.bl;xG8 b o.c8 (by have:=o.w4;lia) h
theorem OfW.xs {x:Nat->Rat}(h:XC 2610 zs.length x):XS now cs zs x:=let ⟨_,_,b⟩:=o.bl;xM0 b o.okW o.okc (by have:=o.w4;lia) h
theorem OfW.tt {j:Nat}(hj:j<zs.length):0<ttQ zs j:=by
 rw[zK9 (ā hj)];exact zZ5 (o.okW _ (ĥ hj))
end
noncomputable def spPs (K:Ā):Sp:=fun vs H Q _=>∃(a b:Addr) (m:Nat) (f g:Nat->Rat),vs=[.ref a,.ref b] /\ LsF H a (nR m f) /\ LsF H b (nR m g) /\ m<=8 /\ (∀j,j<m->Bd 4000 (f j)) /\ (∀j,j<m->Bd 4000 (g j)) /\ (∀k,k<=m->Bd 8000 (sN k fun j=>f j*g j)) /\ ∀v H',Same H H'->FrV H' v (sN m fun j=>f j*g j)->Q v H'
noncomputable def spIb (K:Ā):Sp:=fun vs H Q _=>∃(ao aw al:Addr) (now:Int) (os ls:List V) (zs:List Zz) (cs:List Cond) (wv:V) (wd:Rat) (aa:Addr) (x:Nat->Rat),vs=[.ref ao,.ref aw,.int now,.ref aa] /\ OfW H ao aw al now os ls zs cs wv wd /\ LsF H aa (nR zs.length x) /\ XC 2610 zs.length x /\ ∀b H',Same H H'->(b=true↔FsZ now cs zs wd x)->Q (.bl b) H'
theorem all_rng {n:Nat}{p:Nat->Prop}[∀c,Decidable (p c)]:((Đ n).map fun c=>decide (p c)).all id=true↔∀c,c<n->p c:=by
 rw[List.all_eq_true]
 constructor
 ·intro h c hc;exact of_decide_eq_true (h _ (ŀ.mpr ⟨c,ğ.mpr hc,rfl⟩))
 ·intro h b hb;obtain⟨c,hc,rfl⟩:=ŀ.mp hb;exact decide_eq_true (h c (ğ.mp hc))
theorem xE0 {now:Int}{cs:List Cond}{zs:List Zz}{i:Nat}{c:Cond}(h:cs[i]?=some c):((zs.map (·.1)).map fun W=>balQ now c W / totQ W)=nR zs.length (wtQ now cs zs i):=by
 refine List.ext_getElem? fun j=>?_
 by_cases hj:j<zs.length
 ·rw[xI7 _ hj,č,č,ā hj];unfold wtQ;rw[h,ā hj];rfl
 ·rw[Ġ (by simp;lia),Ġ (by rw[Ý];lia)]
theorem yK0 {H H0:Hp}{now:Int}{cs:List Cond}{zs:List Zz}{rs:List V}(hR:Paired (fun v c=>RwV H now (zs.map (·.1)) v c /\ ∃a,v = .ref a /\ H0 a=none) rs cs){i:Nat}{y:V}(hy:rs[i]?=some y):i<cs.length /\ ∃a,y = .ref a /\ LsF H a (nR zs.length (wtQ now cs zs i)):=by
 obtain⟨c,hc,⟨a,xs,rfl,ha,hX⟩,_⟩:=Ê hR hy;rw[xE0 hc]at hX;exact⟨(Ą.mp hc).1,a,rfl,xs,ha,hX⟩
theorem È {σ:St}{H:Hp}{k:List V->Hp->Prop}(h:k [] H):tNil σ H k:=h
theorem iteB {b:Bool}{P A B:Prop}(hb:b=true↔P)(h1:¬P->A)(h2:P->B):if (!b)=true then A else B:=by
 cases b with
 | true=>exact iteF (h2 (hb.mp rfl))
 | false=>exact iteT (h1 fun p=>nomatch hb.mpr p)
section
variable {H:Hp}{ao aw al:Addr}{now:Int}{os ls:List V}{zs:List Zz}{cs:List Cond}{wv:V}{wd:Rat}(o:OfW H ao aw al now os ls zs cs wv wd)
include o
theorem OfW.wtb {c i:Nat}(hc:c<cs.length)(hi:i<zs.length):Bd 1000 (wtQ now cs zs c i):=by
 obtain⟨y0,_,_,bc⟩:=zI3 o.hC (ā hc);unfold wtQ;rw[ā hc,ā hi];exact yW6 (o.okW _ (ĥ hi)) bc
theorem OfW.ttb {i:Nat}(hi:i<zs.length):Bd 200 (ttQ zs i):=by
 rw[zK9 (ā hi)];exact yD7 (o.okW _ (ĥ hi))
theorem OfW.prb {i:Nat}(hi:i<zs.length):Bd 9 (prQ zs i):=by
 rw[zQ3 (ā hi)];exact(o.ok _ (ĥ hi)).2.bd
end
theorem OfW.win {H:Hp}{ao aw al:Addr}{now:Int}{os ls:List V}{zs:List Zz}{cs:List Cond}{wv:V}{wd:Rat}(o:OfW H ao aw al now os ls zs cs wv wd){K:Ā}{Q:VK}{E:XK}(k:∀p H' rs,H p=none->Same H H'->H' p=some (.lst rs)->Paired (fun v c=>RwV H' now (zs.map (·.1)) v c /\ ∃a,v = .ref a /\ H a=none) rs cs->Q (.ref p) H'):spWin K [.ref ao,.ref al,.int now] H Q E :=
 ⟨ao,al,now,os,ls,zs.map (·.1),cs,rfl,SqL.of o.hO,zJ9 (Paired.mapP o.hP fun _ _ f=>f.of),fun W hW=>by
  obtain⟨z,hz,rfl⟩:=ŀ.mp hW;exact o.okW z hz,by rw[ą];have:=o.w4;lia,SqL.of o.hL,o.hC,o.c8,k⟩
noncomputable def spNa (K:Ā):Sp:=fun vs H Q _=>∃(ao aw al:Addr) (now:Int) (os ls:List V) (zs:List Zz) (cs:List Cond) (wv:V) (wd:Rat) (pt:V) (u:Rat) (vq wq:Nat->Rat) (ap:Addr) (f:Nat->Rat),vs=[.ref ao,.ref aw,.int now,pt,.ref ap] /\ OfW H ao aw al now os ls zs cs wv wd /\ PpV H zs.length cs.length pt u vq wq /\ PpC 2610 zs.length cs.length u vq wq /\ LsF H ap (nR zs.length f) /\ (∀j,j<zs.length->Bd 200 (f j)) /\ ∀b H',Same H H'->(b=true↔∀k,k<zs.length->worQ now cs zs u vq wq k<=f k)->Q (.bl b) H'
noncomputable def spSb (K:Ā):Sp:=fun vs H Q _=>∃(ao aw al:Addr) (now:Int) (os ls:List V) (zs:List Zz) (cs:List Cond) (wv:V) (wd:Rat) (pt:V) (u:Rat) (vq wq:Nat->Rat),vs=[.ref ao,.ref aw,pt] /\ OfW H ao aw al now os ls zs cs wv wd /\ PpV H zs.length cs.length pt u vq wq /\ PpC 2610 zs.length cs.length u vq wq /\ ∀v H',Same H H'->FrV H' v (shwQ zs wd u wq)->Q v H'
noncomputable def BqV (H:Hp)(now:Int)(cs:List Cond)(zs:List Zz)(wd:Rat)(av pt:V)(P:Prop):Prop:=(AfV H zs.length av false /\ ¬P) \/ ∃aa x,av = .ref aa /\ LsF H aa (nR zs.length x) /\ ((IpV H zs.length cs.length pt false /\ ¬P) \/ ∃u vq wq,PpV H zs.length cs.length pt u vq wq /\ PpC 2610 zs.length cs.length u vq wq /\ XC 2610 zs.length x /\ (P↔LetB now cs zs wd u vq wq x))
noncomputable def NqV (H:Hp)(now:Int)(cs:List Cond)(zs:List Zz)(wd:Rat)(pt:V)(P:Prop):Prop:=(IpV H zs.length cs.length pt false /\ ¬P) \/ ∃u vq wq,PpV H zs.length cs.length pt u vq wq /\ PpC 2610 zs.length cs.length u vq wq /\ (P↔LetN now cs zs wd u vq wq)
noncomputable def WdV (H:Hp)(now:Int)(cs:List Cond)(zs:List Zz)(wd:Rat)(v:V)(P:Prop):Prop:=(∃n,tyS H v=some n /\ n ≠ "tuple" /\ ¬P) \/ (∃a xs,v = .ref a /\ H a=some (.tup xs) /\ (xs=[] \/ ∃s,xs=[.str s]) /\ ¬P) \/ (∃a pt,v = .ref a /\ H a=some (.tup [.str "none",pt]) /\ NqV H now cs zs wd pt P) \/ ∃a av pt,v = .ref a /\ H a=some (.tup [.str "blend",av,pt]) /\ BqV H now cs zs wd av pt P
section
variable {H H':Hp}{now:Int}{cs:List Cond}{zs:List Zz}{wd:Rat}{av pt:V}{P:Prop}
theorem BqV.same (h:BqV H now cs zs wd av pt P)(s:Same H H'):BqV H' now cs zs wd av pt P:=by
 rcases h with⟨h1,h2⟩ | ⟨aa,x,e,l,g⟩
 ·exact .inl ⟨h1.same s,h2⟩
 ·refine .inr ⟨aa,x,e,l.same s,?_⟩;rcases g with⟨h1,h2⟩ | ⟨u,vq,wq,h1,h2⟩
  ·exact .inl ⟨h1.same s,h2⟩
  ·exact .inr ⟨u,vq,wq,h1.same s,h2⟩
theorem NqV.same (h:NqV H now cs zs wd pt P)(s:Same H H'):NqV H' now cs zs wd pt P:=by
 rcases h with⟨h1,h2⟩ | ⟨u,vq,wq,h1,h2⟩
 ·exact .inl ⟨h1.same s,h2⟩
 ·exact .inr ⟨u,vq,wq,h1.same s,h2⟩
theorem WdV.same (h:WdV H now cs zs wd pt P)(s:Same H H'):WdV H' now cs zs wd pt P:=by
 rcases h with⟨n,h,g⟩ | ⟨a,xs,e,h,g⟩ | ⟨a,pt,e,h,g⟩ | ⟨a,av,pt,e,h,g⟩
 ·exact .inl ⟨n,zL6 h s,g⟩
 ·exact .inr (.inl ⟨a,xs,e,s _ _ h,g⟩)
 ·exact .inr (.inr (.inl ⟨a,pt,e,s _ _ h,g.same s⟩))
 ·exact .inr (.inr (.inr ⟨a,av,pt,e,s _ _ h,g.same s⟩))
end
noncomputable def spLb (K:Ā):Sp:=fun vs H Q _=>∃(ao aw al:Addr) (now:Int) (os ls:List V) (zs:List Zz) (cs:List Cond) (wv:V) (wd:Rat) (av pt:V) (P:Prop),vs=[.ref ao,.ref aw,.int now,av,pt] /\ OfW H ao aw al now os ls zs cs wv wd /\ BqV H now cs zs wd av pt P /\ ∀b H',Same H H'->(b=true↔P)->Q (.bl b) H'
noncomputable def spLn (K:Ā):Sp:=fun vs H Q _=>∃(ao aw al:Addr) (now:Int) (os ls:List V) (zs:List Zz) (cs:List Cond) (wv:V) (wd:Rat) (pt:V) (P:Prop),vs=[.ref ao,.ref aw,.int now,pt] /\ OfW H ao aw al now os ls zs cs wv wd /\ NqV H now cs zs wd pt P /\ ∀b H',Same H H'->(b=true↔P)->Q (.bl b) H'
noncomputable def spLets (K:Ā):Sp:=fun vs H Q _=>∃(ao aw al:Addr) (now:Int) (os ls:List V) (zs:List Zz) (cs:List Cond) (wv:V) (wd:Rat) (v:V) (P:Prop),vs=[.ref ao,.ref aw,.int now,v] /\ OfW H ao aw al now os ls zs cs wv wd /\ WdV H now cs zs wd v P /\ ∀b H',Same H H'->(b=true↔P)->Q (.bl b) H'
theorem nof {P:Prop}(h:¬P):(false=true↔P):=⟨fun z=>(nomatch z),fun p=>absurd p h⟩
noncomputable def spFr2:Sp:=fun vs H Q _=>∃(a:Addr) (n:Nat) (f:Nat->Rat),vs=[.ref a,.int (n:Nat)] /\ LsF H a (nR n f) /\ n<=30 /\ ∀b H',Same H H'->(b=true↔∀j,j<n->0<=f j)->Q (.bl b) H'
noncomputable def xF4 (K:Ā):Sp:=fun vs H Q _=>∃(ao aw al:Addr) (now:Int) (os ls:List V) (zs:List Zz) (cs:List Cond) (wv:V) (wd:Rat) (pt:V) (u:Rat) (vq wq:Nat->Rat) (ae:Addr) (k:Nat),vs=[pt,.ref ae,.ref al,.int now,.int (k:Nat)] /\ OfW H ao aw al now os ls zs cs wv wd /\ os[k]?=some (.ref ae) /\ PpV H zs.length cs.length pt u vq wq /\ PpS now cs zs wd u vq wq /\ ∀v H',Same H H'->FrV H' v (worQ now cs zs u vq wq k)->Q v H'
noncomputable def spShw (K:Ā):Sp:=fun vs H Q _=>∃(ao aw al:Addr) (now:Int) (os ls:List V) (zs:List Zz) (cs:List Cond) (wv:V) (wd:Rat) (pt:V) (u:Rat) (vq wq:Nat->Rat) (ap:Addr) (f:Nat->Rat),vs=[.ref ao,.ref aw,.int now,pt,.ref ap] /\ OfW H ao aw al now os ls zs cs wv wd /\ PpV H zs.length cs.length pt u vq wq /\ PpC 2610 zs.length cs.length u vq wq /\ LsF H ap (nR zs.length f) /\ (∀j,j<zs.length->Bd 200 (f j)) /\
 ((Nng zs.length cs.length vq wq /\ ∀k,k<zs.length->worQ now cs zs u vq wq k<=f k)->∀v H',Same H H'->FrV H' v (shwQ zs wd u wq)->Q v H') /\ ((¬(Nng zs.length cs.length vq wq /\ ∀k,k<zs.length->worQ now cs zs u vq wq k<=f k))->∀H',Same H H'->Q .non H')
noncomputable def spI2 (zs:List Zz)(wq:Nat->Rat)(j:Nat):I2:=match zs[j]? with | some z=>(0 - (wq j).num*totZ z.1,27720*((wq j).den:Int)) | none=>(0,1)
theorem yZ8 {now:Int}{zs:List Zz}{wq:Nat->Rat}(ok:∀z∈zs,OkW now z.1){i:Nat}(hi:i<=zs.length):sumL ((Đ i).map (spI2 zs wq)) quI = -sN i (fun j=>wq j*ttQ zs j):=by
 rw[zH9,<- zR7];refine Ô fun j hj=>?_;have hj:j<zs.length:=by lia
 have okz:=ok _ (ĥ hj);have e:=ν okz.all;have e1:=Χ (wq j);have n1:=χ (wq j).den_pos;unfold spI2 ttQ;rw[ā hj];show Ċ (0 - (wq j).num*totZ zs[j].1) (27720*((wq j).den:Int)) = -(wq j*totQ zs[j].1);have e3:((27720:Int):Rat)=27720:=rfl;rw[Ħ,Int.zero_sub,Rat.intCast_neg,Ē,Ē,Ĝ,e,e3];generalize (wq j).num=nn at *;rw[<- e1];generalize wq j=r at *
 grind
noncomputable def RtV (H:Hp)(now:Int)(cs:List Cond)(zs:List Zz)(wd:Rat)(t:Addr)(P:Prop):Prop:=(∃pt u vq wq,H t=some (.tup [.str "none",pt]) /\ PpV H zs.length cs.length pt u vq wq /\ PpC 2610 zs.length cs.length u vq wq /\ (P↔LetN now cs zs wd u vq wq)) \/
 ∃pa pt x u vq wq,H t=some (.tup [.str "blend",.ref pa,pt]) /\ LsF H pa (nR zs.length x) /\ XC 2610 zs.length x /\ PpV H zs.length cs.length pt u vq wq /\ PpC 2610 zs.length cs.length u vq wq /\ (P↔LetB now cs zs wd u vq wq x)
theorem RtV.same {H H':Hp}{now:Int}{cs:List Cond}{zs:List Zz}{wd:Rat}{t:Addr}{P:Prop}(h:RtV H now cs zs wd t P)(s:Same H H'):RtV H' now cs zs wd t P:=by
 rcases h with⟨pt,u,vq,wq,h1,h2,h3⟩ | ⟨pa,pt,x,u,vq,wq,h1,h2,h3,h4,h5⟩
 ·exact .inl ⟨pt,u,vq,wq,s _ _ h1,h2.same s,h3⟩
 ·exact .inr ⟨pa,pt,x,u,vq,wq,s _ _ h1,h2.same s,h3,h4.same s,h5⟩
theorem RtV.wd {H:Hp}{now:Int}{cs:List Cond}{zs:List Zz}{wd:Rat}{t:Addr}{P:Prop}(h:RtV H now cs zs wd t P):WdV H now cs zs wd (.ref t) P:=by
 rcases h with⟨pt,u,vq,wq,h1,h2,h3,h4⟩ | ⟨pa,pt,x,u,vq,wq,h1,h2,h3,h4,h5,h6⟩
 ·exact .inr (.inr (.inl ⟨t,pt,rfl,h1,.inr ⟨u,vq,wq,h2,h3,h4⟩⟩))
 ·exact .inr (.inr (.inr ⟨t,_,pt,rfl,h1,.inr ⟨pa,x,rfl,h2,.inr ⟨u,vq,wq,h4,h5,h3,h6⟩⟩⟩))
noncomputable def spRt (K:Ā):Sp:=fun vs H Q _=>∃(ao aw al:Addr) (now:Int) (os ls:List V) (zs:List Zz) (cs:List Cond) (wv:V) (wd:Rat) (tf:Addr) (P:Prop),vs=[.ref tf,.ref ao,.ref aw,.int now] /\ OfW H ao aw al now os ls zs cs wv wd /\ RtV H now cs zs wd tf P /\ ∀b H',Same H H'->(b=true↔P)->Q (.bl b) H'
theorem xC6 {K:Ā}{H:Hp}{a:Addr}{v1 v2:V}{r q:Rat}{D N:Nat}{Q:VK}{E:XK}(ha:H a=some (.lst [v1,v2]))(h1:FrV H v1 r)(h2:FrV H v2 q)(d0:0<D)(dn:D<=N)(hN:N<=2^3000)(c1:Cd D N r)(c2:Cd D N q)(k:∀v H',Same H H'->FrV H' v (r+q)->Q v H'):spLSum K [.ref a] H Q E:=by
 have b1:=c1.bd d0 dn hN;have b2:=c2.bd d0 dn hN;have b3:Bd 3002 (r+q):=(c1.add c2).bd (s:=3001) d0 (by lia) (by rw[ł];lia);have fit:∀{x:Rat},Bd 3001 x->0<((x.num,(x.den:Int)):I2).2 /\ ((x.num,(x.den:Int)):I2).1.natAbs<2^4000 /\ ((x.num,(x.den:Int)):I2).2.natAbs<2^4000:=fun {x} b=>⟨Î x,Ă b.num (Þ (by decide)),Ă b.den (Þ (by decide))⟩;have e2:sumL [((r.num,(r.den:Int)):I2),(q.num,(q.den:Int))] quI=r+q:=by
  rw[ä,ä,yA5,yA5];show r+(q+0)=_;rw[Rat.add_zero]
 refine⟨a,[v1,v2],[(r.num,(r.den:Int)),(q.num,(q.den:Int))],rfl,SqL.of ha,.cons h1 (.cons h2 .nil),fun p hp=>?_,fun k hk=>?_,fun v H' s f=>k v H' s (e2▸f)⟩
 ·rcases Ė.mp hp with e | e
  ·rw[e];exact fit b1
  ·rw[ő.mp e];exact fit b2
 ·match k,hk with
  | 0,_=>exact(show Bd 4000 (0:Rat) from⟨by decide,by decide⟩)
  | 1,_ =>
   show Bd 4000 (sumL [((r.num,(r.den:Int)):I2)] quI);rw[ä,yA5];show Bd 4000 (r+0);rw[Rat.add_zero];exact b1.mono (by decide)
  | 2,_ =>
   show Bd 4000 (sumL [((r.num,(r.den:Int)):I2),(q.num,(q.den:Int))] quI);rw[e2];exact b3.mono (by decide)
  | n+3,hk=>simp at hk
noncomputable def xF5 (K:Ā):Sp:=fun vs H Q _=>∃(aa:Addr) (m:Nat) (x:Nat->Rat) (one oth:Nat) (sh:Int),vs=[.ref aa,.int (one:Nat),.int (oth:Nat),.int sh] /\ one<m /\ oth<m /\ m<=8 /\ 1<=sh /\ sh<=4 /\ LsF H aa (nR m x) /\ XC 2600 m x /\ ∀p H' x',Same H H'->LsF H' p (nR m x')->XC 2610 m x'->Q (.ref p) H'
theorem xL2 (E:Nat)(t:Int):Cd E (t.natAbs*E) (t:Rat):=⟨t*E,by rw[Ē];rfl,by rw[Ĵ];simp⟩
theorem yG1 {t b:Int}(b0:1<=b)(b3:b<=3)(ht:t.natAbs<=40){E:Nat}(e0:0<E):Cd (6*E) (240*E) (Ċ t b):=by
 have e:∀d:Int,b*d=6->0<=d->d<=6->Cd (6*E) (240*E) (Ċ t b):=fun d h h0 h1=>by
  have hb:((b:Int):Rat)≠0:=by
   have:b≠0:=by lia
   exact_mod_cast this
  have h6:((6*E:Nat):Rat)=((b:Int):Rat)*((d:Int):Rat)*((E:Nat):Rat):=by
   rw[į,<- Ē,h];rfl
  refine⟨t*d*E,?_,?_⟩
  ·rw[Ħ,Ē,Ē,h6];have:((E:Int):Rat)=((E:Nat):Rat):=rfl;rw[this]
   grind
  ·rw[Ĵ,Ĵ];exact Ě (ĉ (Ě ht (show d.natAbs<=6 by lia)) (by decide)) (by simp)
 have:b=1 \/ b=2 \/ b=3:=by lia
 rcases this with rfl | rfl | rfl
 ·exact e 6 rfl (by decide) (by decide)
 ·exact e 3 rfl (by decide) (by decide)
 ·exact e 2 rfl (by decide) (by decide)
noncomputable def spNum (K:Ā):Sp:=fun vs H Q _=>∃(c:Int) (nv:V) (r:Rat) (E Y:Nat),vs=[.int c,nv] /\ FrV H nv r /\ 0<E /\ E<=Y /\ Y<=2^2600 /\ Cd E Y r /\ ∀v H' r',Same H H'->FrV H' v r'->Cd (6*E) (246*Y) r'->Q v H'
theorem yR7 (r:Rat)(sh:Int):Ċ (r.num*sh) ((r.den:Int)*4)=r*Ċ sh 4:=by
 rw[<- Š,ġ]
theorem cd4 {sh:Int}(h0:1<=sh)(h4:sh<=4):Cd 4 4 (Ċ sh 4):=⟨sh,by
 rw[Ħ];have:((4:Nat):Rat)=4:=rfl;have:((4:Int):Rat)=4:=rfl
 grind,by lia⟩
theorem yY1 (r:Rat)(c:Int):r.num+c*(r.den:Int)=(r+(c:Rat)).num /\ (r.den:Int)=((r+(c:Rat)).den:Int):=by
 have d:=Î r;have g:ħ (r.num+c*(r.den:Int)) (r.den:Int)=1:=by
  rw[Int.gcd_add_mul_right_left];exact zG0 r
 have e:Ċ (r.num+c*(r.den:Int)) (r.den:Int)=r+(c:Rat):=by
  have e1:=Χ r;have n1:=χ r.den_pos;rw[Ħ,Rat.intCast_add,Ē,Ĝ,<- e1]
  grind
 obtain⟨h1,h2⟩:=low d g;rw[e]at h1 h2;exact⟨h1.symm,h2.symm⟩
noncomputable def spChg (K:Ā):Sp:=fun vs H Q _=>∃(a:Addr) (m:Nat) (f:Nat->Rat) (at':Nat) (ch:Int),vs=[.ref a,.int (at':Nat),.int ch] /\ at'<m /\ m<=8 /\ LsF H a (nR m f) /\ Bd 2700 (f at') /\ ch.natAbs<2^2701 /\ ∀p H',Same H H'->LsF H' p (nR m fun j=>if j=at' then f at'+(ch:Rat) else f j)->Q (.ref p) H'
noncomputable def TwA (H:Hp)(v:V):Prop:=∃a x y,v = .ref a /\ H a=some (.tup [.int x,.int y]) /\ (decide (1<=y)&&decide (dv x y=1))=false
theorem TwA.tup {H H':Hp}{v:V}(h:TwA H v)(s:∀a xs,H a=some (.tup xs)->H' a=some (.tup xs)):TwA H' v:=by obtain⟨a,x,y,e,h1,h2⟩:=h;exact⟨a,x,y,e,s _ _ h1,h2⟩
theorem TwA.fra {H:Hp}{v:V}(h:TwA H v):FrA H v false:=by obtain⟨a,x,y,e,h1,h2⟩:=h;exact .inr (.inl ⟨a,x,y,e,h1,h2.symm⟩)
noncomputable def spTwc:Sp:=fun vs H Q _=>∃(v:V) (r:Rat),vs=[v] /\ FrV H v r /\ Bd 2700 r /\ ∀p H',Same H H'->TwA H' (.ref p)->Q (.ref p) H'
theorem yO2 {H:Hp}{p:Addr}{r:Rat}(h:H p=some (.tup [.int (2*r.num),.int (2*(r.den:Int))])):TwA H (.ref p):=by
 refine⟨p,_,_,rfl,h,?_⟩;have d:=Î r;rw[zL2 (by lia),Int.gcd_mul_left,zG0 r];simp
noncomputable def OdV (H:Hp)(v:V):Prop:=∀(now:Int) (cs:List Cond) (zs:List Zz) (wd:Rat),1<=zs.length->WdV H now cs zs wd v False
theorem yB7 {H:Hp}{v:V}{n:String}(h:tyS H v=some n)(hn:n ≠ "tuple"):OdV H v:=fun _ _ _ _ _=>.inl ⟨n,h,hn,id⟩
theorem yM1 {H:Hp}{a:Addr}{xs:List V}(h:H a=some (.tup xs))(hx:xs=[] \/ ∃s,xs=[.str s]):OdV H (.ref a):=fun _ _ _ _ _=>.inr (.inl ⟨a,xs,rfl,h,hx,id⟩)
noncomputable def xF6 (K:Ā):Sp:=fun vs H Q _=>∃c:Int,vs=[.int c] /\ ∀v H',Same H H'->OdV H' v->Q v H'
noncomputable def SdV (H:Hp)(now:Int)(cs:List Cond)(zs:List Zz)(wd:Rat)(t:Addr):Prop:=(∃pt u vq wq,H t=some (.tup [.str "none",pt]) /\ PpV H zs.length cs.length pt u vq wq /\ PpC 2600 zs.length cs.length u vq wq /\ LetN now cs zs wd u vq wq) \/
 ∃pa pt x u vq wq,H t=some (.tup [.str "blend",.ref pa,pt]) /\ LsF H pa (nR zs.length x) /\ XC 2600 zs.length x /\ PpV H zs.length cs.length pt u vq wq /\ PpC 2600 zs.length cs.length u vq wq /\ LetB now cs zs wd u vq wq x
theorem SdV.same {H H':Hp}{now:Int}{cs:List Cond}{zs:List Zz}{wd:Rat}{t:Addr}(h:SdV H now cs zs wd t)(s:Same H H'):SdV H' now cs zs wd t:=by
 rcases h with⟨pt,u,vq,wq,h1,h2,h3⟩ | ⟨pa,pt,x,u,vq,wq,h1,h2,h3,h4,h5⟩
 ·exact .inl ⟨pt,u,vq,wq,s _ _ h1,h2.same s,h3⟩
 ·exact .inr ⟨pa,pt,x,u,vq,wq,s _ _ h1,h2.same s,h3,h4.same s,h5⟩
theorem PpC.mono {e e' m n:Nat}{u:Rat}{vq wq:Nat->Rat}(h:PpC e m n u vq wq)(l:e<=e'):PpC e' m n u vq wq:=by
 obtain⟨E,Y,h0,h1,h2,h3⟩:=h;exact⟨E,Y,h0,h1,ĉ h2 (Þ l),h3⟩
theorem XC.mono {e e' m:Nat}{x:Nat->Rat}(h:XC e m x)(l:e<=e'):XC e' m x:=by
 obtain⟨E,Y,h0,h1,h2,h3⟩:=h;exact⟨E,Y,h0,h1,ĉ h2 (Þ l),h3⟩
theorem SdV.rt {H:Hp}{now:Int}{cs:List Cond}{zs:List Zz}{wd:Rat}{t:Addr}(h:SdV H now cs zs wd t):RtV H now cs zs wd t True:=by
 rcases h with⟨pt,u,vq,wq,h1,h2,h3,h4⟩ | ⟨pa,pt,x,u,vq,wq,h1,h2,h3,h4,h5,h6⟩
 ·exact .inl ⟨pt,u,vq,wq,h1,h2,h3.mono (by decide),fun _=>h4,fun _=>trivial⟩
 ·exact .inr ⟨pa,pt,x,u,vq,wq,h1,h2,h3.mono (by decide),h4,h5.mono (by decide),fun _=>h6,fun _=>trivial⟩
noncomputable def FrL (H:Hp)(E Y:Nat)(v:V):Prop:=∃r,FrV H v r /\ Cd E Y r
noncomputable def PpL (H:Hp)(E Y n:Nat)(l:Addr):Prop:=∃f,LsF H l (nR n f) /\ ∀i,i<n->Cd E Y (f i)
theorem PpL.same {H H':Hp}{E Y n:Nat}{l:Addr}(h:PpL H E Y n l)(s:Same H H'):PpL H' E Y n l:=by obtain⟨f,h1,h2⟩:=h;exact⟨f,h1.same s,h2⟩
theorem FrL.same {H H':Hp}{E Y:Nat}{v:V}(h:FrL H E Y v)(s:Same H H'):FrL H' E Y v:=by obtain⟨f,h1,h2⟩:=h;exact⟨f,h1.same s,h2⟩
theorem wdb {H:Hp}{now:Int}{cs:List Cond}{zs:List Zz}{wd:Rat}{p:Addr}{av pt:V}{P:Prop}(h:H p=some (.tup [.str "blend",av,pt]))(b:BqV H now cs zs wd av pt P):WdV H now cs zs wd (.ref p) P:=.inr (.inr (.inr ⟨p,av,pt,rfl,h,b⟩))
theorem wdno {H:Hp}{now:Int}{cs:List Cond}{zs:List Zz}{wd:Rat}{p:Addr}{pt:V}{P:Prop}(h:H p=some (.tup [.str "none",pt]))(b:NqV H now cs zs wd pt P):WdV H now cs zs wd (.ref p) P:=.inr (.inr (.inl ⟨p,pt,rfl,h,b⟩))
theorem yU8 (us:List V):(cutV us none (some (-1))).length=us.length - 1:=by
 unfold cutV;have e:HT.sIx us.length us.length (some (-1))=us.length - 1:=by
  show (if (-1:Int)<0 then ((-1:Int)+(us.length:Int)).toNat else min (-1:Int).toNat us.length)=_;rw[if_pos (by decide)];lia
 rw[e,HT.sIx_none,Ĥ,List.length_drop];lia
theorem tw_all {H:Hp}:∀{ws:List V},(∀y∈ws,TwA H y)->Paired (FrA H) ws (ď ws.length false)
 | [],_=>.nil
 | y::ws,h=>.cons (h y Ĉ).fra (tw_all fun z hz=>h z (ć _ hz))
theorem xD9 {n:Nat}(h:1<=n):(ď n false).all id=false:=by
 cases n with
 | zero=>lia
 | succ n=>rfl
theorem xK3 (r:Rat):r+((0 - 1 - r.num.fdiv (r.den:Int):Int):Rat)<0:=by
 have d:=Î r;have h:=Int.lt_ediv_add_one_mul_self r.num d;rw[<- Ŀ _ (by lia)]at h;have e1:=Χ r;have dq:(0:Rat)<(r.den:Rat):=by exact_mod_cast r.den_pos
 have h2:((r.num:Int):Rat)<(((r.num.fdiv (r.den:Int)+1)*(r.den:Int):Int):Rat):=by exact_mod_cast h
 rw[Ē,Rat.intCast_add,Ĝ,<- e1]at h2;have e0:((0 - 1 - r.num.fdiv (r.den:Int):Int):Rat) = -1 - ((r.num.fdiv (r.den:Int):Int):Rat):=by
  rw[Rat.intCast_sub];rfl
 rw[e0];have o1:((1:Int):Rat)=1:=rfl;rw[o1]at h2;generalize ((r.num.fdiv (r.den:Int):Int):Rat)=z at *;have h3:r<z+1:=by
  refine Rat.not_le.mp fun g=>?_;have:=œ g (Ŗ dq);exact absurd h2 (ĵ.mpr this)
 grind
theorem yY9 {K:Ā}{H:Hp}{a D:Addr}{xs:List V}{Z:Hp->Prop}(ha:H a=some (.lst xs))(hD:H D=none)(l8:xs.length<=8)(h:∀H',Same H H'->LsF H' D (nR xs.length fun _=>0)->Z H'):zM3 (Itl K a) (yN9 0) xE6 (tTup (ι (tC (.int 0)) (ι (tC (.int 1)) tNil))) D Z [none] (upd H D (.lst [])):=by
 refine æ (xs:=xs) (fun j σ' H'=>∃(v:Option V) (qs:List V),σ'=[v] /\ Same H H' /\ H' D=some (.lst qs) /\ Paired (FrV H') qs (nR j fun _=>0)) ⟨none,[],rfl,Same.upd hD,Ã,.nil⟩ ?_ ?_ ?_
 ·rintro j σ' H' hj ⟨v,qs,rfl,s2,hd,hF⟩;exact SqL.of (s2 _ _ ha)
 ·rintro j y σ' H' hy ⟨v,qs,rfl,s2,hd,hF⟩;have hj:j<xs.length:=(Ą.mp hy).1;have lQ:qs.length=j:=hF.length.trans (Ý j _);refine⟨sz (by simp),fun p1 hp1=>?_⟩;have t1:=Same.upd (o:=.tup [.int 0,.int 1]) hp1;have hd1:=t1 _ _ hd;refine⟨_,hd1,sz (by lia),_,qs++[.ref p1],rfl,(s2.trans t1).updD hD,Ã,?_⟩;rw[Ŵ];have tu:=ð (o:=.lst (qs++[.ref p1])) hd1 (fun _ z=>nomatch z);have f1:FrV (upd H' p1 (.tup [.int 0,.int 1])) (.ref p1) 0:=FrV.newOf rfl rfl;exact Paired.snoc (Paired.mapP hF fun _ _ f=>(f.same t1).tup tu) (f1.tup tu)
 rintro σ' H2 ⟨v,qs,rfl,s2,hd,hF⟩;exact h H2 s2 ⟨qs,hd,hF⟩
theorem xN0 {P F:Hp->Prop}{Hb:Hp}(s:F Hb)(body:∀Hn,F Hn->P Hn):P Hb:=body Hb s
theorem xP1 (ns:List Int):∃ms:List Int,cutV (ns.map V.int) (some 15) (some 40)=ms.map V.int /\ ms.length<=40:=by
 have e1:HT.sIx (ns.map V.int).length 0 (some 15)=min 15 (ns.map V.int).length:=HT.sIx_nat _ _ 15;have e2:HT.sIx (ns.map V.int).length (ns.map V.int).length (some 40)=min 40 (ns.map V.int).length:=HT.sIx_nat _ _ 40;refine⟨(ns.drop (HT.sIx (ns.map V.int).length 0 (some 15))).take (HT.sIx (ns.map V.int).length (ns.map V.int).length (some 40) - HT.sIx (ns.map V.int).length 0 (some 15)),?_,?_⟩
 ·unfold cutV;rw[Ţ,List.map_drop]
 ·rw[Ĥ,e1,e2];lia
theorem cut4 {ms:List Int}{k:Nat}(h:k+4<=ms.length):∃c0 c1 c2 c3:Int,cutV (ms.map V.int) (some (k:Int)) (some ((k:Int)+4))=[.int c0,.int c1,.int c2,.int c3]:=by
 have l:(ms.map V.int).length=ms.length:=ą ..;have e1:HT.sIx (ms.map V.int).length 0 (some (k:Int))=k:=by rw[HT.sIx_nat];lia
 have e2:HT.sIx (ms.map V.int).length (ms.map V.int).length (some ((k:Int)+4))=k+4:=by
  rw[show (k:Int)+4=((k+4:Nat):Int) by lia,HT.sIx_nat];lia
 have e3:cutV (ms.map V.int) (some (k:Int)) (some ((k:Int)+4))=((ms.drop k).take 4).map V.int:=by
  unfold cutV;rw[e1,e2,show k+4 - k=4 by lia,Ţ,List.map_drop]
 have l4:((ms.drop k).take 4).length=4:=by rw[Ĥ,List.length_drop];lia
 rw[e3]
 match (ms.drop k).take 4,l4 with
 | [a,b,c,d],_=>exact⟨a,b,c,d,rfl⟩
noncomputable def spOp (K:Ā):Sp:=fun vs H Q _=>∃(pt:V) (m n:Nat) (u:Rat) (vq wq:Nat->Rat) (ac:Addr) (c0 c1 c2 c3:Int),vs=[pt,.ref ac] /\ PpV H m n pt u vq wq /\ PpC 2600 m n u vq wq /\ 1<=m /\ m<=8 /\ n<=8 /\ H ac=some (.lst [.int c0,.int c1,.int c2,.int c3]) /\ ∀t H' u' vq' wq',Same H H'->PpV H' m n (.ref t) u' vq' wq'->PpC 2610 m n u' vq' wq'->Q (.ref t) H'
noncomputable def spOw (K:Ā):Sp:=fun vs H Q _=>∃(t ao:Addr) (os:List V) (now:Int) (cs:List Cond) (zs:List Zz) (wd:Rat) (ac:Addr) (c0 c1 c2 c3:Int),vs=[.ref t,.ref ao,.ref ac] /\ H ao=some (.lst os) /\ os.length=zs.length /\ 1<=zs.length /\ zs.length<=4 /\ cs.length<=8 /\ SdV H now cs zs wd t /\ H ac=some (.lst [.int c0,.int c1,.int c2,.int c3]) /\ ∀t' H' P,Same H H'->RtV H' now cs zs wd t' P->Q (.ref t') H'
noncomputable def spOr (K:Ā):Sp:=fun vs H Q _=>∃(ao aw al:Addr) (now:Int) (os ls:List V) (zs:List Zz) (cs:List Cond) (wv:V) (wd:Rat) (t a:Addr) (ns:List Int),vs=[.ref ao,.ref aw,.int now,.ref t,.ref a] /\ OfW H ao aw al now os ls zs cs wv wd /\ SdV H now cs zs wd t /\ SqL K H a (ns.map V.int) /\ ∀H',Same H H'->Q (.bl true) H'
noncomputable def spSpB (K:Ā):Sp:=fun vs H Q _=>∃(ao aw al:Addr) (now:Int) (os ls:List V) (zs:List Zz) (cs:List Cond) (wv:V) (wd:Rat) (t:Addr) (way at':Int) (pa:Addr) (pt:V) (x:Nat->Rat) (u:Rat) (vq wq:Nat->Rat),vs=[.ref t,.int way,.int at'] /\ OfW H ao aw al now os ls zs cs wv wd /\ H t=some (.tup [.str "blend",.ref pa,pt]) /\ LsF H pa (nR zs.length x) /\ XC 2600 zs.length x /\ PpV H zs.length cs.length pt u vq wq /\ PpC 2600 zs.length cs.length u vq wq /\ LetB now cs zs wd u vq wq x /\ ∀v H',Same H H'->WdV H' now cs zs wd v False->Q v H'
noncomputable def spSpN (K:Ā):Sp:=fun vs H Q _=>∃(ao aw al:Addr) (now:Int) (os ls:List V) (zs:List Zz) (cs:List Cond) (wv:V) (wd:Rat) (t:Addr) (way at':Int) (pt:V) (u:Rat) (vq wq:Nat->Rat),vs=[.ref t,.int way,.int at'] /\ OfW H ao aw al now os ls zs cs wv wd /\ H t=some (.tup [.str "none",pt]) /\ PpV H zs.length cs.length pt u vq wq /\ PpC 2600 zs.length cs.length u vq wq /\ LetN now cs zs wd u vq wq /\ ∀v H',Same H H'->WdV H' now cs zs wd v False->Q v H'
theorem spA0.mk {H:Hp}{Q:VK}{Ez:XK}{v:V}{m:Nat}{b:Bool}(h0:m<=30)(h1:A0V H m v b)(h2:∀H',Same H H'->Q (.bl b) H'):spA0 [v,.int (m:Nat)] H Q Ez:=⟨v,m,b,rfl,h0,h1,h2⟩
theorem spAms.mk {H:Hp}{Q:VK}{Ez:XK}{a ab:Addr}{mm n r w:Nat}{M:Nat->Nat->Rat}{B:Nat->Nat}(h0:MatAt H a r (n+1) M)(h1:mm<=r)(h2:H ab=some (.lst (ñ mm B)))(h3:r<=30)(h4:n+1<=30)(h5:w<=30)(h6:∀p H' x,H p=none->Same H H'->LsF H' p (nR w x)->(∀j,j<w->(∃l,l<mm /\ B l=j /\ x j=M l n /\ ∀i,i<mm->B i=j->i<=l) \/ (x j=0 /\ ∀l,l<mm->B l≠j))->Q (.ref p) H'):spAms [.ref a,.ref ab,.int (w:Nat)] H Q Ez:=⟨a,ab,mm,n,r,w,M,B,rfl,h0,h1,h2,h3,h4,h5,h6⟩
theorem spBal.mk {H:Hp}{Q:VK}{Ez:XK}{v w:V}{now:Int}{c:Cond}{W:List Ent}(h0:RepC H c v)(h1:Bd 200 c.rat)(h2:WnV H w W)(h3:OkW now W)(h4:∀u H',Same H H'->FrV H' u (balQ now c W)->Q u H'):spBal [v,w,.int now] H Q Ez:=⟨v,w,now,c,W,rfl,h0,h1,h2,h3,h4⟩
theorem spBl.mk {H:Hp}{Q:VK}{Ez:XK}{ao aw al:Addr}{now:Int}{os ls:List V}{zs:List Zz}{cs:List Cond}{wv:V}{wd:Rat}{D N:Nat}(h0:H ao=some (.lst os))(h1:Paired (OfP H) os zs)(h2:(∀z∈zs,OkW now z.1))(h3:1<=zs.length)(h4:zs.length<=8)(h5:H aw=some (.tup [wv,.ref al]))(h6:FrV H wv wd)(h7:H al=some (.lst ls))(h8:Paired (CdV H) ls cs)(h9:cs.length<=8)(h10:BlS now cs zs wd D N)(h11:(∀t pt c H',Same H H'->H' t=some (.tup [.str "none",pt])->PapV H' zs.length cs.length pt 1 c->Dual now cs zs wd (ż zs.length cs.length) c->(∀y,¬FsZ now cs zs wd y)->c (2*zs.length+cs.length+1)<0->Q (.ref t) H'))(h12:∀t pa pt c x H',Same H H'->H' t=some (.tup [.str "blend",.ref pa,pt])->LsF H' pa (nR zs.length x)->PapV H' zs.length cs.length pt 0 c->Dual now cs zs wd (prQ zs) c->FsZ now cs zs wd x->(∀y,FsZ now cs zs wd y->sN zs.length (fun j=>prQ zs j*x j)<=sN zs.length (fun j=>prQ zs j*y j))->(∃E',0<E' /\ E'<=N*((zs.length+cs.length+1)*N)^(zs.length+cs.length+1) /\ ∀j,j<zs.length->Cd E' (N*((zs.length+cs.length+1)*N)^(zs.length+cs.length+1)) (x j))->sN zs.length (fun j=>prQ zs j*x j) = -c (2*zs.length+cs.length+1)->Q (.ref t) H'):spBl [.ref ao,.ref aw,.int now] H Q Ez:=⟨ao,aw,al,now,os,ls,zs,cs,wv,wd,D,N,rfl,h0,h1,h2,h3,h4,h5,h6,h7,h8,h9,h10,h11,h12⟩
theorem spChg.mk {K:Ā}{H:Hp}{Q:VK}{Ez:XK}{a:Addr}{m:Nat}{f:Nat->Rat}{at':Nat}{ch:Int}(h0:at'<m)(h1:m<=8)(h2:LsF H a (nR m f))(h3:Bd 2700 (f at'))(h4:ch.natAbs<2^2701)(h5:∀p H',Same H H'->LsF H' p (nR m fun j=>if j=at' then f at'+(ch:Rat) else f j)->Q (.ref p) H'):spChg K [.ref a,.int (at':Nat),.int ch] H Q Ez:=⟨a,m,f,at',ch,rfl,h0,h1,h2,h3,h4,h5⟩
theorem spCond2.mk {H:Hp}{Q:VK}{Ez:XK}{n now:Int}{a:Addr}{zs:List Str}(h0:H a=some (.lst (zs.map V.str)))(h1:zs.length=3)(h2:∀v H' c,Same H H'->RepC H' c v->Bd 200 c.rat->OkR c.rat->Q v H'):spCond2 [.int n,.ref a,.int now] H Q Ez:=⟨n,now,a,zs,rfl,h0,h1,h2⟩
theorem spEnt.mk {H:Hp}{Q:VK}{Ez:XK}{a:Addr}{m k:Nat}{f:Nat->Rat}(h0:LsF H a (nR m f))(h1:k<=m)(h2:m<=1000)(h3:(∀j:Nat,j<k->f j<0->(∀i,i<j->0<=f i)->Q (.int (j:Nat)) H))(h4:((∀i,i<k->0<=f i)->Q .non H)):spEnt [.ref a,.int (k:Nat)] H Q Ez:=⟨a,m,k,f,rfl,h0,h1,h2,h3,h4⟩
theorem spFirst.mk {K:Ā}{H:Hp}{Q:VK}{Ez:XK}{ao aw al:Addr}{now:Int}{os ls:List V}{zs:List Zz}{cs:List Cond}{wv:V}{wd:Rat}(h0:H ao=some (.lst os))(h1:Paired (OfP H) os zs)(h2:(∀z∈zs,OkW now z.1))(h3:zs.length<=8)(h4:H aw=some (.tup [wv,.ref al]))(h5:FrV H wv wd)(h6:H al=some (.lst ls))(h7:Paired (CdV H) ls cs)(h8:cs.length<=8)(h9:∀p H',H p=none->Same H H'->MatAt H' p (zs.length+cs.length+1) (2*zs.length+cs.length+2) (frM now cs zs wd)->Q (.ref p) H'):spFirst K [.ref ao,.ref aw,.int now] H Q Ez:=⟨ao,aw,al,now,os,ls,zs,cs,wv,wd,rfl,h0,h1,h2,h3,h4,h5,h6,h7,h8,h9⟩
theorem spFr2.mk {H:Hp}{Q:VK}{Ez:XK}{a:Addr}{n:Nat}{f:Nat->Rat}(h0:LsF H a (nR n f))(h1:n<=30)(h2:∀b H',Same H H'->(b=true↔∀j,j<n->0<=f j)->Q (.bl b) H'):spFr2 [.ref a,.int (n:Nat)] H Q Ez:=⟨a,n,f,rfl,h0,h1,h2⟩
theorem spIb.mk {K:Ā}{H:Hp}{Q:VK}{Ez:XK}{ao aw al:Addr}{now:Int}{os ls:List V}{zs:List Zz}{cs:List Cond}{wv:V}{wd:Rat}{aa:Addr}{x:Nat->Rat}(h0:OfW H ao aw al now os ls zs cs wv wd)(h1:LsF H aa (nR zs.length x))(h2:XC 2610 zs.length x)(h3:∀b H',Same H H'->(b=true↔FsZ now cs zs wd x)->Q (.bl b) H'):spIb K [.ref ao,.ref aw,.int now,.ref aa] H Q Ez:=⟨ao,aw,al,now,os,ls,zs,cs,wv,wd,aa,x,rfl,h0,h1,h2,h3⟩
theorem spIp.mk {H:Hp}{Q:VK}{Ez:XK}{ao aw al:Addr}{os ls:List V}{wv pt:V}{b:Bool}(h0:H ao=some (.lst os))(h1:H aw=some (.tup [wv,.ref al]))(h2:H al=some (.lst ls))(h3:os.length<=8)(h4:ls.length<=8)(h5:IpV H os.length ls.length pt b)(h6:∀H',Same H H'->Q (.bl b) H'):spIp [.ref ao,.ref aw,pt] H Q Ez:=⟨ao,aw,al,os,ls,wv,pt,b,rfl,h0,h1,h2,h3,h4,h5,h6⟩
theorem spIsB2.mk {K:Ā}{H:Hp}{Q:VK}{Ez:XK}{ao aw al aa:Addr}{now:Int}{os ls:List V}{zs:List Zz}{cs:List Cond}{wv:V}{wd:Rat}{x:Nat->Rat}(h0:H ao=some (.lst os))(h1:Paired (OfP H) os zs)(h2:(∀z∈zs,OkW now z.1))(h3:zs.length<=8)(h4:H aw=some (.tup [wv,.ref al]))(h5:FrV H wv wd)(h6:H al=some (.lst ls))(h7:Paired (CdV H) ls cs)(h8:cs.length<=8)(h9:LsF H aa (nR zs.length x))(h10:(∀j,j<zs.length->Bd 2700 (x j)))(h11:(∀k,k<=zs.length->Bd 4000 (sN k x)))(h12:(∀cc∈cs,∀k,k<=zs.length->Bd 4000 (sumL ((Đ k).map (kpI now cc zs x)) quI)))(h13:(FsZ now cs zs wd x->∀H',Same H H'->Q (.bl true) H'))(h14:(¬FsZ now cs zs wd x->∀H',Same H H'->Q (.bl false) H')):spIsB2 K [.ref ao,.ref aw,.int now,.ref aa] H Q Ez:=⟨ao,aw,al,aa,now,os,ls,zs,cs,wv,wd,x,rfl,h0,h1,h2,h3,h4,h5,h6,h7,h8,h9,h10,h11,h12,h13,h14⟩
theorem spKept2.mk {K:Ā}{H:Hp}{Q:VK}{Ez:XK}{ao al aa:Addr}{now:Int}{os ls:List V}{zs:List Zz}{cs:List Cond}{x:Nat->Rat}(h0:H ao=some (.lst os))(h1:Paired (OfP H) os zs)(h2:(∀z∈zs,OkW now z.1))(h3:zs.length<=8)(h4:H al=some (.lst ls))(h5:Paired (CdV H) ls cs)(h6:cs.length<=8)(h7:LsF H aa (nR zs.length x))(h8:(∀j,j<zs.length->Bd 2700 (x j)))(h9:(∀cc∈cs,∀k,k<=zs.length->Bd 4000 (sumL ((Đ k).map (kpI now cc zs x)) quI)))(h10:((∀c,c<cs.length->0<=sN zs.length (fun j=>wtQ now cs zs c j*x j))->∀H',Same H H'->Q (.bl true) H'))(h11:((¬∀c,c<cs.length->0<=sN zs.length (fun j=>wtQ now cs zs c j*x j))->∀H',Same H H'->Q (.bl false) H')):spKept2 K [.ref ao,.ref al,.int now,.ref aa] H Q Ez:=⟨ao,al,aa,now,os,ls,zs,cs,x,rfl,h0,h1,h2,h3,h4,h5,h6,h7,h8,h9,h10,h11⟩
theorem spLCost.mk {K:Ā}{H:Hp}{Q:VK}{Ez:XK}{ao aa:Addr}{os:List V}{zs:List Zz}{x:Nat->Rat}(h0:H ao=some (.lst os))(h1:Paired (OfP H) os zs)(h2:LsF H aa (nR zs.length x))(h3:zs.length<=4)(h4:(∀z∈zs,PrOk z.2))(h5:(∀j,j<zs.length->Bd 2700 (x j)))(h6:(∀k,k<=zs.length->Bd 4000 (sN k fun j=>prQ zs j*x j)))(h7:∀v H',Same H H'->FrV H' v (sN zs.length fun j=>prQ zs j*x j)->Q v H'):spLCost K [.ref ao,.ref aa] H Q Ez:=⟨ao,aa,os,zs,x,rfl,h0,h1,h2,h3,h4,h5,h6,h7⟩
theorem spLSum.mk {K:Ā}{H:Hp}{Q:VK}{Ez:XK}{a:Addr}{xs:List V}{ps:List I2}(h0:SqL K H a xs)(h1:Paired (PrI H) xs ps)(h2:(∀p∈ps,0<p.2 /\ p.1.natAbs<2^4000 /\ p.2.natAbs<2^4000))(h3:(∀k,k<=ps.length->Bd 4000 (sumL (ps.take k) quI)))(h4:∀v H',Same H H'->FrV H' v (sumL ps quI)->Q v H'):spLSum K [.ref a] H Q Ez:=⟨a,xs,ps,rfl,h0,h1,h2,h3,h4⟩
theorem spLTot.mk {H:Hp}{Q:VK}{Ez:XK}{w:V}{now:Int}{W:List Ent}(h0:WnV H w W)(h1:OkW now W)(h2:∀H',Same H H'->Q (.int (totZ W)) H'):spLTot [w] H Q Ez:=⟨w,now,W,rfl,h0,h1,h2⟩
theorem spLab2.mk {K:Ā}{H:Hp}{Q:VK}{Ez:XK}{a:Addr}{ns:List Int}{at' ms:Int}{an:Addr}{zs:List Str}{now:Int}(h0:SqL K H a (ns.map V.int))(h1:0<=at')(h2:at'<=100)(h3:0<=ms)(h4:ms<=5)(h5:H an=some (.lst (zs.map V.str)))(h6:zs.length=3)(h7:∀p H' ls cs,H p=none->Same H H'->H' p=some (.lst ls)->Paired (CdV H') ls cs->(cs.length:Int)<=ms->(∀c∈cs,OkR c.rat)->Q (.ref p) H'):spLab2 K [.ref a,.int at',.int ms,.ref an,.int now] H Q Ez:=⟨a,ns,at',ms,an,zs,now,rfl,h0,h1,h2,h3,h4,h5,h6,h7⟩
theorem spLack.mk {H:Hp}{Q:VK}{Ez:XK}{a:Addr}{n:Nat}{f:Nat->Rat}(h0:LsF H a (nR (n+2) f))(h1:n+2<=30)(h2:(∀j,j<n+2->Bd 8000 (f j)))(h3:∀p H',H p=none->Same H H'->LsF H' p (nR (n+2) fun j=>if j=n then 0 else 0 - f j)->Q (.ref p) H'):spLack [.ref a] H Q Ez:=⟨a,n,f,rfl,h0,h1,h2,h3⟩
theorem spLb.mk {K:Ā}{H:Hp}{Q:VK}{Ez:XK}{ao aw al:Addr}{now:Int}{os ls:List V}{zs:List Zz}{cs:List Cond}{wv:V}{wd:Rat}{av pt:V}{P:Prop}(h0:OfW H ao aw al now os ls zs cs wv wd)(h1:BqV H now cs zs wd av pt P)(h2:∀b H',Same H H'->(b=true↔P)->Q (.bl b) H'):spLb K [.ref ao,.ref aw,.int now,av,pt] H Q Ez:=⟨ao,aw,al,now,os,ls,zs,cs,wv,wd,av,pt,P,rfl,h0,h1,h2⟩
theorem spLeav.mk {H:Hp}{Q:VK}{Ez:XK}{a ab:Addr}{r m mm k:Nat}{M:Nat->Nat->Rat}{B:Nat->Nat}(h0:MatAt H a r m M)(h1:H ab=some (.lst ((Đ mm).map fun i=>V.int (B i:Nat))))(h2:mm<=r)(h3:r<=30)(h4:k<m)(h5:m<=30)(h6:(∀i,i<mm->Bd 8000 (M i (m - 1)) /\ Bd 8000 (M i k) /\ Bd 8000 (M i (m - 1) / M i k)))(h7:(∃i,i<mm /\ 0<M i k))(h8:∀i H',i<mm->0<M i k->(∀l,l<mm->0<M l k->M i (m - 1)*M l k<=M l (m - 1)*M i k /\ (M i (m - 1)*M l k=M l (m - 1)*M i k->B i<=B l))->Same H H'->Q (.int (i:Nat)) H'):spLeav [.ref a,.ref ab,.int (k:Nat)] H Q Ez:=⟨a,ab,r,m,mm,k,M,B,rfl,h0,h1,h2,h3,h4,h5,h6,h7,h8⟩
theorem spLess.mk {H:Hp}{Q:VK}{Ez:XK}{a b:Addr}{fv:V}{m:Nat}{f g:Nat->Rat}{t:Rat}(h0:LsF H a (nR m f))(h1:LsF H b (nR m g))(h2:FrV H fv t)(h3:m<=30)(h4:Bd 8000 t)(h5:(∀j,j<m->Bd 8000 (f j) /\ Bd 8000 (g j) /\ Bd 8000 (g j*t)))(h6:∀p H',H p=none->Same H H'->LsF H' p (nR m fun j=>f j - g j*t)->Q (.ref p) H'):spLess [.ref a,.ref b,fv] H Q Ez:=⟨a,b,fv,m,f,g,t,rfl,h0,h1,h2,h3,h4,h5,h6⟩
theorem spLets.mk {K:Ā}{H:Hp}{Q:VK}{Ez:XK}{ao aw al:Addr}{now:Int}{os ls:List V}{zs:List Zz}{cs:List Cond}{wv:V}{wd:Rat}{v:V}{P:Prop}(h0:OfW H ao aw al now os ls zs cs wv wd)(h1:WdV H now cs zs wd v P)(h2:∀b H',Same H H'->(b=true↔P)->Q (.bl b) H'):spLets K [.ref ao,.ref aw,.int now,v] H Q Ez:=⟨ao,aw,al,now,os,ls,zs,cs,wv,wd,v,P,rfl,h0,h1,h2⟩
theorem spLn.mk {K:Ā}{H:Hp}{Q:VK}{Ez:XK}{ao aw al:Addr}{now:Int}{os ls:List V}{zs:List Zz}{cs:List Cond}{wv:V}{wd:Rat}{pt:V}{P:Prop}(h0:OfW H ao aw al now os ls zs cs wv wd)(h1:NqV H now cs zs wd pt P)(h2:∀b H',Same H H'->(b=true↔P)->Q (.bl b) H'):spLn K [.ref ao,.ref aw,.int now,pt] H Q Ez:=⟨ao,aw,al,now,os,ls,zs,cs,wv,wd,pt,P,rfl,h0,h1,h2⟩
theorem spLowest2.mk {H:Hp}{Q:VK}{Ez:XK}{t b:Int}(h0:0<b)(h1:b.natAbs<2^9000)(h2:∀v H',Same H H'->FrV H' v (Ċ t b)->Q v H'):spLowest2 [.int t,.int b] H Q Ez:=⟨t,b,rfl,h0,h1,h2⟩
theorem spMixed2.mk {H:Hp}{Q:VK}{Ez:XK}{c j:Int}(h0:(0<=j /\ j<4))(h1:∀(m:Int) H',0<=m->m<65551->Same H H'->Q (.int m) H'):spMixed2 [.int c,.int j] H Q Ez:=⟨c,j,rfl,h0,h1⟩
theorem spNa.mk {K:Ā}{H:Hp}{Q:VK}{Ez:XK}{ao aw al:Addr}{now:Int}{os ls:List V}{zs:List Zz}{cs:List Cond}{wv:V}{wd:Rat}{pt:V}{u:Rat}{vq wq:Nat->Rat}{ap:Addr}{f:Nat->Rat}(h0:OfW H ao aw al now os ls zs cs wv wd)(h1:PpV H zs.length cs.length pt u vq wq)(h2:PpC 2610 zs.length cs.length u vq wq)(h3:LsF H ap (nR zs.length f))(h4:(∀j,j<zs.length->Bd 200 (f j)))(h5:∀b H',Same H H'->(b=true↔∀k,k<zs.length->worQ now cs zs u vq wq k<=f k)->Q (.bl b) H'):spNa K [.ref ao,.ref aw,.int now,pt,.ref ap] H Q Ez:=⟨ao,aw,al,now,os,ls,zs,cs,wv,wd,pt,u,vq,wq,ap,f,rfl,h0,h1,h2,h3,h4,h5⟩
theorem spNum.mk {K:Ā}{H:Hp}{Q:VK}{Ez:XK}{c:Int}{nv:V}{r:Rat}{E Y:Nat}(h0:FrV H nv r)(h1:0<E)(h2:E<=Y)(h3:Y<=2^2600)(h4:Cd E Y r)(h5:∀v H' r',Same H H'->FrV H' v r'->Cd (6*E) (246*Y) r'->Q v H'):spNum K [.int c,nv] H Q Ez:=⟨c,nv,r,E,Y,rfl,h0,h1,h2,h3,h4,h5⟩
theorem spOff4.mk {K:Ā}{H:Hp}{Q:VK}{Ez:XK}{a:Addr}{ns:List Int}{at':Int}{an:Addr}{zs:List Str}{now:Int}(h0:SqL K H a (ns.map V.int))(h1:0<=at')(h2:at'<=100)(h3:H an=some (.lst (zs.map V.str)))(h4:zs.length=3)(h5:(0<=now /\ now<20001))(h6:∀p H' os zz,H p=none->Same H H'->H' p=some (.lst os)->Paired (OfP H') os zz->(∀z∈zz,OkW now z.1 /\ PrOk z.2)->1<=zz.length->zz.length<=4->Q (.ref p) H'):spOff4 K [.ref a,.int at',.ref an,.int now] H Q Ez:=⟨a,ns,at',an,zs,now,rfl,h0,h1,h2,h3,h4,h5,h6⟩
theorem spOp.mk {K:Ā}{H:Hp}{Q:VK}{Ez:XK}{pt:V}{m n:Nat}{u:Rat}{vq wq:Nat->Rat}{ac:Addr}{c0 c1 c2 c3:Int}(h0:PpV H m n pt u vq wq)(h1:PpC 2600 m n u vq wq)(h2:1<=m)(h3:m<=8)(h4:n<=8)(h5:H ac=some (.lst [.int c0,.int c1,.int c2,.int c3]))(h6:∀t H' u' vq' wq',Same H H'->PpV H' m n (.ref t) u' vq' wq'->PpC 2610 m n u' vq' wq'->Q (.ref t) H'):spOp K [pt,.ref ac] H Q Ez:=⟨pt,m,n,u,vq,wq,ac,c0,c1,c2,c3,rfl,h0,h1,h2,h3,h4,h5,h6⟩
theorem spOr.mk {K:Ā}{H:Hp}{Q:VK}{Ez:XK}{ao aw al:Addr}{now:Int}{os ls:List V}{zs:List Zz}{cs:List Cond}{wv:V}{wd:Rat}{t a:Addr}{ns:List Int}(h0:OfW H ao aw al now os ls zs cs wv wd)(h1:SdV H now cs zs wd t)(h2:SqL K H a (ns.map V.int))(h3:∀H',Same H H'->Q (.bl true) H'):spOr K [.ref ao,.ref aw,.int now,.ref t,.ref a] H Q Ez:=⟨ao,aw,al,now,os,ls,zs,cs,wv,wd,t,a,ns,rfl,h0,h1,h2,h3⟩
theorem spOw.mk {K:Ā}{H:Hp}{Q:VK}{Ez:XK}{t ao:Addr}{os:List V}{now:Int}{cs:List Cond}{zs:List Zz}{wd:Rat}{ac:Addr}{c0 c1 c2 c3:Int}(h0:H ao=some (.lst os))(h1:os.length=zs.length)(h2:1<=zs.length)(h3:zs.length<=4)(h4:cs.length<=8)(h5:SdV H now cs zs wd t)(h6:H ac=some (.lst [.int c0,.int c1,.int c2,.int c3]))(h7:∀t' H' P,Same H H'->RtV H' now cs zs wd t' P->Q (.ref t') H'):spOw K [.ref t,.ref ao,.ref ac] H Q Ez:=⟨t,ao,os,now,cs,zs,wd,ac,c0,c1,c2,c3,rfl,h0,h1,h2,h3,h4,h5,h6,h7⟩
theorem spPc.mk {H:Hp}{Q:VK}{Ez:XK}{ao ar ab:Addr}{os:List V}{zs:List Zz}{mm n:Nat}{M:Nat->Nat->Rat}{B:Nat->Nat}(h0:H ao=some (.lst os))(h1:Paired (OfP H) os zs)(h2:MatAt H ar mm (n+1) M)(h3:H ab=some (.lst (ñ mm B)))(h4:1<=mm)(h5:mm<=30)(h6:zs.length<=n+1)(h7:n+1<=30)(h8:(∀i,i<=mm->∀j,j<n+1->Bd 8000 (ú (prQ zs) B M i j)))(h9:(∀i,i<mm->∀j,j<n+1->Bd 8000 (M i j) /\ Bd 8000 (M i j*prQ zs (B i))))(h10:(∀j,Bd 8000 (prQ zs j)))(h11:∀p H',H p=none->Same H H'->LsF H' p (nR (n+1) fun j=>ú (prQ zs) B M mm j)->Q (.ref p) H'):spPc [.ref ao,.ref ar,.ref ab] H Q Ez:=⟨ao,ar,ab,os,zs,mm,n,M,B,rfl,h0,h1,h2,h3,h4,h5,h6,h7,h8,h9,h10,h11⟩
theorem spPiv.mk {H:Hp}{Q:VK}{Ez:XK}{a:Addr}{r m c k:Nat}{M:Nat->Nat->Rat}(h0:MatAt H a r m M)(h1:c<r)(h2:k<m)(h3:r<=30)(h4:m<=30)(h5:M c k≠0)(h6:(∀i,i<r->∀j,j<m->Bd 8000 (M i j) /\ Bd 8000 (M c j / M c k) /\ Bd 8000 (M c j / M c k*M i k)))(h7:∀p H',H p=none->Same H H'->MatAt H' p r m (pivM M c k)->Q (.ref p) H'):spPiv [.ref a,.int (c:Nat),.int (k:Nat)] H Q Ez:=⟨a,r,m,c,k,M,rfl,h0,h1,h2,h3,h4,h5,h6,h7⟩
theorem spPs.mk {K:Ā}{H:Hp}{Q:VK}{Ez:XK}{a b:Addr}{m:Nat}{f g:Nat->Rat}(h0:LsF H a (nR m f))(h1:LsF H b (nR m g))(h2:m<=8)(h3:(∀j,j<m->Bd 4000 (f j)))(h4:(∀j,j<m->Bd 4000 (g j)))(h5:(∀k,k<=m->Bd 8000 (sN k fun j=>f j*g j)))(h6:∀v H',Same H H'->FrV H' v (sN m fun j=>f j*g j)->Q v H'):spPs K [.ref a,.ref b] H Q Ez:=⟨a,b,m,f,g,rfl,h0,h1,h2,h3,h4,h5,h6⟩
theorem spRt.mk {K:Ā}{H:Hp}{Q:VK}{Ez:XK}{ao aw al:Addr}{now:Int}{os ls:List V}{zs:List Zz}{cs:List Cond}{wv:V}{wd:Rat}{tf:Addr}{P:Prop}(h0:OfW H ao aw al now os ls zs cs wv wd)(h1:RtV H now cs zs wd tf P)(h2:∀b H',Same H H'->(b=true↔P)->Q (.bl b) H'):spRt K [.ref tf,.ref ao,.ref aw,.int now] H Q Ez:=⟨ao,aw,al,now,os,ls,zs,cs,wv,wd,tf,P,rfl,h0,h1,h2⟩
theorem spSb.mk {K:Ā}{H:Hp}{Q:VK}{Ez:XK}{ao aw al:Addr}{now:Int}{os ls:List V}{zs:List Zz}{cs:List Cond}{wv:V}{wd:Rat}{pt:V}{u:Rat}{vq wq:Nat->Rat}(h0:OfW H ao aw al now os ls zs cs wv wd)(h1:PpV H zs.length cs.length pt u vq wq)(h2:PpC 2610 zs.length cs.length u vq wq)(h3:∀v H',Same H H'->FrV H' v (shwQ zs wd u wq)->Q v H'):spSb K [.ref ao,.ref aw,pt] H Q Ez:=⟨ao,aw,al,now,os,ls,zs,cs,wv,wd,pt,u,vq,wq,rfl,h0,h1,h2,h3⟩
theorem spShw.mk {K:Ā}{H:Hp}{Q:VK}{Ez:XK}{ao aw al:Addr}{now:Int}{os ls:List V}{zs:List Zz}{cs:List Cond}{wv:V}{wd:Rat}{pt:V}{u:Rat}{vq wq:Nat->Rat}{ap:Addr}{f:Nat->Rat}(h0:OfW H ao aw al now os ls zs cs wv wd)(h1:PpV H zs.length cs.length pt u vq wq)(h2:PpC 2610 zs.length cs.length u vq wq)(h3:LsF H ap (nR zs.length f))(h4:(∀j,j<zs.length->Bd 200 (f j)))(h5:((Nng zs.length cs.length vq wq /\ ∀k,k<zs.length->worQ now cs zs u vq wq k<=f k)->∀v H',Same H H'->FrV H' v (shwQ zs wd u wq)->Q v H'))(h6:((¬(Nng zs.length cs.length vq wq /\ ∀k,k<zs.length->worQ now cs zs u vq wq k<=f k))->∀H',Same H H'->Q .non H')):spShw K [.ref ao,.ref aw,.int now,pt,.ref ap] H Q Ez:=⟨ao,aw,al,now,os,ls,zs,cs,wv,wd,pt,u,vq,wq,ap,f,rfl,h0,h1,h2,h3,h4,h5,h6⟩
theorem spSpB.mk {K:Ā}{H:Hp}{Q:VK}{Ez:XK}{ao aw al:Addr}{now:Int}{os ls:List V}{zs:List Zz}{cs:List Cond}{wv:V}{wd:Rat}{t:Addr}{way at':Int}{pa:Addr}{pt:V}{x:Nat->Rat}{u:Rat}{vq wq:Nat->Rat}(h0:OfW H ao aw al now os ls zs cs wv wd)(h1:H t=some (.tup [.str "blend",.ref pa,pt]))(h2:LsF H pa (nR zs.length x))(h3:XC 2600 zs.length x)(h4:PpV H zs.length cs.length pt u vq wq)(h5:PpC 2600 zs.length cs.length u vq wq)(h6:LetB now cs zs wd u vq wq x)(h7:∀v H',Same H H'->WdV H' now cs zs wd v False->Q v H'):spSpB K [.ref t,.int way,.int at'] H Q Ez:=⟨ao,aw,al,now,os,ls,zs,cs,wv,wd,t,way,at',pa,pt,x,u,vq,wq,rfl,h0,h1,h2,h3,h4,h5,h6,h7⟩
theorem spSpN.mk {K:Ā}{H:Hp}{Q:VK}{Ez:XK}{ao aw al:Addr}{now:Int}{os ls:List V}{zs:List Zz}{cs:List Cond}{wv:V}{wd:Rat}{t:Addr}{way at':Int}{pt:V}{u:Rat}{vq wq:Nat->Rat}(h0:OfW H ao aw al now os ls zs cs wv wd)(h1:H t=some (.tup [.str "none",pt]))(h2:PpV H zs.length cs.length pt u vq wq)(h3:PpC 2600 zs.length cs.length u vq wq)(h4:LetN now cs zs wd u vq wq)(h5:∀v H',Same H H'->WdV H' now cs zs wd v False->Q v H'):spSpN K [.ref t,.int way,.int at'] H Q Ez:=⟨ao,aw,al,now,os,ls,zs,cs,wv,wd,t,way,at',pt,u,vq,wq,rfl,h0,h1,h2,h3,h4,h5⟩
theorem spTotal.mk {H:Hp}{Q:VK}{Ez:XK}{v:V}{W:List Ent}{now:Int}(h0:WnV H v W)(h1:OkW now W)(h2:∀u H',Same H H'->FrV H' u (totQ W)->Q u H'):spTotal [v] H Q Ez:=⟨v,W,now,rfl,h0,h1,h2⟩
theorem spTwc.mk {H:Hp}{Q:VK}{Ez:XK}{v:V}{r:Rat}(h0:FrV H v r)(h1:Bd 2700 r)(h2:∀p H',Same H H'->TwA H' (.ref p)->Q (.ref p) H'):spTwc [v] H Q Ez:=⟨v,r,rfl,h0,h1,h2⟩
theorem spUnit.mk {H:Hp}{Q:VK}{Ez:XK}{m k:Nat}(h0:k<m)(h1:m<=30)(h2:∀p H',H p=none->Same H H'->LsF H' p (nR m fun j=>if j=k then 1 else 0)->Q (.ref p) H'):spUnit [.int (m:Nat),.int (k:Nat)] H Q Ez:=⟨m,k,rfl,h0,h1,h2⟩
theorem spUnits.mk {H:Hp}{Q:VK}{Ez:XK}{v:V}{r:Rat}(h0:FrV H v r)(h1:Bd 100 r)(h2:Q (.int (unZ r)) H):spUnits [v] H Q Ez:=⟨v,r,rfl,h0,h1,h2⟩
theorem spWanted.mk {H:Hp}{Q:VK}{Ez:XK}{ao:Addr}{os:List V}{zs:List Zz}{now c:Int}(h0:H ao=some (.lst os))(h1:Paired (OfP H) os zs)(h2:(∀z∈zs,OkW now z.1))(h3:1<=zs.length)(h4:zs.length<=4)(h5:∀v H' wd,Same H H'->FrV H' v wd->0<wd->Cd 332640 (2^130) wd->Q v H'):spWanted [.ref ao,.int c] H Q Ez:=⟨ao,os,zs,now,c,rfl,h0,h1,h2,h3,h4,h5⟩
theorem spWeight.mk {H:Hp}{Q:VK}{Ez:XK}{v:V}{l:Addr}{z:Str}{y now:Int}{c:Cond}(h0:H l=some (.tup [.str z,.int y]))(h1:RepC H c v)(h2:Bd 200 c.rat)(h3:(now - y).natAbs<2^100)(h4:∀u H',Same H H'->FrV H' u (wt z y now c)->Q u H'):spWeight [v,.ref l,.int now] H Q Ez:=⟨v,l,z,y,now,c,rfl,h0,h1,h2,h3,h4⟩
theorem spWghd.mk {H:Hp}{Q:VK}{Ez:XK}{v w:V}{now:Int}{c:Cond}{W:List Ent}(h0:RepC H c v)(h1:Bd 200 c.rat)(h2:WnV H w W)(h3:OkW now W)(h4:∀H',Same H H'->Q (.int (wghZ now c W)) H'):spWghd [v,w,.int now] H Q Ez:=⟨v,w,now,c,W,rfl,h0,h1,h2,h3,h4⟩
theorem spWin.mk {K:Ā}{H:Hp}{Q:VK}{Ez:XK}{ao al:Addr}{now:Int}{os ls:List V}{Ws:List (List Ent)}{cs:List Cond}(h0:SqL K H ao os)(h1:Paired (OfV H) os Ws)(h2:(∀W∈Ws,OkW now W))(h3:Ws.length<=8)(h4:SqL K H al ls)(h5:Paired (CdV H) ls cs)(h6:cs.length<=8)(h7:∀p H' rs,H p=none->Same H H'->H' p=some (.lst rs)->Paired (fun v c=>RwV H' now Ws v c /\ ∃a,v = .ref a /\ H a=none) rs cs->Q (.ref p) H'):spWin K [.ref ao,.ref al,.int now] H Q Ez:=⟨ao,al,now,os,ls,Ws,cs,rfl,h0,h1,h2,h3,h4,h5,h6,h7⟩
theorem spWine.mk {H:Hp}{Q:VK}{Ez:XK}{c o:Int}{an:Addr}{zs:List Str}{now:Int}(h0:H an=some (.lst (zs.map V.str)))(h1:zs.length=3)(h2:(0<=now /\ now<20001))(h3:1<=c.fmod 4)(h4:(0<=o /\ o<1000))(h5:∀d H' W,H d=none->Same H H'->WnV H' (.ref d) W->OkW now W->Q (.ref d) H'):spWine [.int c,.int o,.ref an,.int now] H Q Ez:=⟨c,o,an,zs,now,rfl,h0,h1,h2,h3,h4,h5⟩
theorem spWo.mk {H:Hp}{Q:VK}{Ez:XK}{a ab:Addr}{mm n lack:Nat}{M:Nat->Nat->Rat}{B:Nat->Nat}(h0:MatAt H a (mm+1) (n+1) M)(h1:H ab=some (.lst (ñ (mm+1) B)))(h2:lack<n)(h3:mm+1<=30)(h4:n+1<=30)(h5:(∀l,l<mm+1->B l=lack->∃j,j<lack /\ M l j≠0))(h6:(∀i,i<mm+1->∀j,j<n+1->Bd 2600 (M i j)))(h7:(∀p pb t H',Same H H'->MatAt H' p (mm+1) (n+1) M->H' pb=some (.lst (ñ (mm+1) B))->H' t=some (.tup [.ref p,.ref pb])->(∀l,l<mm+1->B l≠lack)->Q (.ref t) H'))(h8:∀p pb t H' l col,Same H H'->l<mm+1->B l=lack->col<lack->M l col≠0->MatAt H' p (mm+1) (n+1) (pivM M l col)->H' pb=some (.lst (ñ (mm+1) fun i=>if i=l then col else B i))->H' t=some (.tup [.ref p,.ref pb])->Q (.ref t) H'):spWo [.ref a,.ref ab,.int (lack:Nat)] H Q Ez:=⟨a,ab,mm,n,lack,M,B,rfl,h0,h1,h2,h3,h4,h5,h6,h7,h8⟩
theorem xI3 {now y tp b:Int}{nm:Str}(hnow:0<=now /\ now<20001)(hy:0<=y /\ y<=9999)(htp:1<=tp /\ tp<=1000000000000)(hb:0<=b /\ b<12):OkE now ((nm,y),Ċ tp (1+b)):=by
 have b4:∀{x:Int},x.natAbs<=1000000000000->x.natAbs<2^40:=fun h=>ă h (by decide);have z0:1+b≠0:=by lia
 have bd:Bd 40 (Ċ tp (1+b)):=Bd.divInt z0 (b4 (by lia)) (b4 (by lia));have yr:(now - y).natAbs<=20001:=by lia
 exact⟨zO4 (by lia) (by lia),Nat.dvd_trans (yP3 z0) (xO6 (by lia) (by lia)),bd.mono (by decide),ă yr (by decide),bd,ă yr (by decide)⟩
theorem szn {n:Nat}(h:Nat.ble n 1000=true:=by rfl):n<=sizeLine:=sz (Nat.le_of_ble_eq_true h)
end T43
namespace T43
open PySem L2 Tc
section
variable {P:Program}{w:World}{K:Ā}{mg:Str->Option Value}{base:Heap}
noncomputable abbrev yA2:Stmt:=top 1
theorem sc_means:Ï ["pick","lot","now"] ["pick","lot","now"] (Ç yA2):=scF
theorem yT5 {ca:Ca}(D:DefAt K mg "means" yA2)(T:Txt K mg ca):∀d,FnAt P w K mg base CX0 (d+1) "means" ["pick","lot","now"] (zR2 d):=by
 intro d
 induction d with
 | zero =>
  refine D.ok sc_means (fun vs H Q E h=>?_) (fun _ _ _ _ _ _ us hl=>match us,hl with | [_,_,_],_=>rfl) (fun f cdv A outer s H vs Q E hr h=>?_)
  ·exact False.elim (by obtain⟨_,_,_,_,_,p,_,_,_,hd,_⟩:=h;have:=yF7 p;lia)
  ·exact False.elim (by obtain⟨_,_,_,_,_,p,_,_,_,hd,_⟩:=h;have:=yF7 p;lia)
 | succ d G_means =>
 refine D.ok sc_means (fun vs H Q E h=>?_) (fun _ _ _ _ _ _ us hl=>match us,hl with | [_,_,_],_=>rfl) (fun f cdv A outer s H vs Q E hr h=>?_)
 all_goals obtain⟨v,l,z,y,now,p,rfl,hl,hp,hd,k⟩:=h
 ·rfl
 ·have nd:=sc_means.nd;refine⟨_,(Ä (á (Ð ï (pixT (K:=K) (pv 0) Á) å (Ò _)) (Å (É (ø ï (pixT (K:=K) (pv 1) Á) (pixT (K:=K) (pv 0) Á) (Ò _)))) Ó)
   (Ä (á (Ð ï (pixT (K:=K) (pv 0) Á) å (Ò _)) (Å (É (Τ (ø yT0 (pixT (K:=K) (pv 0) Á) (pixT (K:=K) (pv 1) Á) (Ò _)) (Ο (ø yT0 (pixT (K:=K) (pv 1) Á) (pixT (K:=K) (pv 0) Á) (Ò _)))))) Ó)
   (Ä (á (Ð ï (pixT (K:=K) (pv 0) Á) å (Ò _)) (Å (É (ø yL7 (Æ ô (pv 2) (pixT (K:=K) (pv 1) Á)) (pixT (K:=K) (pv 0) Á) (Ò _)))) Ó)
   (Ä (á (Ð ï (pixT (K:=K) (pv 0) Á) å (Ò _)) (Å (É (Τ (ο G_means hr (by rfl) ρ (À (pixT (K:=K) (pv 0) Á) (À (pv 1) (À (pv 2) Â))) (by lia)) (Ο (ο G_means hr (by rfl) ρ (À (pixT (K:=K) (pv 0) Á) (À (pv 1) (À (pv 2) Â))) (by lia)))))) Ó)
   (Ä (á (Ð ï (pixT (K:=K) (pv 0) Á) å (Ò _)) (Å (É (xH4 (ο G_means hr (by rfl) ρ (À (pixT (K:=K) (pv 0) Á) (À (pv 1) (À (pv 2) Â))) (by lia)) (Ο (ο G_means hr (by rfl) ρ (À (pixT (K:=K) (pv 0) Á) (À (pv 1) (À (pv 2) Â))) (by lia)))))) Ó)
   (Å (É (yE7 (ο G_means hr (by rfl) ρ (À (pixT (K:=K) (pv 0) Á) (À (pv 1) (À (pv 2) Â))) (by lia)))))))))),?_⟩
  cases p with
  | name n =>
   obtain⟨a,rfl,ha⟩:=hp;refine(ex1 rfl ⟨a,_,_,_,rfl,rfl,SqT.of ha,rfl,rfl,ex1 rfl ?_⟩);refine ù rfl ?_;exact(ex1 rfl ⟨l,_,_,_,rfl,rfl,SqT.of hl,rfl,ex1 rfl ⟨a,_,_,_,rfl,rfl,SqT.of ha,rfl,rfl,k⟩⟩)
  | years i j =>
   obtain⟨a,rfl,ha⟩:=hp;refine(ex1 rfl ⟨a,_,_,_,rfl,rfl,SqT.of ha,rfl,rfl,ex1 rfl ?_⟩);refine Ù (by decide +kernel) ?_;refine(ex1 rfl ⟨a,_,_,_,rfl,rfl,SqT.of ha,rfl,rfl,ex1 rfl ?_⟩);refine ù rfl ?_;refine(ex1 rfl ⟨a,_,_,_,rfl,rfl,SqT.of ha,rfl,ex1 rfl ⟨l,_,_,_,rfl,rfl,SqT.of hl,rfl,_,_,rfl,rfl,ex1 rfl ?_⟩⟩);have k:Q (.bl (decide (i<=y)&&decide (y<=j))) H:=k;refine ite2 (fun h1=>?_) (fun h1=>?_)
   ·have h1:decide (i<=y)=true:=h1;rw[h1,Bool.true_and]at k;exact(ex1 rfl ⟨l,_,_,_,rfl,rfl,SqT.of hl,rfl,ex1 rfl ⟨a,_,_,_,rfl,rfl,SqT.of ha,rfl,_,_,rfl,rfl,k⟩⟩)
   ·have h1:¬decide (i<=y)=true:=h1;rw[ŗ.mpr h1,Bool.false_and]at k;exact k
  | old i =>
   obtain⟨a,rfl,ha⟩:=hp;refine(ex1 rfl ⟨a,_,_,_,rfl,rfl,SqT.of ha,rfl,rfl,ex1 rfl ?_⟩);refine Ù (by decide +kernel) ?_;refine(ex1 rfl ⟨a,_,_,_,rfl,rfl,SqT.of ha,rfl,rfl,ex1 rfl ?_⟩);refine Ù (by decide +kernel) ?_;refine(ex1 rfl ⟨a,_,_,_,rfl,rfl,SqT.of ha,rfl,rfl,ex1 rfl ?_⟩);refine ù rfl ?_;exact(ex1 rfl (ex1 rfl ⟨l,_,_,_,rfl,rfl,SqT.of hl,rfl,_,_,rfl,rfl,ex1 rfl ⟨a,_,_,_,rfl,rfl,SqT.of ha,rfl,_,_,rfl,rfl,k⟩⟩))
  | both p q =>
   obtain⟨a,x,w,rfl,ha,h1,h2⟩:=hp;have hd:max (dp p) (dp q)+1<=d+1:=hd;have k:Q (.bl (mean z y now p&&mean z y now q)) H:=k;refine(ex1 rfl ⟨a,_,_,_,rfl,rfl,SqT.of ha,rfl,rfl,ex1 rfl ?_⟩);refine Ù (by decide +kernel) ?_;refine(ex1 rfl ⟨a,_,_,_,rfl,rfl,SqT.of ha,rfl,rfl,ex1 rfl ?_⟩);refine Ù (by decide +kernel) ?_;refine(ex1 rfl ⟨a,_,_,_,rfl,rfl,SqT.of ha,rfl,rfl,ex1 rfl ?_⟩);refine Ù (by decide +kernel) ?_;refine(ex1 rfl ⟨a,_,_,_,rfl,rfl,SqT.of ha,rfl,rfl,ex1 rfl ?_⟩);refine ù rfl ?_;refine(ex1 rfl ⟨a,_,_,_,rfl,rfl,SqT.of ha,rfl,ex1 rfl (ex1 rfl ⟨x,l,z,y,now,p,rfl,hl,h1,by lia,ex1 rfl ?_⟩)⟩);refine ite2 (fun e=>?_) (fun e=>?_)
   ·have e:mean z y now p=true:=e;rw[e,Bool.true_and]at k;exact(ex1 rfl ⟨a,_,_,_,rfl,rfl,SqT.of ha,rfl,ex1 rfl (ex1 rfl ⟨w,l,z,y,now,q,rfl,hl,h2,by lia,k⟩)⟩)
   ·have e:¬mean z y now p=true:=e;rw[ŗ.mpr e,Bool.false_and]at k;exact k
  | one p q =>
   obtain⟨a,x,w,rfl,ha,h1,h2⟩:=hp;have hd:max (dp p) (dp q)+1<=d+1:=hd;have k:Q (.bl (mean z y now p||mean z y now q)) H:=k;refine(ex1 rfl ⟨a,_,_,_,rfl,rfl,SqT.of ha,rfl,rfl,ex1 rfl ?_⟩);refine Ù (by decide +kernel) ?_;refine(ex1 rfl ⟨a,_,_,_,rfl,rfl,SqT.of ha,rfl,rfl,ex1 rfl ?_⟩);refine Ù (by decide +kernel) ?_;refine(ex1 rfl ⟨a,_,_,_,rfl,rfl,SqT.of ha,rfl,rfl,ex1 rfl ?_⟩);refine Ù (by decide +kernel) ?_;refine(ex1 rfl ⟨a,_,_,_,rfl,rfl,SqT.of ha,rfl,rfl,ex1 rfl ?_⟩);refine Ù (by decide +kernel) ?_;refine(ex1 rfl ⟨a,_,_,_,rfl,rfl,SqT.of ha,rfl,rfl,ex1 rfl ?_⟩);refine ù rfl ?_;refine(ex1 rfl ⟨a,_,_,_,rfl,rfl,SqT.of ha,rfl,ex1 rfl (ex1 rfl ⟨x,l,z,y,now,p,rfl,hl,h1,by lia,ex1 rfl ?_⟩)⟩);refine ite2 (fun e=>?_) (fun e=>?_)
   ·have e:mean z y now p=true:=e;rw[e,Bool.true_or]at k;exact k
   ·have e:¬mean z y now p=true:=e;rw[ŗ.mpr e,Bool.false_or]at k;exact(ex1 rfl ⟨a,_,_,_,rfl,rfl,SqT.of ha,rfl,ex1 rfl (ex1 rfl ⟨w,l,z,y,now,q,rfl,hl,h2,by lia,k⟩)⟩)
  | nay p =>
   obtain⟨a,x,rfl,ha,h1⟩:=hp;have hd:dp p+1<=d+1:=hd;refine(ex1 rfl ⟨a,_,_,_,rfl,rfl,SqT.of ha,rfl,rfl,ex1 rfl ?_⟩);refine Ù (by decide +kernel) ?_;refine(ex1 rfl ⟨a,_,_,_,rfl,rfl,SqT.of ha,rfl,rfl,ex1 rfl ?_⟩);refine Ù (by decide +kernel) ?_;refine(ex1 rfl ⟨a,_,_,_,rfl,rfl,SqT.of ha,rfl,rfl,ex1 rfl ?_⟩);refine Ù (by decide +kernel) ?_;refine(ex1 rfl ⟨a,_,_,_,rfl,rfl,SqT.of ha,rfl,rfl,ex1 rfl ?_⟩);refine Ù (by decide +kernel) ?_;refine(ex1 rfl ⟨a,_,_,_,rfl,rfl,SqT.of ha,rfl,rfl,ex1 rfl ?_⟩);refine Ù (by decide +kernel) ?_;exact(ex1 rfl ⟨a,_,_,_,rfl,rfl,SqT.of ha,rfl,ex1 rfl (ex1 rfl ⟨x,l,z,y,now,p,rfl,hl,h1,by lia,ex1 rfl k⟩)⟩)
noncomputable abbrev zJ2:Stmt:=top 6
theorem sc_is_whole:Ï ["thing"] ["thing"] (Ç zJ2):=scF
theorem yB1 {ca:Ca}(D:DefAt K mg "is_whole" zJ2)(T:Txt K mg ca):FnAt P w K mg base CX0 1 "is_whole" ["thing"] (zQ9):=by
 refine D.ok sc_is_whole (fun vs H Q E h=>?_) (fun _ _ _ _ _ _ us hl=>match us,hl with | [_],_=>rfl) (fun f cdv A outer s H vs Q E hr h=>?_)
 all_goals obtain⟨v,n,rfl,hv,k⟩:=h
 ·rfl
 ·have nd:=sc_is_whole.nd;refine⟨_,(Å (É (Τ (Ë (û (K:=K) rfl) (by rfl) T.z_isinstance â (À (pv 0) (À (Ż (v:=.ty "int") (by rfl) T.z_int yQ6 rfl) Â))) (Ο (yE7 (Ë (û (K:=K) rfl) (by rfl) T.z_isinstance â (À (pv 0) (À (Ż (v:=.ty "bool") (by rfl) T.z_bool zV4 rfl) Â)))))))),?_⟩;refine⟨_,rfl,_,_,_,_,rfl,þ hv,ŷ (zE0 hv) (by decide),_,rfl,?_⟩;refine ite2 (fun h1=>?_) (fun h1=>?_)
  ·refine⟨_,rfl,_,_,_,_,rfl,þ hv,ŷ (zE0 hv) (by decide),_,rfl,?_⟩;rw[sub_int]at h1;rw[yD9];have e:(!(n == "bool"))=(n == "int"):=by
    rcases Bool.or_eq_true_iff.mp h1 with z | z
    ·have z:=beq_iff_eq.mp z;subst z;decide
    ·have z:=beq_iff_eq.mp z;subst z;decide
   rw[e];exact k
  ·rw[sub_int]at h1;have e:(n == "int")=false:=by
    cases q:(n == "int") with
    | false=>rfl
    | true=>rw[q]at h1;exact absurd rfl h1
   rw[e]at k;exact k
noncomputable abbrev zA7:Stmt:=top 8
theorem sc_common_divisor:Ï ["top","bottom","rest"] ["top","bottom"] (Ç zA7):=scF
theorem zK2 {ca:Ca}(D:DefAt K mg "common_divisor" zA7)(T:Txt K mg ca):FnAt P w K mg base CX0 1 "common_divisor" ["top","bottom"] (spCd):=by
 refine D.ok sc_common_divisor (fun vs H Q E h=>?_) (fun _ _ _ _ _ _ us hl=>match us,hl with | [_,_],_=>rfl) (fun f cdv A outer s H vs Q E hr h=>?_)
 all_goals obtain⟨t,b,rfl,hb,k⟩:=h
 ·rfl
 ·have nd:=sc_common_divisor.nd;refine⟨_,(Ä (zR9 PassesOwn.never (Ð zS2 (pv 1) Á (Ò _)) (Ä (Í (i:=2) nd rfl (Or.inl rfl) (Æ Ø (pv 0) (pv 1)))
   (Ä (Í (i:=0) nd rfl (Or.inl rfl) (pv 1))
   (Å (Í (i:=1) nd rfl (Or.inl rfl) (pv 2))))))
   (Å (É (pv 0)))),?_⟩
  refine yD0 (fun σ H1=>∃(x y:Int) (v:Option V),σ=[some (.int x),some (.int y),v] /\ H1=H /\ Dv t b x y)
   (fun σ _=>match σ with | [_,some (.int y),_]=>y.natAbs | _=>0) ⟨t,b,none,rfl,rfl,Dv.start hb⟩ ?_ ?_
  ·rintro σ H1 ⟨x,y,v,rfl,rfl,d⟩;refine⟨_,rfl,rfl,_,rfl,?_⟩;refine ite2 (fun h1=>?_) (fun h1=>?_)
   ·have hy:y≠0:=by
     intro e;subst e;simp at h1
    refine⟨_,rfl,_,rfl,_,_,rfl,rfl,hy,?_⟩;refine⟨_,rfl,_,rfl,?_⟩;exact⟨⟨_,_,_,rfl,rfl,d.turn hy⟩,Dv.less hy⟩
   ·have hy:y=0:=by
     by_cases e:y=0
     ·exact e
     ·exact absurd (by simp[e]) h1
    refine⟨_,rfl,?_⟩;rw[d.done hy hb];exact k
  ·intro σ H1 Q1 Q2 hq h1;obtain⟨v,e,h2,c,e2,h3⟩:=h1;exact⟨v,e,h2,c,e2,hq _ _ h3⟩
noncomputable abbrev zD0:Stmt:=top 7
theorem sc_is_fraction:Ï ["thing","top","bottom"] ["thing"] (Ç zD0):=scF
theorem zP4 {ca:Ca}(D:DefAt K mg "is_fraction" zD0)(T:Txt K mg ca)(G_is_whole:FnAt P w K mg base CX0 1 "is_whole" ["thing"] (zQ9))(G_common_divisor:FnAt P w K mg base CX0 1 "common_divisor" ["top","bottom"] (spCd)):FnAt P w K mg base CX0 2 "is_fraction" ["thing"] (yZ9 K):=by
 refine D.ok sc_is_fraction (fun vs H Q E h=>?_) (fun _ _ _ _ _ _ us hl=>match us,hl with | [_],_=>rfl) (fun f cdv A outer s H vs Q E hr h=>?_)
 all_goals obtain⟨v,b,rfl,hv,k⟩:=h
 ·rfl
 ·have nd:=sc_is_fraction.nd;refine⟨_,(Ä (á (PW.pt (Ζ (ŭ (ö (Ë (û (K:=K) rfl) (by rfl) T.z_isinstance â (À (pv 0) (À (Ż (v:=.ty "tuple") (by rfl) T.z_tuple zD8 rfl) Â))))) (Γ (Ð zS2 (Ë (Ö (K:=K) rfl) (by rfl) T.z_len PySem.boot_len (À (pv 0) Â)) Á (Ò _))))) (Å (É ž)) Ó)
   (Ä (Í (i:=1) nd rfl (Or.inl rfl) (pixT (K:=K) (pv 0) Á))
   (Ä (Í (i:=2) nd rfl (Or.inl rfl) (pixT (K:=K) (pv 0) Á))
   (Ä (á (PW.pt (Ζ (ŭ (ö (pfn G_is_whole hr (À (pv 1) Â)))) (Ζ (ŭ (ö (pfn G_is_whole hr (À (pv 2) Â)))) (Γ (Ð υ (pv 2) Á (Ò _)))))) (Å (É ž)) Ó)
   (Å (É (ø ï (pfn G_common_divisor hr (À (pv 1) (À (pv 2) Â))) Á (Ò _)))))))),?_⟩
  rcases hv with⟨n,hv,hn,rfl⟩ | ⟨a,x,y,rfl,ha,rfl⟩ | ⟨a,p,y,rfl,ha,rfl⟩
  ·refine(ex1 rfl ⟨_,_,_,_,rfl,þ hv,ŷ (zE0 hv) (by decide),ex1 rfl ?_⟩);rw[zQ8 hn (by decide)];exact iteT k
  ·have hv:tyS H (.ref a)=some "tuple":=tyT ha;refine(ex1 rfl ⟨_,_,_,_,rfl,þ hv,ŷ (by decide) (by decide),ex1 rfl ?_⟩);refine iteF ?_;refine(ex1 rfl ⟨_,_,rfl,.inr ⟨_,SqT.of ha,rfl⟩,rfl,ex1 rfl ?_⟩);refine iteF ?_;refine(ex1 rfl ⟨a,_,0,ex1 rfl ⟨rfl,SqT.of ha,rfl,?_⟩⟩);refine(ex1 rfl ⟨a,_,1,ex1 rfl ⟨rfl,SqT.of ha,rfl,?_⟩⟩);refine(ex1 rfl ⟨.int x,"int",rfl,rfl,ex1 rfl ?_⟩);refine iteF ?_;refine(ex1 rfl ⟨.int y,"int",rfl,rfl,ex1 rfl ?_⟩);refine iteF ?_;refine(ex1 rfl ⟨_,_,rfl,rfl,ex1 rfl ?_⟩);refine ite2 (fun h=>?_) (fun h=>?_)
   ·have h:y<1:=of_decide_eq_true h;rw[decide_eq_false (show ¬1<=y by lia),Bool.false_and]at k;exact k
   ·have h:¬y<1:=fun z=>h (decide_eq_true z);refine(ex1 rfl (ex1 rfl ⟨x,y,rfl,by lia,?_⟩));refine⟨rfl,?_⟩;rw[decide_eq_true (show 1<=y by lia),Bool.true_and]at k;have e:decide (V.int (dv x y)=V.int 1)=decide (dv x y=1):=by
     by_cases z:dv x y=1
     ·rw[z];rfl
     ·rw[decide_eq_false z,decide_eq_false fun q=>z (V.int.inj q)]
    rw[<- e]at k;exact k
  ·have hv:tyS H (.ref a)=some "tuple":=tyT ha;refine(ex1 rfl ⟨_,_,_,_,rfl,þ hv,ŷ (by decide) (by decide),ex1 rfl ?_⟩);refine iteF ?_;refine(ex1 rfl ⟨_,_,rfl,.inr ⟨_,SqT.of ha,rfl⟩,rfl,ex1 rfl ?_⟩);refine iteF ?_;refine(ex1 rfl ⟨a,_,0,ex1 rfl ⟨rfl,SqT.of ha,rfl,?_⟩⟩);refine(ex1 rfl ⟨a,_,1,ex1 rfl ⟨rfl,SqT.of ha,rfl,?_⟩⟩);refine(ex1 rfl ⟨.bl p,"bool",rfl,rfl,ex1 rfl ?_⟩);exact iteT k
noncomputable abbrev yJ8:Stmt:=top 9
theorem sc_plus:Ï ["one","other","shared","rest","top","divisor"] ["one","other"] (Ç yJ8):=scF
theorem xC1 {ca:Ca}(D:DefAt K mg "plus" yJ8)(T:Txt K mg ca)(G_common_divisor:FnAt P w K mg base CX0 1 "common_divisor" ["top","bottom"] (spCd)):FnAt P w K mg base CX0 2 "plus" ["one","other"] (zW3):=by
 refine D.ok sc_plus (fun vs H Q E h=>?_) (fun _ _ _ _ _ _ us hl=>match us,hl with | [_,_],_=>rfl) (fun f cdv A outer s H vs Q E hr h=>?_)
 all_goals obtain⟨_,_,r,q,rfl,⟨a,rfl,ha⟩,⟨b,rfl,hb⟩,br,bq,k⟩:=h
 ·rfl
 ·have nd:=sc_plus.nd;refine⟨_,(Ä (Í (i:=2) nd rfl (Or.inl rfl) (pfn G_common_divisor hr (À (pixT (K:=K) (pv 0) Á) (À (pixT (K:=K) (pv 1) Á) Â))))
   (Ä (Í (i:=3) nd rfl (Or.inl rfl) (Æ Ú (pixT (K:=K) (pv 0) Á) (pv 2)))
   (Ä (Í (i:=4) nd rfl (Or.inl rfl) (Æ è (Æ ß (pixT (K:=K) (pv 0) Á) (Æ Ú (pixT (K:=K) (pv 1) Á) (pv 2))) (Æ ß (pixT (K:=K) (pv 1) Á) (pv 3))))
   (Ä (Í (i:=5) nd rfl (Or.inl rfl) (pfn G_common_divisor hr (À (pv 4) (À (pv 2) Â))))
   (Å (É (Õ (À (Æ Ú (pv 4) (pv 5)) (À (Æ ß (pv 3) (Æ Ú (pixT (K:=K) (pv 1) Á) (pv 5))) Â))))))))),?_⟩
  have d1:=Î r;have d2:=Î q;have i0:∀(i:Nat),i<=8000->(2:Nat)^i<=2^9000:=fun i hi=>Þ (by lia);refine(ex1 rfl ⟨a,_,_,_,rfl,rfl,SqT.of ha,rfl,ex1 rfl ⟨b,_,_,_,rfl,rfl,SqT.of hb,rfl,_,_,rfl,(by lia),?_⟩⟩);have s0:dv r.den q.den≠0:=zX8 (by lia);have sle:(dv (r.den:Int) q.den).natAbs<=((q.den:Int)).natAbs:=yO9 (by lia);have sdiv:∀i,ε i (dv (r.den:Int) q.den):=fun i=>bq.divR (by decide) s0 sle;generalize hs:dv (r.den:Int) q.den=s1 at *;refine(ex1 rfl ⟨a,_,_,_,rfl,rfl,SqT.of ha,rfl,ex1 rfl ⟨_,_,rfl,rfl,sdiv _,?_⟩⟩);have le1:∀{x:Int} {m:Nat},x.natAbs<2^m->(x.fdiv s1).natAbs<2^(m+1):=fun {x m} hx=>by
   have:=natAbs_fdiv_le x s1;rw[ł];lia
  have hrest:((r.den:Int).fdiv s1).natAbs<2^8001:=le1 br.den;have hq1:((q.den:Int).fdiv s1).natAbs<2^8001:=le1 bq.den;refine(ex1 rfl ⟨a,_,_,_,rfl,rfl,SqT.of ha,rfl,ex1 rfl ⟨b,_,_,_,rfl,rfl,SqT.of hb,rfl,ex1 rfl ⟨_,_,rfl,rfl,sdiv _,_,_,rfl,rfl,Ü 8001 (Ă br.num (Þ (by decide))) hq1 (by decide),ex1 rfl ⟨b,_,_,_,rfl,rfl,SqT.of hb,rfl,ex1 rfl ⟨_,_,rfl,rfl,Ü 8001 (Ă bq.num (Þ (by decide))) hrest (by decide),_,_,rfl,rfl,?_⟩⟩⟩⟩⟩);refine(ex1 rfl (ex1 rfl ⟨_,_,rfl,s0,?_⟩));have d0:dv (r.num*(q.den:Int).fdiv s1+q.num*(r.den:Int).fdiv s1) s1≠0:=zX8 s0;have dle:(dv (r.num*(q.den:Int).fdiv s1+q.num*(r.den:Int).fdiv s1) s1).natAbs<=((q.den:Int)).natAbs:=ĉ (yO9 s0) sle;have ddiv:∀i,ε i (dv (r.num*(q.den:Int).fdiv s1+q.num*(r.den:Int).fdiv s1) s1):=fun i=>bq.divR (by decide) d0 dle;obtain⟨e1,e2⟩:=xB3 r q hs.symm rfl rfl rfl;have hq2:((q.den:Int).fdiv (dv (r.num*(q.den:Int).fdiv s1+q.num*(r.den:Int).fdiv s1) s1)).natAbs<2^8001:=by
   have:=natAbs_fdiv_le (q.den:Int) (dv (r.num*(q.den:Int).fdiv s1+q.num*(r.den:Int).fdiv s1) s1);have z:((q.den:Int)).natAbs<2^8000:=bq.den;rw[ł];lia
  refine(ex1 rfl (ex1 rfl ⟨_,_,rfl,rfl,ddiv _,ex1 rfl (ex1 rfl ⟨b,_,_,_,rfl,rfl,SqT.of hb,rfl,ex1 rfl ⟨_,_,rfl,rfl,ddiv _,_,_,rfl,rfl,Ü 8001 hrest hq2 (by decide),szn,fun p hp=>?_⟩⟩)⟩));exact k _ _ (Same.upd hp) (FrV.newOf e1 e2)
noncomputable abbrev yA1:Stmt:=top 10
theorem sc_minus:Ï ["one","other"] ["one","other"] (Ç yA1):=scF
theorem yT4 {ca:Ca}(D:DefAt K mg "minus" yA1)(T:Txt K mg ca)(G_plus:FnAt P w K mg base CX0 2 "plus" ["one","other"] (zW3)):FnAt P w K mg base CX0 3 "minus" ["one","other"] (Δ):=by
 refine D.ok sc_minus (fun vs H Q E h=>?_) (fun _ _ _ _ _ _ us hl=>match us,hl with | [_,_],_=>rfl) (fun f cdv A outer s H vs Q E hr h=>?_)
 all_goals obtain⟨_,_,r,q,rfl,hx,⟨b,rfl,hb⟩,br,bq,k⟩:=h
 ·rfl
 ·have nd:=sc_minus.nd;refine⟨_,(Å (É (pfn G_plus hr (À (pv 0) (À (Õ (À (Æ ô Á (pixT (K:=K) (pv 1) Á)) (À (pixT (K:=K) (pv 1) Á) Â))) Â))))),?_⟩;refine⟨_,rfl,_,rfl,b,_,_,_,rfl,rfl,SqT.of hb,rfl,_,_,rfl,rfl,_,rfl,b,_,_,_,rfl,rfl,SqT.of hb,rfl,szn,fun p hp=>?_⟩;refine⟨_,_,r,-q,rfl,hx.upd hp,FrV.newOf (yF2 q).1 (yF2 q).2,br,bq.neg,fun v H' s' h=>?_⟩;have h:FrV H' v (r + -q):=h;rw[xF2]at h;exact k v H' ((Same.upd hp).trans s') h
noncomputable abbrev yA0:Stmt:=top 11
theorem sc_times:Ï ["one","other","left","right"] ["one","other"] (Ç yA0):=scF
theorem yT3 {ca:Ca}(D:DefAt K mg "times" yA0)(T:Txt K mg ca)(G_common_divisor:FnAt P w K mg base CX0 1 "common_divisor" ["top","bottom"] (spCd)):FnAt P w K mg base CX0 2 "times" ["one","other"] (spTimes):=by
 refine D.ok sc_times (fun vs H Q E h=>?_) (fun _ _ _ _ _ _ us hl=>match us,hl with | [_,_],_=>rfl) (fun f cdv A outer s H vs Q E hr h=>?_)
 all_goals obtain⟨_,_,a,b,t1,b1,t2,b2,rfl,rfl,ha,rfl,hb,p1,n2,c1,c2,⟨z1,z2,z3,z4⟩,k⟩:=h
 ·rfl
 ·have nd:=sc_times.nd;refine⟨_,(Ä (Í (i:=2) nd rfl (Or.inl rfl) (pfn G_common_divisor hr (À (pixT (K:=K) (pv 0) Á) (À (pixT (K:=K) (pv 1) Á) Â))))
   (Ä (Í (i:=3) nd rfl (Or.inl rfl) (pfn G_common_divisor hr (À (pixT (K:=K) (pv 1) Á) (À (pixT (K:=K) (pv 0) Á) Â))))
   (Å (É (Õ (À (Æ ß (Æ Ú (pixT (K:=K) (pv 0) Á) (pv 2)) (Æ Ú (pixT (K:=K) (pv 1) Á) (pv 3))) (À (Æ ß (Æ Ú (pixT (K:=K) (pv 0) Á) (pv 3)) (Æ Ú (pixT (K:=K) (pv 1) Á) (pv 2))) Â))))))),?_⟩
  refine(ex1 rfl ⟨a,_,_,_,rfl,rfl,SqT.of ha,rfl,ex1 rfl ⟨b,_,_,_,rfl,rfl,SqT.of hb,rfl,_,_,rfl,n2,?_⟩⟩);have l0:dv t1 b2≠0:=zX8 n2;have lle:(dv t1 b2).natAbs<=b2.natAbs:=yO9 n2;have r0:dv t2 b1≠0:=zX8 (by lia);have rle:(dv t2 b1).natAbs<=b1.natAbs:=yO9 (by lia);have ldiv:∀i,ε i (dv t1 b2):=fun i=>ű l0 (ă lle (Ă z4 (Þ (by decide))));have rdiv:∀i,ε i (dv t2 b1):=fun i=>ű r0 (ă rle (Ă z2 (Þ (by decide))));refine(ex1 rfl ⟨b,_,_,_,rfl,rfl,SqT.of hb,rfl,ex1 rfl ⟨a,_,_,_,rfl,rfl,SqT.of ha,rfl,_,_,rfl,(by lia),?_⟩⟩);generalize hl:dv t1 b2=l at *;generalize hr:dv t2 b1=r at *;obtain⟨e1,e2⟩:=yR4 p1 n2 c1 c2 hl.symm hr.symm;have le1:∀{x d:Int},x.natAbs<2^8000->(x.fdiv d).natAbs<2^8001:=fun {x d} hx=>by
   have:=natAbs_fdiv_le x d;rw[ł];lia
  refine(ex1 rfl ⟨a,_,_,_,rfl,rfl,SqT.of ha,rfl,ex1 rfl ⟨_,_,rfl,rfl,ldiv _,ex1 rfl ⟨b,_,_,_,rfl,rfl,SqT.of hb,rfl,ex1 rfl ⟨_,_,rfl,rfl,rdiv _,_,_,rfl,rfl,Ü 8001 (le1 z1) (le1 z3) (by decide),ex1 rfl ⟨a,_,_,_,rfl,rfl,SqT.of ha,rfl,ex1 rfl ⟨_,_,rfl,rfl,rdiv _,ex1 rfl ⟨b,_,_,_,rfl,rfl,SqT.of hb,rfl,ex1 rfl ⟨_,_,rfl,rfl,ldiv _,_,_,rfl,rfl,Ü 8001 (le1 z2) (le1 z4) (by decide),szn,fun p hp=>?_⟩⟩⟩⟩⟩⟩⟩⟩);exact k _ _ (Same.upd hp) (FrV.newOf e1 e2)
noncomputable abbrev yJ9:Stmt:=top 12
theorem sc_over:Ï ["one","other"] ["one","other"] (Ç yJ9):=scF
theorem xC2 {ca:Ca}(D:DefAt K mg "over" yJ9)(T:Txt K mg ca)(G_times:FnAt P w K mg base CX0 2 "times" ["one","other"] (spTimes)):FnAt P w K mg base (CXE P w) 3 "over" ["one","other"] (yE0 ca.NoNumber):=by
 refine D.okE sc_over (fun vs H Q E h=>?_) (fun _ _ _ _ _ _ us hl=>match us,hl with | [_,_],_=>rfl) (fun f cdv A outer s H vs Q E hr h=>?_)
 all_goals obtain⟨_,_,r,q,rfl,⟨a,rfl,ha⟩,⟨b,rfl,hb⟩,br,bq,k,kE⟩:=h
 ·rfl
 ·have nd:=sc_over.nd;refine⟨_,(Ä (á (Ð ï (pixT (K:=K) (pv 1) Á) Á (Ò _)) (Å (yS7 yK7 rfl (by rfl) T.c_NoNumber T.e_NoNumber PySem.F.excBase_ValueError (À å Â))) Ó)
   (Å (É (pfn G_times hr (À (pv 0) (À (Õ (À (pixT (K:=K) (pv 1) Á) (À (pixT (K:=K) (pv 1) Á) Â))) Â)))))),?_⟩
  refine⟨_,rfl,b,_,_,_,rfl,rfl,SqT.of hb,rfl,rfl,_,rfl,?_⟩;refine ite2 (fun h1=>?_) (fun h1=>?_)
  ·have e:V.int q.num = .int 0:=of_decide_eq_true h1;have e:q=0:=Rat.num_eq_zero.mp (V.int.inj e);exact⟨szn,kE e⟩
  have hn:q.num≠0:=fun z=>h1 (decide_eq_true (by rw[z]));have hq:q≠0:=fun z=>hn (Rat.num_eq_zero.mpr z);refine⟨_,rfl,_,rfl,b,_,_,_,rfl,rfl,SqT.of hb,rfl,_,rfl,b,_,_,_,rfl,rfl,SqT.of hb,rfl,szn,fun p hp=>?_⟩;have ne:a≠p:=ê ha hp;refine⟨_,_,a,p,r.num,r.den,q.den,q.num,rfl,rfl,(by rw[upd_ne ne];exact ha),rfl,Ã,Î r,hn,zG0 r,yF4 q,⟨br.num,br.den,bq.den,bq.num⟩,fun v H' s' h=>?_⟩;rw[xL0 r q hn]at h;exact k hq v H' ((Same.upd hp).trans s') h
noncomputable abbrev zZ8:Stmt:=top 13
theorem sc_under:Ï ["one","other"] ["one","other"] (Ç zZ8):=scF
theorem yT1 {ca:Ca}(D:DefAt K mg "under" zZ8)(T:Txt K mg ca):FnAt P w K mg base CX0 1 "under" ["one","other"] (zR0):=by
 refine D.ok sc_under (fun vs H Q E h=>?_) (fun _ _ _ _ _ _ us hl=>match us,hl with | [_,_],_=>rfl) (fun f cdv A outer s H vs Q E hr h=>?_)
 all_goals obtain⟨_,_,r,q,rfl,⟨a,rfl,ha⟩,⟨b,rfl,hb⟩,br,bq,k⟩:=h
 ·rfl
 ·have nd:=sc_under.nd;refine⟨_,(Å (É (ø υ (Æ ß (pixT (K:=K) (pv 0) Á) (pixT (K:=K) (pv 1) Á)) (Æ ß (pixT (K:=K) (pv 1) Á) (pixT (K:=K) (pv 0) Á)) (Ò _)))),?_⟩;refine⟨_,rfl,a,_,_,_,rfl,rfl,SqT.of ha,rfl,_,rfl,b,_,_,_,rfl,rfl,SqT.of hb,rfl,_,_,rfl,rfl,Ü 8000 br.num bq.den (by decide),_,rfl,b,_,_,_,rfl,rfl,SqT.of hb,rfl,_,rfl,a,_,_,_,rfl,rfl,SqT.of ha,rfl,_,_,rfl,rfl,Ü 8000 bq.num br.den (by decide),_,_,rfl,rfl,?_⟩;rw[<- _root_.Tc.lt_ok]at k;exact k
noncomputable abbrev zR5:Stmt:=top 14
theorem sc_sum_of:Ï ["some","whole","share"] ["some"] (Ç zR5):=scF
theorem yL9 {ca:Ca}(D:DefAt K mg "sum_of" zR5)(T:Txt K mg ca)(G_plus:FnAt P w K mg base CX0 2 "plus" ["one","other"] (zW3)):FnAt P w K mg base CX0 3 "sum_of" ["some"] (zR1 K):=by
 refine D.ok sc_sum_of (fun vs H Q E h=>?_) (fun _ _ _ _ _ _ us hl=>match us,hl with | [_],_=>rfl) (fun f cdv A outer s H vs Q E hr h=>?_)
 all_goals obtain⟨a,xs,rs,rfl,hS,hP,hB,hT,k⟩:=h
 ·rfl
 ·have nd:=sc_sum_of.nd;refine⟨_,(Ä (Í (i:=1) nd rfl (Or.inl rfl) (Õ (À Á (À Á Â))))
   (Ä (ů PassesOwn.never rfl (ç (K:=K) rfl (pv 0)) (Ì (i:=2) nd rfl (Or.inl rfl)) (Å (Í (i:=1) nd rfl (Or.inl rfl) (pfn G_plus hr (À (pv 1) (À (pv 2) Â))))))
   (Å (É (pv 1))))),?_⟩
  refine⟨szn,fun p0 hp0=>?_⟩;have hl:xs.length=rs.length:=hP.length;refine⟨_,rfl,a,rfl,⟨_,(Same.upd hp0).seq hS⟩,?_⟩;refine zI6 (xs:=xs) (fun i σ H1=>∃v2:Option V,∃w1:V,σ=[some (.ref a),some w1,v2] /\ Same H H1 /\ FrV H1 w1 (sumQ (rs.take i))) ⟨none,.ref p0,rfl,Same.upd hp0,FrV.newOf rfl rfl⟩ ?_ ?_ ?_
  ·rintro i σ H1 hi ⟨v2,w1,rfl,s1,h1⟩;exact s1.seq hS
  ·rintro i x σ H1 hx ⟨v2,w1,rfl,s1,h1⟩;obtain⟨r,hr,fr⟩:=Ê hP hx;have hi:i<rs.length:=(Ą.mp hr).1;refine⟨_,rfl,_,rfl,_,_,_,_,rfl,h1,fr.same s1,hT i (by lia),hB r (đ hr),fun v H2 s2 h2=>?_⟩;refine⟨_,_,rfl,s1.trans s2,?_⟩;rw[yJ0 hr];exact h2
  ·rintro σ H1 ⟨v2,w1,rfl,s1,h1⟩;rw[hl,ŏ]at h1;exact⟨_,rfl,k _ _ s1 h1⟩
noncomputable abbrev zZ9:Stmt:=top 16
theorem sc_total:Ï ["wine"] ["wine"] (Ç zZ9):=scF
theorem yT2 {ca:Ca}(D:DefAt K mg "total" zZ9)(T:Txt K mg ca)(G_sum_of:FnAt P w K mg base CX0 3 "sum_of" ["some"] (zR1 K)):FnAt P w K mg base CX0 4 "total" ["wine"] (spTotal):=by
 refine D.ok sc_total (fun vs H Q E h=>?_) (fun _ _ _ _ _ _ us hl=>match us,hl with | [_],_=>rfl) (fun f cdv A outer s H vs Q E hr h=>?_)
 all_goals obtain⟨_,W,now,rfl,⟨d,kvs,rfl,hd,hE⟩,ok,k⟩:=h
 ·rfl
 ·have nd:=sc_total.nd;refine⟨_,(Å (É (pfn G_sum_of hr (À (ÿ (zQ0 rfl) (by rfl) T.z_list Α (À (zS1 (K:=K) rfl PySem.F.plainAttrs_dict PySem.F.slot_dict_values PySem.F.type_dict_values xC4 (pv 0)) Â)) Â)))),?_⟩;refine⟨_,rfl,.inr (.inr (.inl ⟨rfl,.inr ⟨_,hd⟩⟩)),d,_,rfl,rfl,hd,rfl,fun pv hpv=>?_⟩;have t1:=Same.upd (o:=zZ3 pv d) hpv;refine⟨pv,d,_,rfl,Ã,t1 _ _ hd,rfl,fun ps hps l hl=>?_⟩;have hps:Paired (fun kv p=>∃b,p=(V.ref b,kv.2) /\ upd H pv (zZ3 pv d) b=some (.tup (kv.1.map kV))) kvs ps:=hps;have t2:=t1.trans (Same.upd (o:=.lst (ps.map (·.2))) hl);have hP:Paired (FrV (upd (upd H pv (zZ3 pv d)) l (.lst (ps.map (·.2))))) (ps.map (·.2)) (W.map (·.2)):=by
   have key:∀{kvs:List (List Key×V)} {ps:List (V×V)} {W:List Ent},Paired (fun kv p=>∃b,p=(V.ref b,kv.2) /\ upd H pv (zZ3 pv d) b=some (.tup (kv.1.map kV))) kvs ps->Paired (EnV H) kvs W->Paired (FrV H) (ps.map (·.2)) (W.map (·.2)):=by
    intro kvs ps W h1
    induction h1 generalizing W with
    | nil=>intro h2;cases h2;exact .nil
    | cons h t ih =>
     intro h2;cases h2 with
     | cons g u =>
      obtain⟨b,e,_⟩:=h;refine .cons ?_ (ih u);rw[e];exact g.2
   exact î t2 (key hps hE)
  refine⟨l,ps.map (·.2),(W.map fun e:Ent=>e.2:List Rat),rfl,SqL.of Ã,hP,fun r hr=>?_,fun j hj=>?_,fun u H' s' f'=>k u H' (t2.trans s') (show FrV H' u (totQ W) from f')⟩
  ·obtain⟨e,he,rfl⟩:=ŀ.mp hr;exact(ok.all e he).bd.mono (by decide)
  ·have l3:=ok.len;have key:∀(rs:List Rat),(∀r∈rs,Bd 100 r)->rs.length<=3->Bd 8000 (sumQ rs):=by
    intro rs h hl
    match rs,hl with
    | [],_=>exact⟨by decide,by decide⟩
    | [a],_=>exact(((show Bd 100 (0:Rat) from⟨by decide,by decide⟩).add (h a (by simp))).mono (by decide))
    | [a,b],_=>exact((((show Bd 100 (0:Rat) from⟨by decide,by decide⟩).add (h a (by simp))).add (h b (by simp))).mono (by decide))
    | [a,b,c],_=>exact(((((show Bd 100 (0:Rat) from⟨by decide,by decide⟩).add (h a (by simp))).add (h b (by simp))).add (h c (by simp))).mono (by decide))
   refine key _ (fun r hr=>?_) ?_
   ·obtain⟨e,he,rfl⟩:=ŀ.mp (List.mem_of_mem_take hr);exact(ok.all e he).bd
   ·rw[Ĥ,ą];lia
noncomputable abbrev zR4:Stmt:=top 18
theorem sc_weight:Ï ["condition","lot","now","meant"] ["condition","lot","now"] (Ç zR4):=scF
theorem yL8 {ca:Ca}(D:DefAt K mg "weight" zR4)(T:Txt K mg ca)(G_minus:FnAt P w K mg base CX0 3 "minus" ["one","other"] (Δ))(G_means:FnAt P w K mg base CX0 5 "means" ["pick","lot","now"] (zR2 4)):FnAt P w K mg base CX0 6 "weight" ["condition","lot","now"] (spWeight):=by
 refine D.ok sc_weight (fun vs H Q E h=>?_) (fun _ _ _ _ _ _ us hl=>match us,hl with | [_,_,_],_=>rfl) (fun f cdv A outer s H vs Q E hr h=>?_)
 all_goals obtain⟨v,l,z,y,now,c,rfl,hl,hc,hB,hn,k⟩:=h
 ·rfl
 ·have nd:=sc_weight.nd;refine⟨_,(Ä (á (Ð ï (pixT (K:=K) (pv 0) Á) å (Ò _)) (Å (É (pfn G_minus hr (À (Õ (À (Æ ô (pv 2) (pixT (K:=K) (pv 1) Á)) (À Á Â))) (À (pixT (K:=K) (pv 0) Á) Â))))) Ó)
   (Ä (Í (i:=3) nd rfl (Or.inl rfl) (yS8 (ö (pfn G_means hr (À (pixT (K:=K) (pv 0) Á) (À (pv 1) (À (pv 2) Â))))) (Õ (À Á (À Á Â))) (Õ (À Á (À Á Â)))))
   (Ä (á (Ð ï (pixT (K:=K) (pv 0) Á) å (Ò _)) (Å (É (pfn G_minus hr (À (pixT (K:=K) (pv 0) Á) (À (pv 3) Â))))) Ó)
   (Å (É (pfn G_minus hr (À (pv 3) (À (pixT (K:=K) (pv 0) Á) Â)))))))),?_⟩
  have bi:∀b:Bool,Bd 8000 ((Υ b:Int):Rat):=fun b=>by cases b<;>exact⟨by decide,by decide⟩
  have fr:∀{H1:Hp} {p:Addr} {i:Int},FrV (upd H1 p (.tup [.int i,.int 1])) (.ref p) (i:Rat):=fun {H1 p i}=>FrV.newOf rfl rfl;cases c with
  | mean r =>
   obtain⟨a,x,rfl,ha,hx⟩:=hc;refine(ex1 rfl ⟨a,_,_,_,rfl,rfl,SqT.of ha,rfl,rfl,ex1 rfl ?_⟩);refine ù rfl ?_;refine(ex1 rfl (ex1 rfl ⟨l,_,_,_,rfl,rfl,SqT.of hl,rfl,_,_,rfl,rfl,szn,fun p hp=>?_⟩));refine(ex1 rfl ⟨a,_,_,_,rfl,rfl,SqT.of ((Same.upd hp) _ _ ha),rfl,?_⟩);refine⟨_,_,_,r,rfl,fr,hx.upd hp,⟨Ă hn (Þ (by decide)),by show 1<2^8000;exact Nat.one_lt_two_pow (by decide)⟩,hB.mono (by decide),fun u H' s f=>?_⟩;exact k u H' ((Same.upd hp).trans s) f
  | least r p =>
   obtain⟨a,x,w1,rfl,ha,hx,hp,hd⟩:=hc;refine(ex1 rfl ⟨a,_,_,_,rfl,rfl,SqT.of ha,rfl,rfl,ex1 rfl ?_⟩);refine Ù (by decide +kernel) ?_;have fin:∀{σ:St} {H1:Hp} {u:V} {b:Bool},Same H H1->FrV H1 u ((Υ b:Int):Rat)->b=mean z y now p->σ=[some (.ref a),some (.ref l),some (.int now),some u] ->
     (tSeq (tIfS (yZ4 (tOp rEq (tOp (rIxT K) (tVar 0) (tC (.int 0))) (tC (.str "most")))) (tRet (zZ6 Δ [] E0 (ι (tOp (rIxT K) (tVar 0) (tC (.int 1))) (ι (tVar 3) tNil)))) yZ6)
      (tRet (zZ6 Δ [] E0 (ι (tVar 3) (ι (tOp (rIxT K) (tVar 0) (tC (.int 1))) tNil))))) { nx:=fun _ H'=>Q .non H',rt:=Q } σ H1:=by
    rintro σ H1 u b s1 f1 rfl rfl;refine(ex1 rfl ⟨a,_,_,_,rfl,rfl,SqT.of (s1 _ _ ha),rfl,rfl,ex1 rfl ?_⟩);refine Ù (by decide +kernel) ?_;refine(ex1 rfl (ex1 rfl ⟨a,_,_,_,rfl,rfl,SqT.of (s1 _ _ ha),rfl,?_⟩));exact⟨_,_,_,r,rfl,f1,hx.same s1,bi _,hB.mono (by decide),fun u H' s f=>k u H' (s1.trans s) f⟩
   refine(ex1 rfl ⟨a,_,_,_,rfl,rfl,SqT.of ha,rfl,ex1 rfl (ex1 rfl ⟨w1,l,z,y,now,p,rfl,hl,hp,hd,ex1 rfl ?_⟩)⟩);refine ite2 (fun e=>?_) (fun e=>?_)
   ·exact⟨szn,fun p1 hp1=>fin (b:=true) (Same.upd hp1) fr e.symm rfl⟩
   ·exact⟨szn,fun p1 hp1=>fin (b:=false) (Same.upd hp1) fr (ŗ.mpr e).symm rfl⟩
  | most r p =>
   obtain⟨a,x,w1,rfl,ha,hx,hp,hd⟩:=hc;refine(ex1 rfl ⟨a,_,_,_,rfl,rfl,SqT.of ha,rfl,rfl,ex1 rfl ?_⟩);refine Ù (by decide +kernel) ?_;have fin:∀{σ:St} {H1:Hp} {u:V} {b:Bool},Same H H1->FrV H1 u ((Υ b:Int):Rat)->b=mean z y now p->σ=[some (.ref a),some (.ref l),some (.int now),some u] ->
     (tSeq (tIfS (yZ4 (tOp rEq (tOp (rIxT K) (tVar 0) (tC (.int 0))) (tC (.str "most")))) (tRet (zZ6 Δ [] E0 (ι (tOp (rIxT K) (tVar 0) (tC (.int 1))) (ι (tVar 3) tNil)))) yZ6)
      (tRet (zZ6 Δ [] E0 (ι (tVar 3) (ι (tOp (rIxT K) (tVar 0) (tC (.int 1))) tNil))))) { nx:=fun _ H'=>Q .non H',rt:=Q } σ H1:=by
    rintro σ H1 u b s1 f1 rfl rfl;refine(ex1 rfl ⟨a,_,_,_,rfl,rfl,SqT.of (s1 _ _ ha),rfl,rfl,ex1 rfl ?_⟩);refine ù rfl ?_;refine(ex1 rfl ⟨a,_,_,_,rfl,rfl,SqT.of (s1 _ _ ha),rfl,ex1 rfl ?_⟩);exact⟨_,_,r,ex1 rfl ⟨hx.same s1,f1,hB.mono (by decide),bi _,fun u H' s f=>k u H' (s1.trans s) f⟩⟩
   refine(ex1 rfl ⟨a,_,_,_,rfl,rfl,SqT.of ha,rfl,ex1 rfl (ex1 rfl ⟨w1,l,z,y,now,p,rfl,hl,hp,hd,ex1 rfl ?_⟩)⟩);refine ite2 (fun e=>?_) (fun e=>?_)
   ·exact⟨szn,fun p1 hp1=>fin (b:=true) (Same.upd hp1) fr e.symm rfl⟩
   ·exact⟨szn,fun p1 hp1=>fin (b:=false) (Same.upd hp1) fr (ŗ.mpr e).symm rfl⟩
noncomputable abbrev zN0:Stmt:=top 19
theorem sc_balance:Ï ["condition","wine","now","whole","lot","amount"] ["condition","wine","now"] (Ç zN0):=scF
theorem yH8 {ca:Ca}(D:DefAt K mg "balance" zN0)(T:Txt K mg ca)(G_plus:FnAt P w K mg base CX0 2 "plus" ["one","other"] (zW3))(G_times:FnAt P w K mg base CX0 2 "times" ["one","other"] (spTimes))(G_weight:FnAt P w K mg base CX0 6 "weight" ["condition","lot","now"] (spWeight)):FnAt P w K mg base CX0 7 "balance" ["condition","wine","now"] (spBal):=by
 refine D.ok sc_balance (fun vs H Q E h=>?_) (fun _ _ _ _ _ _ us hl=>match us,hl with | [_,_,_],_=>rfl) (fun f cdv A outer s H vs Q E hr h=>?_)
 all_goals obtain⟨v,_,now,c,W,rfl,hc,bc,⟨d,kvs,rfl,hd,hE⟩,ok,k⟩:=h
 ·rfl
 ·have nd:=sc_balance.nd;refine⟨_,(Ä (Í (i:=3) nd rfl (Or.inl rfl) (Õ (À Á (À Á Â))))
   (Ä (xB1 (ů PassesOwn.never rfl (zS0 (zS1 (K:=K) rfl PySem.F.plainAttrs_dict PySem.F.slot_dict_items PySem.F.type_dict_items zU4 (pv 1))) (ì (K:=K) (n:=2) (by rfl) (by rfl) (Ñ (Ì (i:=4) nd rfl (Or.inl rfl)) (Ñ (Ì (i:=5) nd rfl (Or.inl rfl)) ë))) (Å (Í (i:=3) nd rfl (Or.inl rfl) (pfn G_plus hr (À (pv 3) (À (pfn G_times hr (À (pv 5) (À (pfn G_weight hr (À (pv 0) (À (pv 4) (À (pv 2) Â)))) Â))) Â)))))))
   (Å (É (pv 3))))),?_⟩
  refine⟨szn,fun q0 hq0=>?_⟩;have t0:=Same.upd (o:=.tup [.int 0,.int 1]) hq0;have hd0:=t0 _ _ hd;have f0:FrV (upd H q0 (.tup [.int 0,.int 1])) (.ref q0) 0:=FrV.newOf rfl rfl;have hc0:=RepC.same t0 hc;have hE0:Paired (EnV (upd H q0 (.tup [.int 0,.int 1]))) kvs W:=Paired.mapP hE fun _ _ f=>⟨f.1,f.2.same t0⟩;generalize upd H q0 (.tup [.int 0,.int 1])=H0 at *;refine⟨d,_,hd0,rfl,?_⟩;refine(ex1 rfl ⟨.inr (.inr (.inl ⟨rfl,.inr ⟨_,hd0⟩⟩)),d,ex1 rfl ⟨rfl,hd0,rfl,fun pv hpv=>?_⟩⟩);have t1:=Same.upd (o:=η pv d) hpv;refine⟨pv,d,ex1 rfl ⟨Ã,t1 _ _ hd0,rfl,fun o ps hps=>?_⟩⟩;have hps:Paired (fun kv p=>∃b,p=(V.ref b,kv.2) /\ upd H0 pv (η pv d) b=some (.tup (kv.1.map kV))) kvs ps:=hps;have lps:ps.length=W.length:=by rw[<- hps.length,hE.length]
  have hd1:=t1 _ _ hd0;have hc1:=RepC.same t1 hc0;have hE1:Paired (EnV (upd H0 pv (η pv d))) kvs W:=Paired.mapP hE0 fun _ _ f=>⟨f.1,f.2.same t1⟩;have f1:=f0.same t1;have s01:=t0.trans t1;generalize upd H0 pv (η pv d)=H1 at *;have notd:∀{b:Addr} {zs:List V},H1 b=some (.tup zs)->b≠d:=fun e=>zU2 e hd1 (by intro z;cases z);refine yO4 (fun i σ H2=>∃(v4 v5:Option V) (w:V),σ=[some v,some (.ref d),some (.int now),some w,v4,v5] /\ H2 d=some (.frz o (.dT kvs)) /\ (∀b ob,H1 b=some ob->b≠d->H2 b=some ob) /\ FrV H2 w (balQ now c (W.take i))) ?_ ?_ ?_ ?_
  ·refine⟨none,none,ex1 rfl ⟨Ã,fun b ob e n=>by rw[upd_ne n];exact e,?_⟩⟩;exact f1.tup fun a zs e=>by rw[upd_ne (notd e)];exact e
  ·rintro i σ H2 ⟨_,_,_,_,h,_⟩;exact h
  ·rintro i k' a' T σ H2 hk ⟨v4,v5,w,rfl,hfz,kp,fw'⟩ hT;obtain⟨b,e,rfl,hb,he,fa⟩:=yL0 hps hE1 hk;have ti:=Same.upd (o:=.tup [V.ref b,a']) hT;have kt:∀x zs,H1 x=some (.tup zs)->upd H2 T (.tup [V.ref b,a']) x=some (.tup zs):=fun x zs e=>ti _ _ (kp _ _ e (notd e));have hem:=đ he;have oke:=ok.all e hem;have rc:RepC (upd H2 T (.tup [V.ref b,a'])) c v:=RepC.tup kt hc1;refine⟨T,ex1 rfl ⟨SqT.of Ã,rfl,_,_,rfl,_,_,rfl,rfl,?_⟩⟩;refine(ex1 rfl (ex1 rfl (ex1 rfl (ex1 rfl (ex1 rfl (È ?_))))));refine spWeight.mk (Ez:=E0) (kt _ _ hb) rc bc oke.yr (fun u4 H4 s4 f4=>?_);have bw:=xM3 (z:=e.1.1) (y:=e.1.2) (now:=now) bc oke.yr;refine spTimes.of (E:=E0) rfl ((fa.tup kt).same s4) f4 (oke.bd.mono (by decide)) (bw.mono (by decide)) fun u5 H5 s5 f5=>?_;have s45:=s4.trans s5;refine⟨_,_,balQ now c (W.take i),e.2*wt e.1.1 e.1.2 now c,rfl,(fw'.same ti).same s45,f5,(yC4 (fun e he=>ok.all e (List.mem_of_mem_take he)) (by have:=ok.len;rw[Ĥ];lia) bc).mono (by decide),(oke.bd.mul bw).mono (by decide),fun u6 H6 s6 f6=>?_⟩;have s6':=s45.trans s6;refine⟨_,_,u6,rfl,s6' _ _ (ti _ _ hfz),fun x ob ex n=>s6' _ _ (ti _ _ (kp x ob ex n)),?_⟩;have ew:W.take (i+1)=W.take i++[e]:=by rw[Ŋ,he];rfl
   unfold balQ;rw[ew,zM4];exact f6
  ·rintro σ H2 ⟨v4,v5,w,rfl,hfz,kp,fw'⟩;rw[lps,ŏ]at fw';have sH:Same H (upd H2 d (.dT kvs)):=fun x ob ex=>by
    by_cases z:x=d
    ·subst z;rw[Ã];rw[hd]at ex;exact ex
    ·rw[upd_ne z];exact kp _ _ (s01 _ _ ex) z
   refine⟨o,_,hfz,ex1 rfl (k w _ sH ?_)⟩;obtain⟨x,e,hx⟩:=fw';exact⟨x,e,by rw[upd_ne (zU2 hx hfz (by intro z;cases z))];exact hx⟩
noncomputable abbrev zE1:Stmt:=top 21
theorem sc_weights_in:Ï ["offer","label","now","rows","condition"] ["offer","label","now"] (Ç zE1):=scF
theorem zS3 {ca:Ca}(D:DefAt K mg "weights_in" zE1)(T:Txt K mg ca)(G_over:FnAt P w K mg base (CXE P w) 3 "over" ["one","other"] (yE0 ca.NoNumber))(G_total:FnAt P w K mg base CX0 4 "total" ["wine"] (spTotal))(G_balance:FnAt P w K mg base CX0 7 "balance" ["condition","wine","now"] (spBal)):FnAt P w K mg base CX0 8 "weights_in" ["offer","label","now"] (spWin K):=by
 refine D.ok sc_weights_in (fun vs H Q E h=>?_) (fun _ _ _ _ _ _ us hl=>match us,hl with | [_,_,_],_=>rfl) (fun f cdv A outer s H vs Q E hr h=>?_)
 all_goals obtain⟨ao,al,now,os,ls,Ws,cs,rfl,hO,hPo,okW,h8,hL,hPl,hc8,k⟩:=h
 ·rfl
 ·have nd:=sc_weights_in.nd;refine⟨_,(Ä (Í (i:=3) nd rfl (Or.inl rfl) (é Â))
   (Ä (ů PassesOwn.never rfl (ç (K:=K) rfl (pv 1)) (Ì (i:=4) nd rfl (Or.inr rfl)) (Å (Ű (Ž (K:=K) rfl PySem.F.plainAttrs_list PySem.F.slot_list_append PySem.F.type_list_append í (pv 3) (À (ò ["wine","price"] ["condition","now"] [4,2] rfl (by rfl) (ç (K:=K) rfl (pv 0)) (fun _ _ _ _=>(ì (K:=K) (n:=2) (by rfl) (by rfl) (Ñ (Ì (i:=0) (show List.Nodup (["wine","price","condition","now"]:List Str) from by decide) rfl (Or.inl rfl) (hf:=Or.inr (by rfl))) (Ñ (Ì (i:=1) (show List.Nodup (["wine","price","condition","now"]:List Str) from by decide) rfl (Or.inl rfl) (hf:=Or.inr (by rfl))) ë)))) (fun _ _ _ _=>ã) (fun _ _ _ _=>(ο G_over hr (by rfl) yL4 (À (pfn G_balance hr (À (pv 2) (À (pv 0) (À (pv 3) Â)))) (À (pfn G_total hr (À (pv 0) Â)) Â))))) Â)))))
   (Å (É (pv 3))))),?_⟩
  have lO:os.length=Ws.length:=hPo.length;have lL:ls.length=cs.length:=hPl.length;refine⟨szn,fun p hp=>?_⟩;have tp:=Same.upd (o:=.lst []) hp;refine(ex1 rfl ⟨al,rfl,⟨_,tp.seq hL⟩,?_⟩);refine zI6 (xs:=ls) (fun i σ H1=>∃(v4:Option V) (rs:List V),σ=[some (.ref ao),some (.ref al),some (.int now),some (.ref p),v4] /\ Same H H1 /\ H1 p=some (.lst rs) /\ Paired (fun v c=>(RwV H1 now Ws v c /\ v ≠ .ref p) /\ ∃a,v = .ref a /\ H a=none) rs (cs.take i)) ⟨none,[],rfl,tp,Ã,.nil⟩ ?_ ?_ ?_
  ·rintro i σ H1 hi ⟨v4,rs,rfl,s1,h1,hR⟩;exact s1.seq hL
  ·rintro i x σ H1 hx ⟨v4,rs,rfl,s1,h1,hR⟩;obtain⟨c,hc,rc,bc⟩:=Ê hPl hx;have hi:i<cs.length:=(Ą.mp hc).1;have lR:rs.length<=8:=by have:=hR.length;rw[Ĥ]at this;lia
   refine(ex1 rfl ⟨.inl ⟨rfl,_,SqL.of h1⟩,ex1 rfl ⟨ao,rfl,⟨_,s1.seq hO⟩,fun D hD=>?_⟩⟩);refine æ (xs:=os) (fun j σ' H'=>∃(v0 v1:Option V) (ys:List V),σ'=[v0,v1,some x,some (.int now)] /\ Same H1 H' /\ H' D=some (.lst ys) /\ Paired (FrV H') ys ((Ws.take j).map fun W=>balQ now c W / totQ W)) ⟨none,none,[],rfl,Same.upd hD,Ã,.nil⟩ ?_ ?_ ?_
   ·rintro j σ' H' hj ⟨v0,v1,ys,rfl,s2,hd,hF⟩;exact(s1.trans s2).seq hO
   ·rintro j y σ' H' hy ⟨v0,v1,ys,rfl,s2,hd,hF⟩;have s02:=s1.trans s2;obtain⟨W,hW,ov⟩:=Ê hPo hy;obtain⟨a,w,pr,rfl,ha,wv⟩:=ov.same s02;have hj:j<Ws.length:=(Ą.mp hW).1;have ok:=okW W (đ hW);have lY:ys.length=min j Ws.length:=by have:=hF.length;rw[ą,Ĥ]at this;exact this
    refine⟨a,ex1 rfl ⟨SqT.of ha,rfl,_,_,rfl,_,_,rfl,rfl,?_⟩⟩;refine(ex1 rfl (ex1 rfl (ex1 rfl (È ?_))));refine spBal.mk (Ez:=E0) (RepC.same s02 rc) bc wv ok (fun u3 H3 s3 f3=>?_);refine(ex1 rfl (È ?_));refine spTotal.mk (Ez:=E0) (wv.same s3) ok (fun u4 H4 s4 f4=>?_);refine⟨_,_,balQ now c W,totQ W,rfl,f3.same s4,f4,(yC4 ok.all ok.len bc).mono (by decide),(yD7 ok).mono (by decide),fun _ u5 H5 s5 f5=>?_,fun e=>absurd e (zV8 ok)⟩;have s25:=s3.trans (s4.trans s5);have hd5:=s25 _ _ hd;refine⟨_,hd5,sz (by lia),_,_,ys++[u5],rfl,(s2.trans s25).updD hD,Ã,?_⟩;have ew:Ws.take (j+1)=Ws.take j++[W]:=by rw[Ŋ,hW];rfl
    rw[ew,ė];have tu:=ð (o:=.lst (ys++[u5])) hd5 (fun _ z=>nomatch z);exact zB3 (Paired.mapP hF fun _ _ f=>(f.same s25).tup tu) (f5.tup tu)
   ·rintro σ' H2 ⟨v0,v1,ys,rfl,s2,hd,hF⟩;rw[lO,ŏ]at hF;have h12:=s2 _ _ h1;refine⟨p,_,_,rfl,rfl,h12,sz (by lia),?_⟩;have npD:p≠D:=ê h1 hD;refine⟨_,rs++[.ref D],rfl,(s1.trans s2).updD hp,Ã,?_⟩;have ec:cs.take (i+1)=cs.take i++[c]:=by rw[Ŋ,hc];rfl
    rw[ec];have tu:=ð (o:=.lst (rs++[.ref D])) h12 (fun _ z=>nomatch z);refine Paired.snoc ?_ ⟨⟨⟨D,ys,rfl,by rw[upd_ne npD.symm];exact hd,Paired.mapP hF fun _ _ f=>f.tup tu⟩,fun e=>npD (V.ref.inj e).symm⟩,D,rfl,s1.free hD⟩;refine Paired.mapP hR fun v c' r=>?_;obtain⟨⟨⟨a,xs,rfl,ha,hX⟩,nr⟩,fr⟩:=r;have nap:a≠p:=fun e=>nr (by rw[e]);exact⟨⟨⟨a,xs,rfl,by rw[upd_ne nap];exact s2 _ _ ha,Paired.mapP hX fun _ _ f=>(f.same s2).tup tu⟩,nr⟩,fr⟩
  ·rintro σ H1 ⟨v4,rs,rfl,s1,h1,hR⟩;rw[lL,ŏ]at hR;exact(ex1 rfl (k p H1 rs hp s1 h1 (Paired.mapP hR fun _ _ f=>⟨f.1.1,f.2⟩)))
noncomputable abbrev zC8:Stmt:=top 22
theorem sc_product_sum:Ï ["some","others"] ["some","others"] (Ç zC8):=scF
theorem zP2 {ca:Ca}(D:DefAt K mg "product_sum" zC8)(T:Txt K mg ca)(G_sum_of:FnAt P w K mg base CX0 3 "sum_of" ["some"] (zR1 K))(G_times:FnAt P w K mg base CX0 2 "times" ["one","other"] (spTimes)):FnAt P w K mg base CX0 4 "product_sum" ["some","others"] (spPs K):=by
 refine D.ok sc_product_sum (fun vs H Q E h=>?_) (fun _ _ _ _ _ _ us hl=>match us,hl with | [_,_],_=>rfl) (fun f cdv A outer s H vs Q E hr h=>?_)
 all_goals obtain⟨a,b,m,f,g,rfl,hA,hB,m8,bf,bg,bS,k⟩:=h
 ·rfl
 ·have nd:=sc_product_sum.nd;refine⟨_,(Å (É (pfn G_sum_of hr (À (ò ["one","other"] [] [] rfl (by rfl) (zN3 (K:=K) rfl (by rfl) T.z_zip (À (pv 0) (À (pv 1) Â))) (fun _ _ _ _=>(ì (K:=K) (n:=2) (by rfl) (by rfl) (Ñ (Ì (i:=0) (show List.Nodup (["one","other"]:List Str) from by decide) rfl (Or.inl rfl) (hf:=Or.inr (by rfl))) (Ñ (Ì (i:=1) (show List.Nodup (["one","other"]:List Str) from by decide) rfl (Or.inl rfl) (hf:=Or.inr (by rfl))) ë)))) (fun _ _ _ _=>ã) (fun _ _ _ _=>(pfn G_times hr (À (pv 0) (À (pv 1) Â))))) Â)))),?_⟩;obtain⟨xs,ha,pX⟩:=hA;obtain⟨ys,hb,pY⟩:=hB;have lX:xs.length=m:=pX.length.trans (Ý _ _);have lY:ys.length=m:=pY.length.trans (Ý _ _);refine(ex1 rfl (ex1 rfl ⟨a,b,xs,ys,rfl,SqL.of ha,SqL.of hb,fun D hD=>?_⟩));refine zP0 (xs:=xs) (ys:=ys) (fun j σ' H'=>∃(v0 v1:Option V) (ws:List V),σ'=[v0,v1] /\ Same H H' /\ H' D=some (.lst ws) /\ Paired (FrV H') ws (nR j fun j=>f j*g j)) (by lia) ⟨none,none,[],rfl,Same.upd hD,Ã,.nil⟩ ?_ ?_ ?_
  ·rintro j σ' H' hj ⟨v0,v1,ws,rfl,s1,hd,hF⟩;exact⟨SqL.of (s1 _ _ ha),SqL.of (s1 _ _ hb)⟩
  ·rintro j x y T σ' H' hx hy ⟨v0,v1,ws,rfl,s1,hd,hF⟩ hT;obtain⟨r,hr,fx⟩:=Ê pX hx;obtain⟨hj,rfl⟩:=Ÿ hr;obtain⟨q,hq,fy⟩:=Ê pY hy;obtain⟨_,rfl⟩:=Ÿ hq;have tT:=Same.upd (o:=.tup [x,y]) hT;have lW:ws.length=j:=hF.length.trans (Ý _ _);refine⟨T,ex1 rfl ⟨SqT.of Ã,rfl,_,_,rfl,_,_,rfl,rfl,?_⟩⟩;have s2:=s1.trans tT;refine(ex1 rfl (ex1 rfl (spTimes.of (E:=E0) rfl (fx.same s2) (fy.same s2) ((bf j hj).mono (by decide)) ((bg j hj).mono (by decide)) fun u3 H3 s3 f3=>?_)));have s23:=tT.trans s3;have hd3:=s23 _ _ hd;refine⟨_,hd3,sz (by lia),_,_,ws++[u3],rfl,(s1.trans s23).updD hD,Ã,?_⟩;rw[Ŵ];have tu:=ð (o:=.lst (ws++[u3])) hd3 (fun _ z=>nomatch z);exact zB3 (Paired.mapP hF fun _ _ f=>(f.same s23).tup tu) (f3.tup tu)
  ·rintro σ' H1 ⟨v0,v1,ws,rfl,s1,hd,hF⟩;rw[lX]at hF;refine⟨D,ws,nR m (fun j=>f j*g j),rfl,SqL.of hd,hF,fun r hr=>?_,fun j hj=>?_,fun u H' s' f'=>k u H' (s1.trans s') f'⟩
   ·obtain⟨j,hj,rfl⟩:=ŀ.mp hr;have hj:=ğ.mp hj;exact((bf j hj).mul (bg j hj)).mono (by decide)
   ·rw[Ý]at hj;rw[yM2 _ _ hj];exact bS j hj
noncomputable abbrev zJ4:Stmt:=top 23
theorem sc_is_blend:Ï ["offer","wish","now","amounts","pair","amount"] ["offer","wish","now","amounts"] (Ç zJ4):=scF
theorem yB3 {ca:Ca}(D:DefAt K mg "is_blend" zJ4)(T:Txt K mg ca)(G_under:FnAt P w K mg base CX0 1 "under" ["one","other"] (zR0))(G_total:FnAt P w K mg base CX0 4 "total" ["wine"] (spTotal))(G_sum_of:FnAt P w K mg base CX0 3 "sum_of" ["some"] (zR1 K))(G_weights_in:FnAt P w K mg base CX0 8 "weights_in" ["offer","label","now"] (spWin K))(G_product_sum:FnAt P w K mg base CX0 4 "product_sum" ["some","others"] (spPs K)):FnAt P w K mg base CX0 9 "is_blend" ["offer","wish","now","amounts"] (spIb K):=by
 refine D.ok sc_is_blend (fun vs H Q E h=>?_) (fun _ _ _ _ _ _ us hl=>match us,hl with | [_,_,_,_],_=>rfl) (fun f cdv A outer s H vs Q E hr h=>?_)
 all_goals obtain⟨ao,aw,al,now,os,ls,zs,cs,wv,wd,aa,x,rfl,o,hA,xc,k⟩:=h
 ·rfl
 ·have nd:=sc_is_blend.nd;refine⟨_,(Ä (ů PassesOwn.never rfl (zN3 (K:=K) rfl (by rfl) T.z_zip (À (pv 0) (À (pv 3) Â))) (ì (K:=K) (n:=2) (by rfl) (by rfl) (Ñ (Ì (i:=4) nd rfl (Or.inl rfl)) (Ñ (Ì (i:=5) nd rfl (Or.inl rfl)) ë))) (Å (á (PW.pt (Ζ (Ð υ (pixT (K:=K) (pv 5) Á) Á (Ò _)) (Γ (ö (pfn G_under hr (À (pfn G_total hr (À (pixT (K:=K) (pv 4) Á) Â)) (À (pv 5) Â))))))) (Å (É ž)) Ó)))
   (Ä (á (Ð (yA8 (K:=K) rfl hr) (pfn G_sum_of hr (À (pv 3) Â)) (pixT (K:=K) (pv 1) Á) (Ò _)) (Å (É ž)) Ó)
   (Å (É (Ë (zI8 (K:=K) rfl rfl) (by rfl) T.z_all yG3 (À (ò ["row"] ["amounts"] [3] rfl (by rfl) (ç (K:=K) rfl (pfn G_weights_in hr (À (pv 0) (À (pixT (K:=K) (pv 1) Á) (À (pv 2) Â))))) (fun _ _ _ _=>(Ì (i:=0) (show List.Nodup (["row","amounts"]:List Str) from by decide) rfl (Or.inl rfl))) (fun _ _ _ _=>ã) (fun _ _ _ _=>(ø yL7 (pixT (K:=K) (pfn G_product_sum hr (À (pv 0) (À (pv 1) Â))) Á) Á (Ò _)))) Â)))))),?_⟩
  have xs:=o.xs xc;have lO:=o.lO;obtain⟨as,ha,pA⟩:=id hA;have lA:as.length=zs.length:=pA.length.trans (Ý _ _);refine(ex1 rfl (ex1 rfl ⟨ao,aa,os,as,rfl,SqL.of o.hO,SqL.of ha,?_⟩));refine zV1 (xs:=os) (ys:=as) (fun j σ H1=>∃(v4 v5:Option V),σ=[some (.ref ao),some (.ref aw),some (.int now),some (.ref aa),v4,v5] /\ Same H H1 /\ ∀i,i<j->0<=x i /\ x i<=ttQ zs i) (by lia) ⟨none,none,rfl,Same.refl _,fun i hi=>absurd hi (ņ _)⟩ ?_ ?_ ?_
  ·rintro j σ H1 hj ⟨v4,v5,rfl,s1,al1⟩;exact⟨SqL.of (s1 _ _ o.hO),SqL.of (s1 _ _ ha)⟩
  ·rintro j u v T σ H1 hu hv ⟨v4,v5,rfl,s1,al1⟩ hT;obtain⟨z,hz,ox⟩:=Ê o.hP hu;obtain⟨r,hr,fy⟩:=Ê pA hv;obtain⟨hj,rfl⟩:=Ÿ hr;have ok:=o.okW z (đ hz);have tT:=Same.upd (o:=.tup [u,v]) hT;have s2:=s1.trans tT;obtain⟨a,wn,pr,rfl,hoa,wv1,_⟩:=ox.same s2;have fy2:=fy.same s2;obtain⟨b,rfl,hb⟩:=id fy2;refine⟨T,ex1 rfl ⟨SqT.of Ã,rfl,_,_,rfl,_,_,rfl,rfl,?_⟩⟩;refine(ex1 rfl ⟨b,_,_,_,rfl,rfl,SqT.of hb,rfl,_,_,rfl,rfl,ex1 rfl ?_⟩);refine ite2 (fun hneg=>?_) (fun hneg=>?_)
   ·have hneg:(x j).num<0:=of_decide_eq_true hneg;exact k false _ s2 ⟨fun z=>(nomatch z),fun f=>by have:=Ļ.mpr (f.low j hj).1;lia⟩
   have hnn:0<=x j:=Ļ.mp (by
    have h:¬(x j).num<0:=fun e=>hneg (decide_eq_true e);lia)
   refine(ex1 rfl ⟨a,_,_,_,rfl,rfl,SqT.of hoa,rfl,È ?_⟩);refine spTotal.mk (Ez:=E0) wv1 ok (fun u3 H3 s3 f3=>?_);refine(ex1 rfl ⟨_,_,totQ z.1,x j,rfl,f3,fy2.same s3,(yD7 ok).mono (by decide),(xs.bx j hj).mono (by decide),ex1 rfl ?_⟩);refine ite2 (fun hlt=>?_) (fun hlt=>?_)
   ·have hlt:totQ z.1<x j:=of_decide_eq_true hlt;exact k false _ (s2.trans s3) ⟨fun z=>(nomatch z),fun f=>by have:=(f.low j hj).2;rw[zK9 hz]at this;exact absurd hlt (ĵ.mpr this)⟩
   ·have hle:x j<=totQ z.1:=ĵ.mp fun e=>hlt (decide_eq_true e);refine⟨_,_,rfl,s2.trans s3,fun i hi=>?_⟩;rcases Ę (ĕ hi) with q | q
    ·exact al1 i q
    ·rw[q,zK9 hz];exact⟨hnn,hle⟩
  ·rintro σ H1 ⟨v4,v5,rfl,s1,al1⟩;rw[lO]at al1;refine(ex1 rfl ⟨aa,as,nR zs.length x,rfl,SqL.of (s1 _ _ ha),î s1 pA,fun r hr=>?_,fun j hj=>?_,fun u2 H2 s2 f2=>?_⟩)
   ·obtain⟨j,hj,rfl⟩:=ŀ.mp hr;exact(xs.bx j (ğ.mp hj)).mono (by decide)
   ·rw[Ý]at hj;rw[yM2 _ _ hj];exact(xs.bX j hj).mono (by decide)
   have f2:FrV H2 u2 (sN zs.length x):=f2;have s02:=s1.trans s2;have o2:=o.same s02;refine(ex1 rfl ⟨aw,_,_,_,rfl,rfl,SqT.of o2.hW,rfl,_,_,f2.rep,o2.fw.rep,zB4 _ _,ex1 rfl ?_⟩);rw[zQ6,zQ4];refine ite2 (fun h=>?_) (fun h=>?_)
   ·refine k false _ s02 ⟨fun z=>(nomatch z),fun f=>?_⟩;rw[decide_eq_true f.sum]at h;cases h
   have heq:sN zs.length x=wd:=by
    by_cases e:sN zs.length x=wd
    ·exact e
    ·rw[decide_eq_false e]at h;exact absurd rfl h
   refine(ex1 rfl (ex1 rfl ⟨aw,_,_,_,rfl,rfl,SqT.of o2.hW,rfl,ex1 rfl (È ?_)⟩));refine o2.win (E:=E0) fun p H3 rs hp s3 h3 hR=>?_;have lR:rs.length=cs.length:=hR.length;have s03:=s02.trans s3;have c8:=o.c8;have w4:=o.w4;refine⟨p,rfl,⟨_,SqL.of h3⟩,fun D hD=>?_⟩;refine æ (xs:=rs) (fun j σ' H'=>∃(v0:Option V),σ'=[v0,some (.ref aa)] /\ Same H3 H' /\ H' D=some (.lst (((Đ j).map fun c=>decide (0<=sN zs.length (fun j=>wtQ now cs zs c j*x j))).map V.bl))) ⟨none,rfl,Same.upd hD,Ã⟩ ?_ ?_ ?_
   ·rintro j σ' H' hj ⟨v0,rfl,s4,hd⟩;exact SqL.of (s4 _ _ h3)
   ·rintro j y σ' H' hy ⟨v0,rfl,s4,hd⟩;obtain⟨hj,a,rfl,la⟩:=yK0 hR hy;refine(ex1 rfl (ex1 rfl (È ?_)));refine spPs.mk (Ez:=E0) (la.same s4) (hA.same (s03.trans s4)) (by lia) (fun i hi=>(o.wtb hj hi).mono (by decide)) (fun i hi=>(xs.bx i hi).mono (by decide)) (fun i hi=>(xs.bW j hj i hi).mono (by decide)) (fun u5 H5 s5 f5=>?_);obtain⟨b,rfl,hb⟩:=f5;refine⟨b,_,_,_,rfl,rfl,SqT.of hb,rfl,_,_,rfl,rfl,?_⟩;have hd5:=s5 _ _ hd;refine⟨_,hd5,by rw[ą,ą,ē];exact sz (by lia),ex1 rfl ⟨(s4.trans s5).updD hD,?_⟩⟩;rw[Ã,Ř,ė,ė];show some (HO.lst (_++[V.bl (decide ((0:Int)<=(sN zs.length (fun i=>wtQ now cs zs j i*x i)).num))]))=_;rw[decide_eq_decide.mpr Ļ];rfl
   ·rintro σ' H4 ⟨v0,rfl,s4,hd⟩;rw[lR]at hd;exact⟨D,ex1 rfl ⟨SqL.of hd,k _ _ (s03.trans s4) ⟨fun h=>⟨al1,heq,all_rng.mp h⟩,fun f=>all_rng.mpr f.wts⟩⟩⟩
noncomputable abbrev zB1:Stmt:=top 24
theorem sc_are_fractions:Ï ["thing","many"] ["thing","many"] (Ç zB1):=scF
theorem zL4 {ca:Ca}(D:DefAt K mg "are_fractions" zB1)(T:Txt K mg ca)(G_is_fraction:FnAt P w K mg base CX0 2 "is_fraction" ["thing"] (yZ9 K)):FnAt P w K mg base CX0 3 "are_fractions" ["thing","many"] (spAf):=by
 refine D.ok sc_are_fractions (fun vs H Q E h=>?_) (fun _ _ _ _ _ _ us hl=>match us,hl with | [_,_],_=>rfl) (fun f cdv A outer s H vs Q E hr h=>?_)
 all_goals obtain⟨v,m,b,rfl,m30,hv,k⟩:=h
 ·rfl
 ·have nd:=sc_are_fractions.nd;refine⟨_,(Å (É (Τ (Ë (û (K:=K) rfl) (by rfl) T.z_isinstance â (À (pv 0) (À (Ż (v:=.ty "list") (by rfl) T.z_list Α rfl) Â))) (Τ (ø ï (Ë (Ö (K:=K) rfl) (by rfl) T.z_len PySem.boot_len (À (pv 0) Â)) (pv 1) (Ò _)) (Ο (Ë (zI8 (K:=K) rfl rfl) (by rfl) T.z_all yG3 (À (ò ["one"] [] [] rfl (by rfl) (ç (K:=K) rfl (pv 0)) (fun _ _ _ _=>(Ì (i:=0) (show List.Nodup (["one"]:List Str) from by decide) rfl (Or.inl rfl))) (fun _ _ _ _=>ã) (fun _ _ _ _=>(pfn G_is_fraction hr (À (pv 0) Â)))) Â))))))),?_⟩;rcases hv with⟨n,hv,hn,rfl⟩ | ⟨a,xs,rfl,ha,hv⟩
  ·refine⟨_,rfl,_,_,_,_,rfl,þ hv,ŷ (zE0 hv) (by decide),_,rfl,?_⟩;rw[zQ8 hn (by decide)];exact iteF (k H (Same.refl _))
  refine⟨_,rfl,_,_,_,_,rfl,þ (tyL ha),ŷ (by decide) (by decide),_,rfl,?_⟩;refine iteT ?_;refine⟨_,rfl,_,_,rfl,.inl ⟨_,SqL.of ha,rfl⟩,_,rfl,rfl,_,rfl,?_⟩;rcases hv with⟨ln,rfl⟩ | ⟨le,bs,hp,rfl⟩
  ·refine Ù (fun e=>ln (by have:=V.int.inj e;lia)) ?_;exact k H (Same.refl _)
  refine ite2 (fun _=>?_) (fun h=>absurd (decide_eq_true (by rw[le])) h);have lb:xs.length=bs.length:=hp.length;refine⟨_,rfl,a,rfl,⟨_,SqL.of ha⟩,fun Dd hD=>?_⟩;refine æ (xs:=xs) (fun j σ' H'=>∃(v:Option V),σ'=[v] /\ Same H H' /\ H' Dd=some (.lst ((bs.take j).map V.bl))) ⟨none,rfl,Same.upd hD,Ã⟩ ?_ ?_ ?_
  ·rintro j σ' H' hj ⟨v,rfl,s1,hd⟩;exact SqL.of (s1 _ _ ha)
  ·rintro j y σ' H' hy ⟨v,rfl,s1,hd⟩;obtain⟨b,hb,fy⟩:=Ê hp hy;refine⟨_,rfl,y,b,rfl,fy.same s1,?_⟩;refine⟨_,hd,by rw[ą,Ĥ];exact sz (by lia),_,rfl,s1.updD hD,?_⟩;rw[Ã,Ŋ,hb,ė];rfl
  rintro σ' H1 ⟨v,rfl,s1,hd⟩;rw[lb,ŏ]at hd;exact⟨Dd,bs,rfl,SqL.of hd,k H1 s1⟩
noncomputable abbrev zE6:Stmt:=top 25
theorem sc_are_from_0:Ï ["thing","many"] ["thing","many"] (Ç zE6):=scF
theorem zS8 {ca:Ca}(D:DefAt K mg "are_from_0" zE6)(T:Txt K mg ca)(G_are_fractions:FnAt P w K mg base CX0 3 "are_fractions" ["thing","many"] (spAf)):FnAt P w K mg base CX0 4 "are_from_0" ["thing","many"] (spA0):=by
 refine D.ok sc_are_from_0 (fun vs H Q E h=>?_) (fun _ _ _ _ _ _ us hl=>match us,hl with | [_,_],_=>rfl) (fun f cdv A outer s H vs Q E hr h=>?_)
 all_goals obtain⟨v,m,b,rfl,m30,hv,k⟩:=h
 ·rfl
 ·have nd:=sc_are_from_0.nd;refine⟨_,(Å (É (Τ (pfn G_are_fractions hr (À (pv 0) (À (pv 1) Â))) (Ο (Ë (zI8 (K:=K) rfl rfl) (by rfl) T.z_all yG3 (À (ò ["one"] [] [] rfl (by rfl) (ç (K:=K) rfl (pv 0)) (fun _ _ _ _=>(Ì (i:=0) (show List.Nodup (["one"]:List Str) from by decide) rfl (Or.inl rfl))) (fun _ _ _ _=>ã) (fun _ _ _ _=>(ø yL7 (pixT (K:=K) (pv 0) Á) Á (Ò _)))) Â)))))),?_⟩;rcases hv with⟨hv,rfl⟩ | ⟨a,f,rfl,hl,hb⟩
  ·exact⟨_,rfl,_,rfl,v,m,false,rfl,m30,hv,fun H1 s1=>⟨_,rfl,iteF (k H1 s1)⟩⟩
  refine⟨_,rfl,_,rfl,.ref a,m,true,rfl,m30,hl.afv,fun H1 s1=>⟨_,rfl,iteT ?_⟩⟩;obtain⟨vs,ha,pV⟩:=hl.same s1;have lV:vs.length=m:=pV.length.trans (Ý _ _);refine⟨_,rfl,a,rfl,⟨_,SqL.of ha⟩,fun Dd hD=>?_⟩;refine æ (xs:=vs) (fun j σ' H'=>∃(v:Option V),σ'=[v] /\ Same H1 H' /\ H' Dd=some (.lst (((Đ j).map fun j=>decide (0<=f j)).map V.bl))) ⟨none,rfl,Same.upd hD,Ã⟩ ?_ ?_ ?_
  ·rintro j σ' H' hj ⟨v,rfl,s2,hd⟩;exact SqL.of (s2 _ _ ha)
  ·rintro j y σ' H' hy ⟨v,rfl,s2,hd⟩;obtain⟨r,hr,fy⟩:=Ê pV hy;obtain⟨hj,rfl⟩:=Ÿ hr;obtain⟨c,rfl,hc⟩:=fy.same s2;refine⟨_,rfl,c,_,_,_,rfl,rfl,SqT.of hc,rfl,_,_,rfl,rfl,?_⟩;refine⟨_,hd,by rw[ą,ą,ē];exact sz (by lia),_,rfl,s2.updD hD,?_⟩;rw[Ã,Ř,ė,ė];show some (HO.lst (_++[V.bl (decide ((0:Int)<=(f j).num))]))=_;rw[decide_eq_decide.mpr Ļ];rfl
  rintro σ' H2 ⟨v,rfl,s2,hd⟩;rw[lV]at hd;refine⟨Dd,_,rfl,SqL.of hd,?_⟩;rw[show ((Đ m).map fun j=>decide (0<=f j)).all id=b from Ŧ.mpr (all_rng.trans hb.symm)];exact k H2 (s1.trans s2)
noncomputable abbrev zJ3:Stmt:=top 26
theorem sc_is_paper:Ï ["offer","wish","paper"] ["offer","wish","paper"] (Ç zJ3):=scF
theorem yB2 {ca:Ca}(D:DefAt K mg "is_paper" zJ3)(T:Txt K mg ca)(G_is_fraction:FnAt P w K mg base CX0 2 "is_fraction" ["thing"] (yZ9 K))(G_are_from_0:FnAt P w K mg base CX0 4 "are_from_0" ["thing","many"] (spA0)):FnAt P w K mg base CX0 5 "is_paper" ["offer","wish","paper"] (spIp):=by
 refine D.ok sc_is_paper (fun vs H Q E h=>?_) (fun _ _ _ _ _ _ us hl=>match us,hl with | [_,_,_],_=>rfl) (fun f cdv A outer s H vs Q E hr h=>?_)
 all_goals obtain⟨ao,aw,al,os,ls,wv,pt,b,rfl,hO,hW,hL,o8,l8,hP,k⟩:=h
 ·rfl
 ·have nd:=sc_is_paper.nd;refine⟨_,(Ä (á (PW.pt (Ζ (ŭ (ö (Ë (û (K:=K) rfl) (by rfl) T.z_isinstance â (À (pv 2) (À (Ż (v:=.ty "tuple") (by rfl) T.z_tuple zD8 rfl) Â))))) (Ζ (Ð zS2 (Ë (Ö (K:=K) rfl) (by rfl) T.z_len PySem.boot_len (À (pv 2) Â)) Á (Ò _)) (Γ (ŭ (ö (pfn G_is_fraction hr (À (pixT (K:=K) (pv 2) Á) Â)))))))) (Å (É ž)) Ó)
   (Å (É (Τ (pfn G_are_from_0 hr (À (pixT (K:=K) (pv 2) Á) (À (Ë (Ö (K:=K) rfl) (by rfl) T.z_len PySem.boot_len (À (pixT (K:=K) (pv 1) Á) Â)) Â))) (Ο (pfn G_are_from_0 hr (À (pixT (K:=K) (pv 2) Á) (À (Ë (Ö (K:=K) rfl) (by rfl) T.z_len PySem.boot_len (À (pv 0) Â)) Â)))))))),?_⟩
  rcases hP with⟨n,hv,hn,rfl⟩ | ⟨t,uv,vv,wv',bu,bv,bw,rfl,ht,fu,hb,rfl⟩
  ·refine(ex1 rfl ⟨_,_,_,_,rfl,þ hv,ŷ (zE0 hv) (by decide),ex1 rfl ?_⟩);rw[zQ8 hn (by decide)];exact iteT (k H (Same.refl _))
  refine(ex1 rfl ⟨_,_,_,_,rfl,þ (tyT ht),ŷ (by decide) (by decide),ex1 rfl ?_⟩);refine iteF ?_;refine(ex1 rfl ⟨_,_,rfl,.inr ⟨_,SqT.of ht,rfl⟩,rfl,ex1 rfl ?_⟩);refine iteF ?_;refine(ex1 rfl ⟨t,_,_,_,rfl,rfl,SqT.of ht,rfl,uv,bu,rfl,fu,ex1 rfl ?_⟩);cases bu with
  | false=>exact iteT (k H (Same.refl _))
  | true =>
  refine iteF ?_;obtain⟨h0,h1⟩:=hb rfl;refine(ex1 rfl ⟨t,_,_,_,rfl,rfl,SqT.of ht,rfl,ex1 rfl ⟨aw,_,_,_,rfl,rfl,SqT.of hW,rfl,_,_,rfl,.inl ⟨_,SqL.of hL,rfl⟩,È ?_⟩⟩);refine spA0.mk (Ez:=E0) (by lia) h0 (fun H1 s1=>(ex1 rfl ?_));cases bv with
  | false=>exact iteF (k H1 s1)
  | true =>
  refine iteT ?_;refine(ex1 rfl ⟨t,_,_,_,rfl,rfl,SqT.of (s1 _ _ ht),rfl,ex1 rfl ⟨_,_,rfl,.inl ⟨_,SqL.of (s1 _ _ hO),rfl⟩,È ?_⟩⟩);exact spA0.mk (Ez:=E0) (by lia) ((h1 rfl).same s1) (fun H2 s2=>k H2 (s1.trans s2))
noncomputable abbrev zE2:Stmt:=top 27
theorem sc_none_above:Ï ["offer","wish","now","paper","bounds","rows","j","bound","worth"] ["offer","wish","now","paper","bounds"] (Ç zE2):=scF
theorem zS4 {ca:Ca}(D:DefAt K mg "none_above" zE2)(T:Txt K mg ca)(G_weights_in:FnAt P w K mg base CX0 8 "weights_in" ["offer","label","now"] (spWin K))(G_plus:FnAt P w K mg base CX0 2 "plus" ["one","other"] (zW3))(G_product_sum:FnAt P w K mg base CX0 4 "product_sum" ["some","others"] (spPs K))(G_under:FnAt P w K mg base CX0 1 "under" ["one","other"] (zR0))(G_minus:FnAt P w K mg base CX0 3 "minus" ["one","other"] (Δ)):FnAt P w K mg base CX0 9 "none_above" ["offer","wish","now","paper","bounds"] (spNa K):=by
 refine D.ok sc_none_above (fun vs H Q E h=>?_) (fun _ _ _ _ _ _ us hl=>match us,hl with | [_,_,_,_,_],_=>rfl) (fun f cdv A outer s H vs Q E hr h=>?_)
 all_goals obtain⟨ao,aw,al,now,os,ls,zs,cs,wv,wd,pt,u,vq,wq,ap,f,rfl,o,hP,pc,hF,bf,k⟩:=h
 ·rfl
 ·have nd:=sc_none_above.nd;refine⟨_,(Ä (Í (i:=5) nd rfl (Or.inl rfl) (pfn G_weights_in hr (À (pv 0) (À (pixT (K:=K) (pv 1) Á) (À (pv 2) Â)))))
   (Ä (ů PassesOwn.never rfl (zH5 (K:=K) rfl (by rfl) T.z_enumerate (À (pv 4) Â)) (ì (K:=K) (n:=2) (by rfl) (by rfl) (Ñ (Ì (i:=6) nd rfl (Or.inr rfl)) (Ñ (Ì (i:=7) nd rfl (Or.inl rfl)) ë))) (Ä (Í (i:=8) nd rfl (Or.inl rfl) (pfn G_plus hr (À (pixT (K:=K) (pv 3) Á) (À (pfn G_product_sum hr (À (ò ["row"] ["j"] [6] rfl (by rfl) (ç (K:=K) rfl (pv 5)) (fun _ _ _ _=>(Ì (i:=0) (show List.Nodup (["row","j"]:List Str) from by decide) rfl (Or.inl rfl))) (fun _ _ _ _=>ã) (fun _ _ _ _=>(pixL (K:=K) (pv 0) (pv 1)))) (À (pixT (K:=K) (pv 3) Á) Â))) Â))))
   (Å (á (ö (pfn G_under hr (À (pv 7) (À (pfn G_minus hr (À (pv 8) (À (pixL (K:=K) (pixT (K:=K) (pv 3) Á) (pv 6)) Â))) Â)))) (Å (É ž)) Ó))))
   (Å (É ž)))),?_⟩
  refine cutS fun nX eX=>?_;have ps:=o.pps pc;have lG0:=o.lO;have w4:=o.w4;have c8:=o.c8;obtain⟨t,uv,pv1,pw1,rfl,ht,fu,lv,lw⟩:=id hP;obtain⟨gs,hg,pG⟩:=id hF;have lG:gs.length=zs.length:=pG.length.trans (Ý _ _);subst eX;refine(ex1 rfl (ex1 rfl ⟨aw,_,_,_,rfl,rfl,SqT.of o.hW,rfl,ex1 rfl (È ?_)⟩));refine o.win (E:=E0) fun p H1 rs hp s1 h1 hR=>?_;have lR:rs.length=cs.length:=hR.length;refine(ex1 rfl ⟨ap,gs,rfl,SqL.of (s1 _ _ hg),?_⟩);refine zD6 (xs:=gs) (fun i σ H2=>∃(v6 v7 v8:Option V),σ=[some (.ref ao),some (.ref aw),some (.int now),some (.ref t),some (.ref ap),some (.ref p),v6,v7,v8] /\ Same H1 H2 /\ ∀k,k<i->worQ now cs zs u vq wq k<=f k) ⟨none,none,none,rfl,Same.refl _,fun k hk=>absurd hk (ņ _)⟩ ?_ ?_ ?_
  ·rintro i σ H2 hi ⟨v6,v7,v8,rfl,s2,all⟩;exact SqL.of ((s1.trans s2) _ _ hg)
  ·rintro i y T σ H2 hy ⟨v6,v7,v8,rfl,s2,all⟩ hT;obtain⟨r,hr,fy⟩:=Ê pG hy;obtain⟨hi,rfl⟩:=Ÿ hr;have tT:=Same.upd (o:=.tup [.int (i:Nat),y]) hT;have s13:=s2.trans tT;have s3:=s1.trans s13;refine⟨T,ex1 rfl ⟨SqT.of Ã,rfl,_,_,rfl,_,_,rfl,rfl,?_⟩⟩;generalize upd H2 T (.tup [.int (i:Nat),y])=H3 at *;refine(ex1 rfl ⟨t,_,_,_,rfl,rfl,SqT.of (s3 _ _ ht),rfl,ex1 rfl ⟨p,rfl,⟨_,SqL.of (s13 _ _ h1)⟩,fun D hD=>?_⟩⟩);refine æ (xs:=rs) (fun j σ' H'=>∃(v0:Option V) (ws:List V),σ'=[v0,some (.int (i:Nat))] /\ Same H3 H' /\ H' D=some (.lst ws) /\ Paired (FrV H') ws (nR j fun c=>wtQ now cs zs c i)) ⟨none,[],rfl,Same.upd hD,Ã,.nil⟩ ?_ ?_ ?_
   ·rintro j σ' H' hj ⟨v0,ws,rfl,s4,hd,hw⟩;exact SqL.of ((s13.trans s4) _ _ h1)
   ·rintro j y' σ' H' hy' ⟨v0,ws,rfl,s4,hd,hw⟩;obtain⟨hj,a,rfl,la⟩:=yK0 hR hy';obtain⟨us,v,hus,lus,hat,fv⟩:=(la.same (s13.trans s4)).at hi;have lW:ws.length=j:=hw.length.trans (Ý _ _);refine(ex1 rfl (ex1 rfl (gL hus hat ?_)));refine⟨_,hd,sz (by lia),_,ws++[v],rfl,s4.updD hD,Ã,?_⟩;rw[Ŵ];have tu:=ð (o:=.lst (ws++[v])) hd (fun _ z=>nomatch z);exact zB3 (Paired.mapP hw fun _ _ f=>f.tup tu) (fv.tup tu)
   rintro σ' H4 ⟨v0,ws,rfl,s4,hd,hw⟩;rw[lR]at hw;have s04:=s3.trans s4;refine(ex1 rfl ⟨t,_,_,_,rfl,rfl,SqT.of (s04 _ _ ht),rfl,È ?_⟩);refine spPs.mk (Ez:=E0) ⟨ws,hd,hw⟩ (lv.same s04) c8 (fun c hc=>(o.wtb hc hi).mono (by decide)) (fun c hc=>(ps.bv c hc).mono (by decide)) (fun c hc=>(ps.b4 i hi c hc).mono (by decide)) (fun v5 H5 s5 f5=>?_);have s05:=s04.trans s5;refine⟨_,_,u,ex1 rfl ⟨fu.same s05,f5,ps.bu.mono (by decide),(ps.b4 i hi _ (Ć _)).mono (by decide),fun v6' H6 s6 f6=>?_⟩⟩;have s06:=s05.trans s6;obtain⟨us,vk,hus,lus,hat,fk⟩:=(lw.same s06).at hi;refine(ex1 rfl (ex1 rfl (ex1 rfl ⟨t,_,_,_,rfl,rfl,SqT.of (s06 _ _ ht),rfl,ex1 rfl ⟨pw1,_,_,_,rfl,rfl,SqL.of hus,hat,v6',vk,_,wq i,rfl,f6,fk,(ps.b5 i hi).mono (by decide),(ps.bw i hi).mono (by decide),fun v7' H7 s7 f7=>?_⟩⟩)));have ew:u+sN cs.length (fun c=>wtQ now cs zs c i*vq c) - wq i=worQ now cs zs u vq wq i:=by
    unfold worQ;rw[show sN cs.length (fun c=>wtQ now cs zs c i*vq c)=sN cs.length (fun c=>vq c*wtQ now cs zs c i) from Ô fun j _=>ŕ _ _]
    grind
   have f7:FrV H7 v7' (u+sN cs.length (fun c=>wtQ now cs zs c i*vq c) - wq i):=f7;rw[ew]at f7;have s07:=s06.trans s7;refine⟨_,_,f i,ex1 rfl ⟨fy.same s07,f7,(bf i hi).mono (by decide),(ps.b2 i hi _ (Ć _)).mono (by decide),ex1 rfl ?_⟩⟩;refine ite2 (fun h=>?_) (fun h=>?_)
   ·exact k false _ s07 ⟨fun z=>(nomatch z),fun all=>absurd (of_decide_eq_true h) (ĵ.mpr (all i hi))⟩
   ·refine⟨_,_,_,rfl,s13.trans (s4.trans (s5.trans (s6.trans s7))),fun k' hk'=>?_⟩;rcases Ę (ĕ hk') with q | q
    ·exact all k' q
    ·rw[q];exact ĵ.mp fun e=>h (decide_eq_true e)
  ·rintro σ H2 ⟨v6,v7,v8,rfl,s2,all⟩;rw[lG]at all;exact k true _ (s1.trans s2) ⟨fun _=>all,fun _=>rfl⟩
noncomputable abbrev zJ0:Stmt:=top 28
theorem sc_shown_by:Ï ["offer","wish","paper","wholes"] ["offer","wish","paper"] (Ç zJ0):=scF
theorem yA9 {ca:Ca}(D:DefAt K mg "shown_by" zJ0)(T:Txt K mg ca)(G_total:FnAt P w K mg base CX0 4 "total" ["wine"] (spTotal))(G_minus:FnAt P w K mg base CX0 3 "minus" ["one","other"] (Δ))(G_product_sum:FnAt P w K mg base CX0 4 "product_sum" ["some","others"] (spPs K))(G_times:FnAt P w K mg base CX0 2 "times" ["one","other"] (spTimes)):FnAt P w K mg base CX0 5 "shown_by" ["offer","wish","paper"] (spSb K):=by
 refine D.ok sc_shown_by (fun vs H Q E h=>?_) (fun _ _ _ _ _ _ us hl=>match us,hl with | [_,_,_],_=>rfl) (fun f cdv A outer s H vs Q E hr h=>?_)
 all_goals obtain⟨ao,aw,al,now,os,ls,zs,cs,wv,wd,pt,u,vq,wq,rfl,o,hP,pc,k⟩:=h
 ·rfl
 ·have nd:=sc_shown_by.nd;refine⟨_,(Ä (zC3 ["wine","price"] [] [] (i:=3) nd rfl rfl rfl (by rfl) (ç (K:=K) rfl (pv 0)) (fun _ _ _ _=>(ì (K:=K) (n:=2) (by rfl) (by rfl) (Ñ (Ì (i:=0) (show List.Nodup (["wine","price"]:List Str) from by decide) rfl (Or.inl rfl) (hf:=Or.inr (by rfl))) (Ñ (Ì (i:=1) (show List.Nodup (["wine","price"]:List Str) from by decide) rfl (Or.inl rfl) (hf:=Or.inr (by rfl))) ë)))) (fun _ _ _ _=>ã) (fun _ _ _ _=>(pfn G_total hr (À (pv 0) Â))))
   (Å (É (pfn G_minus hr (À (pfn G_times hr (À (pixT (K:=K) (pv 2) Á) (À (pixT (K:=K) (pv 1) Á) Â))) (À (pfn G_product_sum hr (À (pixT (K:=K) (pv 2) Á) (À (pv 3) Â))) Â)))))),?_⟩
  have ps:=o.pps pc;have lO:=o.lO;have w4:=o.w4;obtain⟨t,uv,pv1,pw1,rfl,ht,fu,lv,lw⟩:=id hP;refine(ex1 rfl ⟨ao,rfl,⟨_,SqL.of o.hO⟩,fun D hD=>?_⟩);refine æ (xs:=os) (fun j σ' H'=>∃(v0 v1:Option V) (ws:List V),σ'=[v0,v1] /\ Same H H' /\ H' D=some (.lst ws) /\ Paired (FrV H') ws (nR j (ttQ zs))) ⟨none,none,[],rfl,Same.upd hD,Ã,.nil⟩ ?_ ?_ ?_
  ·rintro j σ' H' hj ⟨v0,v1,ws,rfl,s1,hd,hw⟩;exact SqL.of (s1 _ _ o.hO)
  ·rintro j y σ' H' hy ⟨v0,v1,ws,rfl,s1,hd,hw⟩;obtain⟨z,hz,oz⟩:=Ê o.hP hy;obtain⟨a,w1,pr,rfl,ha,wn,fp⟩:=oz.same s1;have hj:j<zs.length:=(Ą.mp hz).1;have lW:ws.length=j:=hw.length.trans (Ý _ _);refine⟨a,ex1 rfl ⟨SqT.of ha,rfl,_,_,rfl,_,_,rfl,rfl,?_⟩⟩;refine(ex1 rfl (È ?_));refine spTotal.mk (Ez:=E0) wn (o.okW z (đ hz)) (fun u2 H2 s2 f2=>?_);have hd2:=s2 _ _ hd;refine⟨_,hd2,sz (by lia),_,_,ws++[u2],rfl,(s1.trans s2).updD hD,Ã,?_⟩;rw[Ŵ,zK9 hz];have tu:=ð (o:=.lst (ws++[u2])) hd2 (fun _ z=>nomatch z);exact zB3 (Paired.mapP hw fun _ _ f=>(f.same s2).tup tu) (f2.tup tu)
  rintro σ' H1 ⟨v0,v1,ws,rfl,s1,hd,hw⟩;rw[lO]at hw;have o1:=o.same s1;refine(ex1 rfl ⟨t,_,_,_,rfl,rfl,SqT.of (s1 _ _ ht),rfl,ex1 rfl ⟨aw,_,_,_,rfl,rfl,SqT.of o1.hW,rfl,spTimes.of (E:=E0) rfl (fu.same s1) o1.fw (ps.bu.mono (by decide)) (o.bw.mono (by decide)) fun u2 H2 s2 f2=>?_⟩⟩);have s02:=s1.trans s2;refine(ex1 rfl ⟨t,_,_,_,rfl,rfl,SqT.of (s02 _ _ ht),rfl,ex1 rfl (È ?_)⟩);refine spPs.mk (Ez:=E0) (lw.same s02) ⟨ws,s2 _ _ hd,î s2 hw⟩ (by lia) (fun j hj=>(ps.bw j hj).mono (by decide)) (fun j hj=>(o.ttb hj).mono (by decide)) (fun j hj=>(ps.b6 j hj).mono (by decide)) (fun u3 H3 s3 f3=>?_);exact⟨_,_,_,_,rfl,f2.same s3,f3,(ps.bu.mul o.bw).mono (by decide),(ps.b6 _ (Ć _)).mono (by decide),fun u4 H4 s4 f4=>k u4 H4 (s02.trans (s3.trans s4)) f4⟩
noncomputable abbrev zB0:Stmt:=top 29
theorem sc_lets_blend_by:Ï ["offer","wish","now","amounts","paper","prices"] ["offer","wish","now","amounts","paper"] (Ç zB0):=scF
theorem zL3 {ca:Ca}(D:DefAt K mg "lets_blend_by" zB0)(T:Txt K mg ca)(G_is_paper:FnAt P w K mg base CX0 5 "is_paper" ["offer","wish","paper"] (spIp))(G_are_fractions:FnAt P w K mg base CX0 3 "are_fractions" ["thing","many"] (spAf))(G_none_above:FnAt P w K mg base CX0 9 "none_above" ["offer","wish","now","paper","bounds"] (spNa K))(G_is_blend:FnAt P w K mg base CX0 9 "is_blend" ["offer","wish","now","amounts"] (spIb K))(G_shown_by:FnAt P w K mg base CX0 5 "shown_by" ["offer","wish","paper"] (spSb K))(G_product_sum:FnAt P w K mg base CX0 4 "product_sum" ["some","others"] (spPs K)):FnAt P w K mg base CX0 10 "lets_blend_by" ["offer","wish","now","amounts","paper"] (spLb K):=by
 refine D.ok sc_lets_blend_by (fun vs H Q E h=>?_) (fun _ _ _ _ _ _ us hl=>match us,hl with | [_,_,_,_,_],_=>rfl) (fun f cdv A outer s H vs Q E hr h=>?_)
 all_goals obtain⟨ao,aw,al,now,os,ls,zs,cs,wv,wd,av,pt,P,rfl,o,hB,k⟩:=h
 ·rfl
 ·have nd:=sc_lets_blend_by.nd;refine⟨_,(Ä (á (PW.pt (Ζ (ŭ (ö (pfn G_are_fractions hr (À (pv 3) (À (Ë (Ö (K:=K) rfl) (by rfl) T.z_len PySem.boot_len (À (pv 0) Â)) Â))))) (Γ (ŭ (ö (pfn G_is_paper hr (À (pv 0) (À (pv 1) (À (pv 4) Â))))))))) (Å (É ž)) Ó)
   (Ä (zC3 ["wine","price"] [] [] (i:=5) nd rfl rfl rfl (by rfl) (ç (K:=K) rfl (pv 0)) (fun _ _ _ _=>(ì (K:=K) (n:=2) (by rfl) (by rfl) (Ñ (Ì (i:=0) (show List.Nodup (["wine","price"]:List Str) from by decide) rfl (Or.inl rfl) (hf:=Or.inr (by rfl))) (Ñ (Ì (i:=1) (show List.Nodup (["wine","price"]:List Str) from by decide) rfl (Or.inl rfl) (hf:=Or.inr (by rfl))) ë)))) (fun _ _ _ _=>ã) (fun _ _ _ _=>(pv 1)))
   (Ä (á (PW.pt (Ζ (ŭ (ö (pfn G_is_blend hr (À (pv 0) (À (pv 1) (À (pv 2) (À (pv 3) Â))))))) (Γ (ŭ (ö (pfn G_none_above hr (À (pv 0) (À (pv 1) (À (pv 2) (À (pv 4) (À (pv 5) Â))))))))))) (Å (É ž)) Ó)
   (Å (É (ø (zN4 (K:=K) rfl hr) (pfn G_shown_by hr (À (pv 0) (À (pv 1) (À (pv 4) Â)))) (pfn G_product_sum hr (À (pv 3) (À (pv 5) Â))) (Ò _))))))),?_⟩
  refine cutS fun nX eX=>?_;have lO:=o.lO;have lL:=o.lL;have w4:=o.w4;have c8:=o.c8;rcases hB with⟨hA,hn⟩ | ⟨aa,x,rfl,hA,hq⟩
  ·exact(ex1 rfl (ex1 rfl ⟨_,_,rfl,.inl ⟨_,SqL.of o.hO,rfl⟩,av,os.length,false,rfl,by lia,lO▸hA,fun H1 s1=>(ex1 rfl (iteT (k false H1 s1 (nof hn))))⟩))
  refine(ex1 rfl (ex1 rfl ⟨_,_,rfl,.inl ⟨_,SqL.of o.hO,rfl⟩,.ref aa,os.length,true,rfl,by lia,lO▸hA.afv,fun H1 s1=>(ex1 rfl (iteF ?_))⟩));have o1:=o.same s1;rcases hq with⟨hI,hn⟩ | ⟨u,vq,wq,hP,pc,xc,hl⟩
  ·exact(ex1 rfl (ex1 rfl (ex1 rfl ⟨ao,aw,al,os,ls,wv,pt,false,rfl,o1.hO,o1.hW,o1.hL,by lia,by lia,by rw[lO,lL];exact hI.same s1,fun H2 s2=>(ex1 rfl (iteT (k false H2 (s1.trans s2) (nof hn))))⟩)))
  have xs:=o.xs xc;obtain⟨b,hI,hb⟩:=hP.ip;refine(ex1 rfl (ex1 rfl (ex1 rfl (È ?_))));refine spIp.mk (Ez:=E0) o1.hO o1.hW o1.hL (by lia) (by lia) (by rw[lO,lL];exact hI.same s1) (fun H2 s2=>(ex1 rfl (iteB hb (fun n=>k false H2 (s1.trans s2) (nof fun p=>n (hl.mp p).2.1)) fun ng=>?_)));have s02:=s1.trans s2;have o2:=o.same s02;refine stpS eX fun nX eX=>?_;refine(ex1 rfl ⟨ao,rfl,⟨_,SqL.of o2.hO⟩,fun D hD=>?_⟩);refine æ (xs:=os) (fun j σ' H'=>∃(v0 v1:Option V) (ws:List V),σ'=[v0,v1] /\ Same H2 H' /\ H' D=some (.lst ws) /\ Paired (FrV H') ws (nR j (prQ zs))) ⟨none,none,[],rfl,Same.upd hD,Ã,.nil⟩ ?_ ?_ ?_
  ·rintro j σ' H' hj ⟨v0,v1,ws,rfl,s3,hd,hw⟩;exact SqL.of (s3 _ _ o2.hO)
  ·rintro j y σ' H' hy ⟨v0,v1,ws,rfl,s3,hd,hw⟩;obtain⟨z,hz,oz⟩:=Ê o2.hP hy;obtain⟨a,w1,pr,rfl,ha,wn,fp⟩:=oz.same s3;have hj:j<zs.length:=(Ą.mp hz).1;have lW:ws.length=j:=hw.length.trans (Ý _ _);refine⟨a,ex1 rfl ⟨SqT.of ha,rfl,_,_,rfl,_,_,rfl,rfl,?_⟩⟩;refine(ex1 rfl ⟨_,hd,sz (by lia),_,_,ws++[pr],rfl,s3.updD hD,Ã,?_⟩);rw[Ŵ,zQ3 hz];have tu:=ð (o:=.lst (ws++[pr])) hd (fun _ z=>nomatch z);exact zB3 (Paired.mapP hw fun _ _ f=>f.tup tu) (fp.tup tu)
  rintro σ' H3 ⟨v0,v1,ws,rfl,s3,hd,hw⟩;rw[lO]at hw;have lD:LsF H3 D (nR zs.length (prQ zs)):=⟨ws,hd,hw⟩;have s03:=s02.trans s3;refine stpS eX fun nX eX=>?_;refine(ex1 rfl (ex1 rfl (ex1 rfl (ex1 rfl (È ?_)))));refine spIb.mk (Ez:=E0) (o.same s03) (hA.same s03) xc (fun b4 H4 s4 h4=>(ex1 rfl (iteB h4 (fun n=>k false H4 (s03.trans s4) (nof fun p=>n (hl.mp p).1)) fun fx=>?_)));have s04:=s03.trans s4;refine(ex1 rfl (ex1 rfl (ex1 rfl (ex1 rfl (ex1 rfl (È ?_))))));refine spNa.mk (Ez:=E0) (o.same s04) (hP.same s04) pc (lD.same s4) (fun j hj=>(o.prb hj).mono (by decide)) (fun b5 H5 s5 h5=>(ex1 rfl (iteB h5 (fun n=>k false H5 (s04.trans s5) (nof fun p=>n (hl.mp p).2.2.1)) fun wl=>?_)));have s05:=s04.trans s5;subst eX;refine(ex1 rfl (ex1 rfl (ex1 rfl (È ?_))));refine spSb.mk (Ez:=E0) (o.same s05) (hP.same s05) pc (fun v6 H6 s6 f6=>?_);have s06:=s05.trans s6;have cm:∀i,sN i (fun j=>x j*prQ zs j)=sN i (fun j=>prQ zs j*x j):=fun i=>Ô fun j _=>ŕ _ _;refine(ex1 rfl (ex1 rfl (È ?_)));refine spPs.mk (Ez:=E0) (hA.same s06) (lD.same (s4.trans (s5.trans s6))) (by lia) (fun j hj=>(xs.bx j hj).mono (by decide)) (fun j hj=>(o.prb hj).mono (by decide)) (fun j hj=>by rw[cm];exact(xs.bC j hj).mono (by decide)) (fun v7 H7 s7 f7=>?_);refine⟨_,_,(f6.same s7).rep,f7.rep,zB4 _ _,?_⟩;rw[zQ6,zQ4];refine k _ H7 (s06.trans s7) ?_;rw[decide_eq_true_iff,hl,cm];exact⟨fun e=>⟨fx,ng,wl,e⟩,fun l=>l.2.2.2⟩
noncomputable abbrev zB7:Stmt:=top 30
theorem sc_lets_none_by:Ï ["offer","wish","now","paper"] ["offer","wish","now","paper"] (Ç zB7):=scF
theorem zN6 {ca:Ca}(D:DefAt K mg "lets_none_by" zB7)(T:Txt K mg ca)(G_none_above:FnAt P w K mg base CX0 9 "none_above" ["offer","wish","now","paper","bounds"] (spNa K))(G_is_paper:FnAt P w K mg base CX0 5 "is_paper" ["offer","wish","paper"] (spIp))(G_shown_by:FnAt P w K mg base CX0 5 "shown_by" ["offer","wish","paper"] (spSb K)):FnAt P w K mg base CX0 10 "lets_none_by" ["offer","wish","now","paper"] (spLn K):=by
 refine D.ok sc_lets_none_by (fun vs H Q E h=>?_) (fun _ _ _ _ _ _ us hl=>match us,hl with | [_,_,_,_],_=>rfl) (fun f cdv A outer s H vs Q E hr h=>?_)
 all_goals obtain⟨ao,aw,al,now,os,ls,zs,cs,wv,wd,pt,P,rfl,o,hN,k⟩:=h
 ·rfl
 ·have nd:=sc_lets_none_by.nd;refine⟨_,(Ä (á (PW.pt (Ζ (ŭ (ö (pfn G_is_paper hr (À (pv 0) (À (pv 1) (À (pv 3) Â)))))) (Γ (ŭ (ö (pfn G_none_above hr (À (pv 0) (À (pv 1) (À (pv 2) (À (pv 3) (À (Æ zW7 (é (À (Õ (À Á (À Á Â))) Â)) (Ë (Ö (K:=K) rfl) (by rfl) T.z_len PySem.boot_len (À (pv 0) Â))) Â))))))))))) (Å (É ž)) Ó)
   (Å (É (ø yH3 (pixT (K:=K) (pfn G_shown_by hr (À (pv 0) (À (pv 1) (À (pv 3) Â)))) Á) Á (Ò _))))),?_⟩
  have lO:=o.lO;have lL:=o.lL;have w4:=o.w4;have c8:=o.c8;rcases hN with⟨hI,hn⟩ | ⟨u,vq,wq,hP,pc,hl⟩
  ·exact(ex1 rfl (ex1 rfl (ex1 rfl ⟨ao,aw,al,os,ls,wv,pt,false,rfl,o.hO,o.hW,o.hL,by lia,by lia,by rw[lO,lL];exact hI,fun H2 s2=>(ex1 rfl (iteT (k false H2 s2 (nof hn))))⟩)))
  obtain⟨b,hI,hb⟩:=hP.ip;refine(ex1 rfl (ex1 rfl (ex1 rfl (È ?_))));refine spIp.mk (Ez:=E0) o.hO o.hW o.hL (by lia) (by lia) (by rw[lO,lL];exact hI) (fun H1 s1=>(ex1 rfl (iteB hb (fun n=>k false H1 s1 (nof fun p=>n (hl.mp p).1)) fun ng=>?_)));refine(ex1 rfl (ex1 rfl (ex1 rfl (ex1 rfl ⟨szn,fun p1 hp1=>⟨szn,fun p2 hp2=>?_⟩⟩))));have t1:=Same.upd (o:=.tup [V.int 0,V.int 1]) hp1;have t2:=Same.upd (o:=.lst [V.ref p1]) hp2;have s2:=s1.trans (t1.trans t2);have f0:FrV (upd H1 p1 (.tup [V.int 0,V.int 1])) (.ref p1) 0:=FrV.newOf rfl rfl;refine(ex1 rfl ⟨_,_,rfl,.inl ⟨_,SqL.of (s2 _ _ o.hO),rfl⟩,p2,_,_,rfl,rfl,Ã,by lia,by lia,sz (by simp;lia),fun p3 hp3=>?_⟩);rw[ŋ,ń,lO];have f2:=f0.same t2;generalize upd (upd H1 p1 (.tup [V.int 0,V.int 1])) p2 (.lst [V.ref p1])=H2 at *;have s3:=s2.trans (Same.upd (o:=.lst (ď zs.length (V.ref p1))) hp3);refine(È ?_);refine spNa.mk (Ez:=E0) (o.same s3) (hP.same s3) pc (LsF.new hp3 (zC4 f2 _)) (fun _ _=>(show Bd 200 (0:Rat) from⟨by decide,by decide⟩)) (fun b4 H4 s4 h4=>(ex1 rfl (iteB h4 (fun n=>k false H4 (s3.trans s4) (nof fun p=>n (hl.mp p).2.1)) fun wl=>?_)));have s04:=s3.trans s4;refine(ex1 rfl (ex1 rfl (ex1 rfl (È ?_))));refine spSb.mk (Ez:=E0) (o.same s04) (hP.same s04) pc (fun v6 H6 s6 f6=>?_);obtain⟨c,rfl,hc⟩:=f6;refine⟨c,_,_,_,rfl,rfl,SqT.of hc,rfl,_,_,rfl,rfl,?_⟩;refine k _ H6 (s04.trans s6) ?_;rw[decide_eq_true_iff,hl];exact⟨fun e=>⟨ng,wl,numpos.mp e⟩,fun l=>numpos.mpr l.2.2⟩
noncomputable abbrev zM8:Stmt:=top 31
theorem sc_lets_by:Ï ["offer","wish","now","some"] ["offer","wish","now","some"] (Ç zM8):=scF
theorem yH6 {ca:Ca}(D:DefAt K mg "lets_by" zM8)(T:Txt K mg ca)(G_lets_blend_by:FnAt P w K mg base CX0 10 "lets_blend_by" ["offer","wish","now","amounts","paper"] (spLb K))(G_lets_none_by:FnAt P w K mg base CX0 10 "lets_none_by" ["offer","wish","now","paper"] (spLn K)):FnAt P w K mg base CX0 11 "lets_by" ["offer","wish","now","some"] (spLets K):=by
 refine D.ok sc_lets_by (fun vs H Q E h=>?_) (fun _ _ _ _ _ _ us hl=>match us,hl with | [_,_,_,_],_=>rfl) (fun f cdv A outer s H vs Q E hr h=>?_)
 all_goals obtain⟨ao,aw,al,now,os,ls,zs,cs,wv,wd,v,P,rfl,o,hW,k⟩:=h
 ·rfl
 ·have nd:=sc_lets_by.nd;refine⟨_,(Ä (á (PW.pt (Ζ (ŭ (ö (Ë (û (K:=K) rfl) (by rfl) T.z_isinstance â (À (pv 3) (À (Ż (v:=.ty "tuple") (by rfl) T.z_tuple zD8 rfl) Â))))) (Ζ (Ð ï (Ë (Ö (K:=K) rfl) (by rfl) T.z_len PySem.boot_len (À (pv 3) Â)) Á (Ò _)) (Γ (ŭ (ö (Ë (û (K:=K) rfl) (by rfl) T.z_isinstance â (À (pixT (K:=K) (pv 3) Á) (À (Ż (v:=.ty "str") (by rfl) T.z_str xL4 rfl) Â))))))))) (Å (É ž)) Ó)
   (Ä (á (PW.pt (yE5 (Ð ï (pixT (K:=K) (pv 3) Á) å (Ò _)) (zR8 (Ð ï (Ë (Ö (K:=K) rfl) (by rfl) T.z_len PySem.boot_len (À (pv 3) Â)) Á (Ò _))))) (Å (É (pfn G_lets_blend_by hr (À (pv 0) (À (pv 1) (À (pv 2) (À (pixT (K:=K) (pv 3) Á) (À (pixT (K:=K) (pv 3) Á) Â)))))))) Ó)
   (Ä (á (PW.pt (yE5 (Ð ï (pixT (K:=K) (pv 3) Á) å (Ò _)) (zR8 (Ð ï (Ë (Ö (K:=K) rfl) (by rfl) T.z_len PySem.boot_len (À (pv 3) Â)) Á (Ò _))))) (Å (É (pfn G_lets_none_by hr (À (pv 0) (À (pv 1) (À (pv 2) (À (pixT (K:=K) (pv 3) Á) Â))))))) Ó)
   (Å (É ž))))),?_⟩
  rcases hW with⟨n,hv,hn,np⟩ | ⟨a,xs,rfl,ha,hx,np⟩ | ⟨a,pt,rfl,ha,hN⟩ | ⟨a,av,pt,rfl,ha,hB⟩
  ·refine(ex1 rfl ⟨_,_,_,_,rfl,þ hv,ŷ (zE0 hv) (by decide),ex1 rfl ?_⟩);rw[zQ8 hn (by decide)];exact iteT (k false H (Same.refl _) (nof np))
  all_goals
   refine(ex1 rfl ⟨_,_,_,_,rfl,þ (tyT ha),ŷ (by decide) (by decide),ex1 rfl (iteF ?_)⟩);refine(ex1 rfl ⟨_,_,rfl,.inr ⟨_,SqT.of ha,rfl⟩,rfl,ex1 rfl ?_⟩)
  ·rcases hx with rfl | ⟨s,rfl⟩
   ·exact iteT (k false H (Same.refl _) (nof np))
   refine iteF ?_;refine(ex1 rfl ⟨a,_,_,_,rfl,rfl,SqT.of ha,rfl,_,_,_,_,rfl,þ (n:="str") rfl,ŷ (by decide) (by decide),ex1 rfl (iteF ?_)⟩);refine(ex1 rfl ⟨a,_,_,_,rfl,rfl,SqT.of ha,rfl,rfl,ex1 rfl ?_⟩);refine ite2 (fun _=>(ex1 rfl ⟨_,_,rfl,.inr ⟨_,SqT.of ha,rfl⟩,rfl,ex1 rfl (iteF ?_)⟩)) (fun _=>?_)
   all_goals
    refine(ex1 rfl ⟨a,_,_,_,rfl,rfl,SqT.of ha,rfl,rfl,ex1 rfl ?_⟩);exact ite2 (fun _=>(ex1 rfl ⟨_,_,rfl,.inr ⟨_,SqT.of ha,rfl⟩,rfl,ex1 rfl (iteF (k false H (Same.refl _) (nof np)))⟩)) (fun _=>k false H (Same.refl _) (nof np))
  all_goals
   refine iteF ?_;refine(ex1 rfl ⟨a,_,_,_,rfl,rfl,SqT.of ha,rfl,_,_,_,_,rfl,þ (n:="str") rfl,ŷ (by decide) (by decide),ex1 rfl (iteF ?_)⟩);refine(ex1 rfl ⟨a,_,_,_,rfl,rfl,SqT.of ha,rfl,rfl,ex1 rfl ?_⟩)
  ·refine Ù (by decide +kernel) ?_;refine(ex1 rfl ⟨a,_,_,_,rfl,rfl,SqT.of ha,rfl,rfl,ex1 rfl (iteT ?_)⟩);refine(ex1 rfl ⟨_,_,rfl,.inr ⟨_,SqT.of ha,rfl⟩,rfl,ex1 rfl (iteT ?_)⟩);refine(ex1 rfl (ex1 rfl (ex1 rfl (ex1 rfl ⟨a,_,_,_,rfl,rfl,SqT.of ha,rfl,È ?_⟩))));exact spLn.mk (Ez:=E0) o hN k
  ·refine iteT ?_;refine(ex1 rfl ⟨_,_,rfl,.inr ⟨_,SqT.of ha,rfl⟩,rfl,ex1 rfl (iteT ?_)⟩);refine(ex1 rfl (ex1 rfl (ex1 rfl (ex1 rfl ⟨a,_,_,_,rfl,rfl,SqT.of ha,rfl,ex1 rfl ⟨a,_,_,_,rfl,rfl,SqT.of ha,rfl,È ?_⟩⟩))));exact spLb.mk (Ez:=E0) o hB k
noncomputable abbrev zE3:Stmt:=top 33
theorem sc_less_times:Ï ["row","other","factor"] ["row","other","factor"] (Ç zE3):=scF
theorem zS5 {ca:Ca}(D:DefAt K mg "less_times" zE3)(T:Txt K mg ca)(G_minus:FnAt P w K mg base CX0 3 "minus" ["one","other"] (Δ))(G_times:FnAt P w K mg base CX0 2 "times" ["one","other"] (spTimes)):FnAt P w K mg base CX0 4 "less_times" ["row","other","factor"] (spLess):=by
 refine D.ok sc_less_times (fun vs H Q E h=>?_) (fun _ _ _ _ _ _ us hl=>match us,hl with | [_,_,_],_=>rfl) (fun f cdv A outer s H vs Q E hr h=>?_)
 all_goals obtain⟨a,b,fv,m,f,g,t,rfl,hA,hB,hx,h30,bt,hbd,k⟩:=h
 ·rfl
 ·have nd:=sc_less_times.nd;refine⟨_,(Ä (á (Ð (zN4 (K:=K) rfl hr) (pv 2) (Õ (À Á (À Á Â))) (Ò _)) (Å (É (ÿ (ó (K:=K) rfl) (by rfl) T.z_list Α (À (pv 0) Â)))) Ó)
   (Å (É (ò ["one","two"] ["factor"] [2] rfl (by rfl) (zN3 (K:=K) rfl (by rfl) T.z_zip (À (pv 0) (À (pv 1) Â))) (fun _ _ _ _=>(ì (K:=K) (n:=2) (by rfl) (by rfl) (Ñ (Ì (i:=0) (show List.Nodup (["one","two","factor"]:List Str) from by decide) rfl (Or.inl rfl) (hf:=Or.inr (by rfl))) (Ñ (Ì (i:=1) (show List.Nodup (["one","two","factor"]:List Str) from by decide) rfl (Or.inl rfl) (hf:=Or.inr (by rfl))) ë)))) (fun _ _ _ _=>ã) (fun _ _ _ _=>(pfn G_minus hr (À (pv 0) (À (pfn G_times hr (À (pv 1) (À (pv 2) Â))) Â)))))))),?_⟩
  obtain⟨us,ha,hA⟩:=hA;obtain⟨ws,hb,hB⟩:=hB;have lA:us.length=m:=hA.length.trans (Ý m f);have lB:ws.length=m:=hB.length.trans (Ý m g);refine(ex1 rfl ⟨szn,fun p0 hp0=>?_⟩);have t0:=Same.upd (o:=.tup [.int 0,.int 1]) hp0;refine⟨_,_,(hx.same t0).rep,yE4 (SqT.of Ã),zB4 _ _,ex1 rfl ?_⟩;rw[eq01];refine ite2 (fun h=>?_) (fun h=>?_)
  ·have ht:t=0:=of_decide_eq_true h;refine(ex1 rfl ⟨a,us,rfl,.inl (SqL.of (t0 _ _ ha)),fun p hp=>?_⟩);refine k p _ (t0.free hp) (t0.trans (Same.upd hp)) ⟨us,Ã,?_⟩;have e:nR m (fun j=>f j - g j*t)=nR m f:=Κ fun j _=>by rw[ht,Ł];grind
   rw[e];exact Paired.mapP hA fun _ _ q=>(q.same t0).upd hp
  ·refine(ex1 rfl (ex1 rfl ⟨a,b,us,ws,rfl,SqL.of (t0 _ _ ha),SqL.of (t0 _ _ hb),fun Dd hD=>?_⟩));have hD0:=t0.free hD;refine zP0 (xs:=us) (ys:=ws) (fun j σ' H'=>∃(v0 v1:Option V) (qs:List V),σ'=[v0,v1,some fv] /\ Same H H' /\ H' Dd=some (.lst qs) /\ Paired (FrV H') qs (nR j fun j=>f j - g j*t)) (by lia) ⟨none,none,[],rfl,t0.trans (Same.upd hD),Ã,.nil⟩ ?_ ?_ ?_
   ·rintro j σ' H' hj ⟨v0,v1,qs,rfl,s1,hd,hF⟩;exact⟨SqL.of (s1 _ _ ha),SqL.of (s1 _ _ hb)⟩
   ·rintro j x y T' σ' H' hx1 hy1 ⟨v0,v1,qs,rfl,s1,hd,hF⟩ hT;obtain⟨r1,hr1,fx⟩:=Ê hA hx1;obtain⟨r2,hr2,fy⟩:=Ê hB hy1;obtain⟨hj,rfl⟩:=Ÿ hr1;obtain⟨_,rfl⟩:=Ÿ hr2;obtain⟨bf,bg,bgt⟩:=hbd j hj;have tT:=Same.upd (o:=.tup [x,y]) hT;have lW:qs.length=j:=hF.length.trans (Ý j _);have s2:=s1.trans tT;refine⟨T',ex1 rfl ⟨SqT.of Ã,rfl,_,_,rfl,_,_,rfl,rfl,?_⟩⟩;refine(ex1 rfl (ex1 rfl (ex1 rfl (spTimes.of (E:=E0) rfl (fy.same s2) (hx.same s2) bg bt fun u3 H3 s3 f3=>?_))));refine⟨_,_,f j,g j*t,rfl,(fx.same s2).same s3,f3,bf,bgt,fun u4 H4 s4 f4=>?_⟩;have s24:=tT.trans (s3.trans s4);have hd4:=s24 _ _ hd;refine⟨_,hd4,sz (by lia),_,_,qs++[u4],rfl,(s1.trans s24).updD hD0,Ã,?_⟩;rw[Ŵ];have tu:=ð (o:=.lst (qs++[u4])) hd4 (fun _ z=>nomatch z);exact Paired.snoc (Paired.mapP hF fun _ _ f=>(f.same s24).tup tu) (f4.tup tu)
   ·rintro σ' H1 ⟨v0,v1,qs,rfl,s1,hd,hF⟩;rw[lA]at hF;exact k Dd H1 hD0 s1 ⟨qs,hd,hF⟩
noncomputable abbrev zM6:Stmt:=top 34
theorem sc_pivoted:Ï ["rows","at","column","lead","cleared","number","row"] ["rows","at","column"] (Ç zM6):=scF
theorem yH4 {ca:Ca}(D:DefAt K mg "pivoted" zM6)(T:Txt K mg ca)(G_over:FnAt P w K mg base (CXE P w) 3 "over" ["one","other"] (yE0 ca.NoNumber))(G_less_times:FnAt P w K mg base CX0 4 "less_times" ["row","other","factor"] (spLess)):FnAt P w K mg base CX0 5 "pivoted" ["rows","at","column"] (spPiv):=by
 refine D.ok sc_pivoted (fun vs H Q E h=>?_) (fun _ _ _ _ _ _ us hl=>match us,hl with | [_,_,_],_=>rfl) (fun f cdv A outer s H vs Q E hr h=>?_)
 all_goals obtain⟨a,r,m,c,k,M,rfl,hM,hc,hk,hr30,hm,hp,hbd,fin⟩:=h
 ·rfl
 ·have nd:=sc_pivoted.nd;refine⟨_,(Ä (zC3 ["number"] ["column","rows","at"] [2,0,1] (i:=3) nd rfl rfl rfl (by rfl) (ç (K:=K) rfl (pixL (K:=K) (pv 0) (pv 1))) (fun _ _ _ _=>(Ì (i:=0) (show List.Nodup (["number","column","rows","at"]:List Str) from by decide) rfl (Or.inl rfl))) (fun _ _ _ _=>ã) (fun _ _ _ _=>(ο G_over hr (by rfl) yL4 (À (pv 0) (À (pixL (K:=K) (pixL (K:=K) (pv 2) (pv 3)) (pv 1)) Â)))))
   (Ä (Í (i:=4) nd rfl (Or.inl rfl) (é Â))
   (Ä (ů PassesOwn.never rfl (zH5 (K:=K) rfl (by rfl) T.z_enumerate (À (pv 0) Â)) (ì (K:=K) (n:=2) (by rfl) (by rfl) (Ñ (Ì (i:=5) nd rfl (Or.inl rfl)) (Ñ (Ì (i:=6) nd rfl (Or.inl rfl)) ë))) (Å (á (Ð ï (pv 5) (pv 1) (Ò _)) (Å (Ű (Ž (K:=K) rfl PySem.F.plainAttrs_list PySem.F.slot_list_append PySem.F.type_list_append í (pv 4) (À (pv 3) Â)))) (Å (Ű (Ž (K:=K) rfl PySem.F.plainAttrs_list PySem.F.slot_list_append PySem.F.type_list_append í (pv 4) (À (pfn G_less_times hr (À (pv 6) (À (pv 3) (À (pixL (K:=K) (pv 6) (pv 2)) Â)))) Â)))))))
   (Å (É (pv 4)))))),?_⟩
  refine cutS fun nX eX=>?_;obtain⟨bs,ha,lb,hB⟩:=hM;obtain⟨bc,hbc⟩:∃b,bs[c]?=some b:=⟨_,ā (by lia)⟩;have hLc:=hB c bc hbc;obtain⟨vs,hvs,hV⟩:=id hLc;have lV:vs.length=m:=hV.length.trans (Ý m _);obtain⟨vs',vk,hvs',_,hak,fk⟩:=hLc.at hk;rw[hvs]at hvs';cases hvs';refine(ex1 rfl (ex1 rfl (gL ha (Ε hbc) ⟨bc,rfl,⟨_,SqL.of hvs⟩,fun Dd hD=>?_⟩)));refine æ (xs:=vs) (fun j σ' H'=>∃(v:Option V) (qs:List V),σ'=[v,some (.int (k:Nat)),some (.ref a),some (.int (c:Nat))] /\ Same H H' /\ H' Dd=some (.lst qs) /\ Paired (FrV H') qs (nR j fun j=>M c j / M c k)) ⟨none,[],rfl,Same.upd hD,Ã,.nil⟩ ?_ ?_ ?_
  ·rintro j σ' H' hj ⟨v,qs,rfl,s1,hd,hF⟩;exact SqL.of (s1 _ _ hvs)
  ·rintro j x σ' H' hx1 ⟨v,qs,rfl,s1,hd,hF⟩;obtain⟨r1,hr1,fx⟩:=Ê hV hx1;obtain⟨hj,rfl⟩:=Ÿ hr1;have lW:qs.length=j:=hF.length.trans (Ý j _);refine(ex1 rfl (ex1 rfl (ex1 rfl (gL (s1 _ _ ha) (Ε hbc) (ex1 rfl (gL (s1 _ _ hvs) hak ?_))))));refine⟨_,_,M c j,M c k,rfl,fx.same s1,fk.same s1,(hbd c hc j hj).1,(hbd c hc k hk).1,(fun _ u2 H2 s2 f2=>?_),fun z=>absurd z hp⟩;have hd2:=s2 _ _ hd;refine⟨_,hd2,sz (by lia),_,qs++[u2],rfl,(s1.trans s2).updD hD,Ã,?_⟩;rw[Ŵ];have tu:=ð (o:=.lst (qs++[u2])) hd2 (fun _ z=>nomatch z);exact Paired.snoc (Paired.mapP hF fun _ _ f=>(f.same s2).tup tu) (f2.tup tu)
  rintro σ' H1 ⟨v,qs,rfl,s1,hd,hF⟩;rw[lV]at hF;have hld:LsF H1 Dd (nR m fun j=>M c j / M c k):=⟨qs,hd,hF⟩;refine stpS eX fun nX eX=>?_;refine⟨szn,fun p hp'=>?_⟩;have tp:=Same.upd (o:=.lst []) hp';have hp0:=s1.free hp';have s1p:=s1.trans tp;refine stpS eX fun nX eX=>?_;refine(ex1 rfl ⟨a,ex1 rfl ⟨SqL.of (s1p _ _ ha),?_⟩⟩);refine zD6 (xs:=bs.map V.ref) (fun i σ H2=>∃(v5 v6:Option V) (cs:List Addr),σ=[some (.ref a),some (.int (c:Nat)),some (.int (k:Nat)),some (.ref Dd),some (.ref p),v5,v6] /\ Same H1 H2 /\ H2 p=some (.lst (cs.map V.ref)) /\ cs.length=i /\ ∀j q,cs[j]?=some q->q≠p /\ LsF H2 q (nR m (pivM M c k j))) ⟨none,none,[],rfl,tp,Ã,rfl,fun j q e=>by simp at e⟩ ?_ ?_ ?_
  ·rintro i σ H2 hi ⟨v5,v6,cs,rfl,s2,h2,lc,hC⟩;exact SqL.of ((s1.trans s2) _ _ ha)
  ·rintro i x T' σ H2 hx1 ⟨v5,v6,cs,rfl,s2,h2,lc,hC⟩ hT;obtain⟨bi,rfl,hbi⟩:=xA8 hx1;have hil:i<r:=by have:=(Ą.mp hbi).1;lia
   have tT:=Same.upd (o:=.tup [.int (i:Nat),.ref bi]) hT;refine⟨T',ex1 rfl ⟨SqT.of Ã,rfl,_,_,rfl,_,_,rfl,rfl,?_⟩⟩;have s2T:=s2.trans tT;have h2T:=tT _ _ h2;have hC3:∀j q,cs[j]?=some q->q≠p /\ LsF (upd H2 T' (.tup [.int (i:Nat),.ref bi])) q (nR m (pivM M c k j)):=fun j q e=>⟨(hC j q e).1,(hC j q e).2.same tT⟩;generalize upd H2 T' (.tup [.int (i:Nat),.ref bi])=H3 at *;have fin2:∀H4 q,Same H3 H4->q≠p->LsF H4 q (nR m (pivM M c k i))->∃(v5 v6:Option V) (ds:List Addr),[some (V.ref a),some (.int (c:Nat)),some (.int (k:Nat)),some (.ref Dd),some (.ref p),some (.int (i:Nat)),some (.ref bi)]=[some (V.ref a),some (.int (c:Nat)),some (.int (k:Nat)),some (.ref Dd),some (.ref p),v5,v6] /\ Same H1 (upd H4 p (.lst (cs.map V.ref++[.ref q]))) /\ upd H4 p (.lst (cs.map V.ref++[.ref q])) p=some (.lst (ds.map V.ref)) /\ ds.length=i+1 /\ ∀j q',ds[j]?=some q'->q'≠p /\ LsF (upd H4 p (.lst (cs.map V.ref++[.ref q]))) q' (nR m (pivM M c k j)):=by
    intro H4 q s4 nq hq;have h4:=s4 _ _ h2T;have tu:=ð (o:=.lst (cs.map V.ref++[.ref q])) h4 (fun _ z=>nomatch z);refine⟨_,_,cs++[q],rfl,(s2T.trans s4).updD hp',by rw[Ã,ė];rfl,by rw[Ĕ,lc];rfl,fun j q' e=>?_⟩;rcases zU8 e with e | ⟨e1,rfl⟩
    ·obtain⟨n1,l1⟩:=hC3 j q' e;exact⟨n1,(l1.same s4).keep tu fun vs h=>by rw[upd_ne n1];exact h⟩
    ·rw[e1,lc];exact⟨nq,hq.keep tu fun vs h=>by rw[upd_ne nq];exact h⟩
   have npD:Dd≠p:=fun e=>by rw[<- e,hd]at hp';cases hp'
   show tIfS _ _ _ _ _ _;refine(ex1 rfl (ex1 rfl ⟨rfl,ex1 rfl ?_⟩));refine ite2 (fun h=>?_) (fun h=>?_)
   ·have h:i=c:=by have:=of_decide_eq_true h;have:=V.int.inj this;lia
    subst h;refine(ex1 rfl ⟨.inl ⟨rfl,_,SqL.of h2T⟩,ex1 rfl ⟨p,_,_,rfl,rfl,h2T,sz (by rw[ą];lia),?_⟩⟩);refine fin2 H3 Dd (Same.refl _) npD ?_;have e:nR m (pivM M i k i)=nR m (fun j=>M i j / M i k):=Κ fun j _=>by unfold pivM;rw[if_pos rfl]
    rw[e];exact hld.same s2T
   ·have h:i≠c:=fun e=>h (decide_eq_true (by rw[e]));obtain⟨us,u,hus,_,hau,fu⟩:=((hB i bi hbi).same (s1.trans s2T)).at hk;refine(ex1 rfl ⟨.inl ⟨rfl,_,SqL.of h2T⟩,ex1 rfl (ex1 rfl (ex1 rfl (ex1 rfl (gL hus hau ?_))))⟩);refine(È ?_);refine spLess.mk (Ez:=E0) ((hB i bi hbi).same (s1.trans s2T)) (hld.same s2T) fu hm ((hbd i hil k hk).1) (fun j hj=>⟨(hbd i hil j hj).1,(hbd i hil j hj).2⟩) (fun pn H4 hpn s4 h4=>?_);refine⟨p,_,_,rfl,rfl,s4 _ _ h2T,sz (by rw[ą];lia),?_⟩;refine fin2 H4 pn s4 (fun e=>by rw[e,h2T]at hpn;cases hpn) ?_;have e:nR m (pivM M c k i)=nR m (fun j=>M i j - M c j / M c k*M i k):=Κ fun j _=>by unfold pivM;rw[if_neg h]
    rw[e];exact h4
  ·rintro σ H2 ⟨v5,v6,cs,rfl,s2,h2,lc,hC⟩;rw[ą,lb]at lc;subst eX;exact(ex1 rfl (fin p H2 hp0 (s1.trans s2) ⟨cs,h2,lc,fun j q e=>(hC j q e).2⟩))
noncomputable abbrev zJ5:Stmt:=top 35
theorem sc_entering:Ï ["costs","many","column"] ["costs","many"] (Ç zJ5):=scF
theorem yB4 {ca:Ca}(D:DefAt K mg "entering" zJ5)(T:Txt K mg ca):FnAt P w K mg base CX0 1 "entering" ["costs","many"] (spEnt):=by
 refine D.ok sc_entering (fun vs H Q E h=>?_) (fun _ _ _ _ _ _ us hl=>match us,hl with | [_,_],_=>rfl) (fun f cdv A outer s H vs Q E hr h=>?_)
 all_goals obtain⟨a,m,k,f,rfl,hL,hk,hm,yes,no⟩:=h
 ·rfl
 ·have nd:=sc_entering.nd;refine⟨_,(Ä (ů PassesOwn.never rfl (ź (by rfl) T.z_range (À (pv 1) Â)) (Ì (i:=2) nd rfl (Or.inl rfl)) (Å (á (Ð υ (pixT (K:=K) (pixL (K:=K) (pv 0) (pv 2)) Á) Á (Ò _)) (Å (É (pv 2))) Ó)))
   (Å (É ζ))),?_⟩
  refine⟨_,rfl,_,rfl,by lia,by lia,?_⟩;refine zG3 (fun i σ H1=>∃v2:Option V,σ=[some (.ref a),some (.int (k:Nat)),v2] /\ H1=H /\ ∀j,j<i->0<=f j) ⟨none,rfl,rfl,fun j hj=>absurd hj (ņ _)⟩ ?_ ?_
  ·rintro i σ H1 hi ⟨v2,rfl,rfl,low⟩;have hi:i<k:=by
    have hi:i<((k:Nat):Int).toNat:=hi;lia
   obtain⟨vs,v,hv,_,hat,b,rfl,hb⟩:=hL.at (Ă hi hk);have e0:(0:Int)+(i:Int)=((i:Nat):Int):=by lia
   refine⟨_,rfl,_,rfl,a,_,_,_,rfl,rfl,SqL.of hv,?_,b,_,_,_,rfl,rfl,SqT.of hb,rfl,_,_,rfl,rfl,_,rfl,?_⟩
   ·rw[e0];exact hat
   refine ite2 (fun h=>?_) (fun h=>?_)
   ·have h:(f i).num<0:=of_decide_eq_true h;refine⟨_,rfl,?_⟩;show Q (.int (0+(i:Int))) _;rw[e0];exact yes i hi (Rat.not_le.mp fun z=>by have:=Ļ.mpr z;lia) low
   ·have h:¬(f i).num<0:=fun z=>h (decide_eq_true z);refine⟨_,rfl,rfl,fun j hj=>?_⟩;rcases Ę (ĕ hj) with z | z
    ·exact low j z
    ·rw[z];exact Ļ.mp (by lia)
  rintro σ H1 ⟨v2,rfl,rfl,low⟩;exact no fun i hi=>low i (by show i<((k:Nat):Int).toNat;lia)
noncomputable abbrev zM9:Stmt:=top 36
theorem sc_leaving:Ï ["rows","basis","column","best","least","at","held","row","ratio"] ["rows","basis","column"] (Ç zM9):=scF
theorem yH7 {ca:Ca}(D:DefAt K mg "leaving" zM9)(T:Txt K mg ca)(G_over:FnAt P w K mg base (CXE P w) 3 "over" ["one","other"] (yE0 ca.NoNumber))(G_under:FnAt P w K mg base CX0 1 "under" ["one","other"] (zR0)):FnAt P w K mg base CX0 4 "leaving" ["rows","basis","column"] (spLeav):=by
 refine D.ok sc_leaving (fun vs H Q E h=>?_) (fun _ _ _ _ _ _ us hl=>match us,hl with | [_,_,_],_=>rfl) (fun f cdv A outer s H vs Q E hr h=>?_)
 all_goals obtain⟨a,ab,r,m,mm,k,M,B,rfl,hM,hb,mr,r30,km,m30,bd,ex,fin⟩:=h
 ·rfl
 ·have nd:=sc_leaving.nd;refine⟨_,(Ä (Í (i:=3) nd rfl (Or.inl rfl) ζ)
   (Ä (Í (i:=4) nd rfl (Or.inl rfl) ζ)
   (Ä (ů PassesOwn.never rfl (zH5 (K:=K) rfl (by rfl) T.z_enumerate (À (pv 1) Â)) (ì (K:=K) (n:=2) (by rfl) (by rfl) (Ñ (Ì (i:=5) nd rfl (Or.inl rfl)) (Ñ (Ì (i:=6) nd rfl (Or.inl rfl)) ë))) (Ä (Í (i:=7) nd rfl (Or.inl rfl) (pixL (K:=K) (pv 0) (pv 5)))
   (Å (á (Ð yH3 (pixT (K:=K) (pixL (K:=K) (pv 7) (pv 2)) Á) Á (Ò _)) (Ä (Í (i:=8) nd rfl (Or.inl rfl) (ο G_over hr (by rfl) yL4 (À (pixL (K:=K) (pv 7) (Æ ô (Ë (Ö (K:=K) rfl) (by rfl) T.z_len PySem.boot_len (À (pv 7) Â)) Á)) (À (pixL (K:=K) (pv 7) (pv 2)) Â))))
   (Å (á (PW.pt (Ζ (Ð yX0 (pv 3) ζ (Ò _)) (Ζ (ö (pfn G_under hr (À (pv 8) (À (pv 4) Â)))) (Γ (PW.pt (yE5 (Ð (zN4 (K:=K) rfl hr) (pv 8) (pv 4) (Ò _)) (zR8 (Ð υ (pv 6) (pixL (K:=K) (pv 1) (pv 3)) (Ò _))))))))) (Ä (Í (i:=3) nd rfl (Or.inl rfl) (pv 5))
   (Å (Í (i:=4) nd rfl (Or.inl rfl) (pv 8)))) Ó))) Ó))))
   (Å (É (pv 3)))))),?_⟩
  refine cutS fun nX eX=>?_;obtain⟨bs,ha,lb,hB⟩:=hM;have hbl:((Đ mm).map fun i=>V.int (B i:Nat)).length=mm:=by rw[ą,ē]
  subst eX;refine(ex1 rfl ⟨ab,ex1 rfl ⟨SqL.of hb,?_⟩⟩);refine zD6 (xs:=(Đ mm).map fun i=>V.int (B i:Nat)) (fun i σ H2=>∃(o:Option Nat) (v3 v4:V) (v5 v6 v7 v8:Option V),σ=[some (.ref a),some (.ref ab),some (.int (k:Nat)),some v3,some v4,v5,v6,v7,v8] /\ Same H H2 /\ BestR M (m - 1) k B i o /\ BestV M (m - 1) k H2 v3 v4 o) ⟨none,.non,.non,none,none,none,none,rfl,Same.refl _,(fun l hl=>absurd hl (ņ _)),rfl⟩ ?_ ?_ ?_
  ·rintro i σ H2 hi ⟨o,v3,v4,v5,v6,v7,v8,rfl,s2,hO,hv⟩;exact SqL.of (s2 _ _ hb)
  ·rintro i x T' σ H2 hx ⟨o,v3,v4,v5,v6,v7,v8,rfl,s2,hO,hv⟩ hT;have hi:i<mm:=by have:=(Ą.mp hx).1;rw[hbl]at this;exact this
   have ex':x=V.int (B i:Nat):=by
    rw[č,Ģ hi]at hx;exact(Option.some.inj hx).symm
   subst ex';have tT:=Same.upd (o:=.tup [.int (i:Nat),.int (B i:Nat)]) hT;refine⟨T',ex1 rfl ⟨SqT.of Ã,rfl,_,_,rfl,_,_,rfl,rfl,?_⟩⟩;have s3:=s2.trans tT;have hv3:=hv.same tT;generalize upd H2 T' (.tup [.int (i:Nat),.int (B i:Nat)])=H3 at *;obtain⟨bi,hbi⟩:∃b,bs[i]?=some b:=⟨_,ā (by lia)⟩;have hL:=(hB i bi hbi).same s3;obtain⟨us,vk,hus,lus,hak,fk⟩:=hL.at km;obtain⟨us',vn,hus',_,han,fn⟩:=hL.at (j:=m - 1) (by lia);rw[hus]at hus';cases hus';obtain⟨ck,rfl,hck⟩:=id fk;refine(ex1 rfl (ex1 rfl (gL (s3 _ _ ha) (Ε hbi) ?_)));refine(ex1 rfl (ex1 rfl ⟨bi,_,_,_,rfl,rfl,SqL.of hus,hak,ck,_,_,_,rfl,rfl,SqT.of hck,rfl,_,_,rfl,rfl,ex1 rfl ?_⟩));refine ite2 (fun h=>?_) (fun h=>?_)
   ·have hp:0<M i k:=numpos.mp (of_decide_eq_true h);have eN:(((us.length:Nat):Int) - 1)=((m - 1:Nat):Int):=by lia
    obtain⟨b1,b2,b3⟩:=bd i hi;have hanI:atI us (((us.length:Nat):Int) - 1)=some vn:=by rw[eN];exact han
    refine(ex1 rfl (ex1 rfl ⟨_,_,rfl,.inl ⟨_,SqL.of hus,rfl⟩,_,_,rfl,rfl,gL hus hanI (ex1 rfl (ex1 rfl (gL hus hak ⟨_,_,M i (m - 1),M i k,rfl,fn,fk,b1,b2,fun _ vr H4 s4 fr=>?_,fun e=>?_⟩)))⟩))
    case refine_2=>rw[e]at hp;exact absurd hp (by decide)
    have hv4:=hv3.same s4;have s04:=s3.trans s4;cases o with
    | none =>
     have e3:v3 = .non:=hv4;subst e3;refine(ex1 rfl ⟨rfl,ex1 rfl ?_⟩);refine ù rfl (iteT ?_);refine(ex1 rfl (ex1 rfl ?_));exact⟨some i,_,_,_,_,_,_,rfl,s04,hO.first hp,rfl,fr⟩
    | some b =>
     obtain⟨rfl,fb⟩:=hv4;have bm:b<mm:=Nat.lt_trans hO.1 hi;refine(ex1 rfl ⟨rfl,ex1 rfl ?_⟩);refine Ù (fun z=>nomatch z) ?_;refine(ex1 rfl (ex1 rfl ⟨_,_,M i (m - 1) / M i k,M b (m - 1) / M b k,rfl,fr,fb,b3,(bd b bm).2.2,ex1 rfl ?_⟩));refine ite2 (fun h2=>?_) (fun h2=>?_)
     ·have h2:M i (m - 1) / M i k<M b (m - 1) / M b k:=of_decide_eq_true h2;refine iteT ?_;refine(ex1 rfl (ex1 rfl ?_));exact⟨some i,_,_,_,_,_,_,rfl,s04,hO.take hp (.inl h2),rfl,fr⟩
     ·have h2:¬M i (m - 1) / M i k<M b (m - 1) / M b k:=fun z=>h2 (decide_eq_true z);refine(ex1 rfl (ex1 rfl ⟨_,_,fr.rep,fb.rep,zB4 _ _,ex1 rfl ?_⟩));rw[zQ6,zQ4];have stay:(M i (m - 1) / M i k=M b (m - 1) / M b k->¬B i<B b)->∃(o:Option Nat) (v3' v4':V) (v5 v6 v7 v8:Option V),[some (V.ref a),some (.ref ab),some (.int (k:Nat)),some (.int (b:Nat)),some v4,some (.int (i:Nat)),some (.int (B i:Nat)),some (.ref bi),some vr]=[some (.ref a),some (.ref ab),some (.int (k:Nat)),some v3',some v4',v5,v6,v7,v8] /\ Same H H4 /\ BestR M (m - 1) k B (i+1) o /\ BestV M (m - 1) k H4 v3' v4' o:=fun g=>⟨some b,_,_,_,_,_,_,rfl,s04,hO.keep h2 g,rfl,fb⟩;refine ite2 (fun h3=>?_) (fun h3=>?_)
      ·have h3:M i (m - 1) / M i k=M b (m - 1) / M b k:=of_decide_eq_true h3;have atb:atI ((Đ mm).map fun i=>V.int (B i:Nat)) ((b:Nat):Int)=some (.int (B b:Nat)):=Ŭ (by rw[č,Ģ bm];rfl);refine(ex1 rfl (ex1 rfl (ex1 rfl (gL (s04 _ _ hb) atb ⟨_,_,rfl,rfl,ex1 rfl ?_⟩))));refine ite2 (fun h4=>?_) (fun h4=>?_)
       ·have h4:((B i:Nat):Int)<((B b:Nat):Int):=of_decide_eq_true h4;refine(ex1 rfl (ex1 rfl ?_));exact⟨some i,_,_,_,_,_,_,rfl,s04,hO.take hp (.inr ⟨h3,by lia⟩),rfl,fr⟩
       ·exact stay fun _ z=>h4 (decide_eq_true (by lia))
      ·exact stay fun z=>absurd z fun z=>h3 (decide_eq_true z)
   ·have hn:¬0<M i k:=fun z=>h (decide_eq_true (numpos.mpr z));exact⟨o,v3,v4,_,_,_,_,rfl,s3,hO.skip hn,hv3⟩
  rintro σ H2 ⟨o,v3,v4,v5,v6,v7,v8,rfl,s2,hO,hv⟩;rw[hbl]at hO;cases o with
  | none =>
   obtain⟨i,hi,hp⟩:=ex;exact absurd hp (hO i hi)
  | some b =>
   obtain⟨rfl,fb⟩:=hv;refine(ex1 rfl ?_);exact fin b H2 hO.1 hO.2.1 (fun l hl hq=>hO.fin hl hq) s2
noncomputable abbrev zM7:Stmt:=top 37
theorem sc_lowered:Ï ["rows","basis","many","held","column","at"] ["rows","basis","many"] (Ç zM7):=scF
theorem yH5 {ca:Ca}(D:DefAt K mg "lowered" zM7)(T:Txt K mg ca)(G_entering:FnAt P w K mg base CX0 1 "entering" ["costs","many"] (spEnt))(G_leaving:FnAt P w K mg base CX0 4 "leaving" ["rows","basis","column"] (spLeav))(G_pivoted:FnAt P w K mg base CX0 5 "pivoted" ["rows","at","column"] (spPiv)):FnAt P w K mg base CX0 6 "lowered" ["rows","basis","many"] (xF7):=by
 refine D.ok sc_lowered (fun vs H Q E h=>?_) (fun _ _ _ _ _ _ us hl=>match us,hl with | [_,_,_],_=>rfl) (fun f cdv A outer s H vs Q E hr h=>?_)
 all_goals obtain⟨a,ab,mm,n,many,M,B,L,rfl,hM,hb,mn,m30,n30,can,feas,bnd,szs,fin⟩:=h
 ·rfl
 ·have nd:=sc_lowered.nd;refine⟨_,(Ä (Í (i:=3) nd rfl (Or.inl rfl) (ÿ (ó (K:=K) rfl) (by rfl) T.z_list Α (À (pv 1) Â)))
   (Å (zR9 PassesOwn.never (ö ž) (Ä (Í (i:=4) nd rfl (Or.inl rfl) (pfn G_entering hr (À (pixL (K:=K) (pv 0) (Æ ô (Ë (Ö (K:=K) rfl) (by rfl) T.z_len PySem.boot_len (À (pv 0) Â)) Á)) (À (pv 2) Â))))
   (Ä (á (Ð yX0 (pv 4) ζ (Ò _)) (Å (É (Õ (À (pv 0) (À (pv 3) Â))))) Ó)
   (Ä (Í (i:=5) nd rfl (Or.inl rfl) (pfn G_leaving hr (À (pv 0) (À (pv 3) (À (pv 4) Â)))))
   (Ä (Í (i:=0) nd rfl (Or.inl rfl) (pfn G_pivoted hr (À (pv 0) (À (pv 5) (À (pv 4) Â)))))
   (Å (Ν (pv 4) (ξ (pv 3) (pv 5) Ι)))))))))),?_⟩
  refine(ex1 rfl ⟨ab,ex1 rfl ⟨.inl (SqL.of hb),fun pb hpb=>?_⟩⟩);have tp:=Same.upd (o:=.lst (ñ mm B)) hpb;refine⟨fun w σ H2=>∃(p:Addr) (M':Nat->Nat->Rat) (B':Nat->Nat) (q:Nat) (v4 v5:Option V),w=2^n - q /\ σ=[some (.ref p),some (.ref ab),some (.int (many:Nat)),some (.ref pb),v4,v5] /\ Same H H2 /\ H2 pb=some (.lst (ñ mm B')) /\ MatAt H2 p (mm+1) (n+1) M' /\ Runs many mm n q M M' B B',⟨_,a,M,B,0,none,none,rfl,rfl,tp,Ã,hM.same tp,.zero⟩,?_⟩;rintro w σ H2 ⟨p,M',B',q,v4,v5,rfl,rfl,s2,h2,hM2,hR⟩;have szq:=szs q M' B' hR;refine(ex1 rfl (iteT ?_));refine⟨fun σ' H'=>∃m',m'<2^n - q /\ ∃(p:Addr) (M':Nat->Nat->Rat) (B':Nat->Nat) (q:Nat) (v4 v5:Option V),m'=2^n - q /\ σ'=[some (.ref p),some (.ref ab),some (.int (many:Nat)),some (.ref pb),v4,v5] /\ Same H H' /\ H' pb=some (.lst (ñ mm B')) /\ MatAt H' p (mm+1) (n+1) M' /\ Runs many mm n q M M' B B',fun _ _ h=>h,?_⟩;obtain⟨bs,hp2,lb,hB⟩:=id hM2;obtain⟨bc,hbc⟩:∃b,bs[mm]?=some b:=⟨_,ā (by lia)⟩;have hLc:=hB mm bc hbc;have eN:((((bs.map V.ref).length:Nat):Int) - 1)=((mm:Nat):Int):=by rw[ą];lia
  have hat:atI (bs.map V.ref) ((((bs.map V.ref).length:Nat):Int) - 1)=some (.ref bc):=by rw[eN];exact Ε hbc
  refine(ex1 rfl (ex1 rfl ⟨_,_,rfl,.inl ⟨_,SqL.of hp2,rfl⟩,_,_,rfl,rfl,p,_,_,_,rfl,rfl,SqL.of hp2,hat,ex1 rfl (È ?_)⟩));refine spEnt.mk (Ez:=E0) hLc (by lia) (by lia) (fun s hs neg low=>?_) (fun low=>?_)
  ·refine(ex1 rfl ⟨rfl,ex1 rfl ?_⟩);refine Ù (fun z=>nomatch z) ?_;have sn:s<n+1:=by lia
   refine(ex1 rfl (ex1 rfl (ex1 rfl (È ?_))));refine spLeav.mk (Ez:=E0) hM2 h2 (by lia) m30 sn n30 (fun i hi=>?_) (hR.leaves can feas bnd (by lia) neg) (fun r H3 hr pos least s3=>?_)
   ·have b1:=szq i (by lia) n (by lia);have b2:=szq i (by lia) s sn;exact⟨b1.mono (by decide),b2.mono (by decide),(zZ1 b1 b2).mono (by decide)⟩
   have ne:M' r s≠0:=fun e=>by rw[e]at pos;exact absurd pos (by decide)
   refine(ex1 rfl (ex1 rfl (ex1 rfl (È ?_))));refine spPiv.mk (Ez:=E0) (hM2.same s3) (by lia) sn m30 n30 ne (fun i hi j hj=>?_) (fun p4 H4 hp4 s4 hM4=>?_)
   ·have b1:=szq i hi j hj;have b2:=szq r (by lia) j hj;have b3:=szq r (by lia) s sn;exact⟨b1.mono (by decide),(zZ1 b2 b3).mono (by decide),((zZ1 b2 b3).mul (szq i hi s sn)).mono (by decide)⟩
   have h4:=s4 _ _ (s3 _ _ h2);have stp:=hR.snoc (xF3 (B:=B') hs mn neg low hr pos least);have few:=stp.few can feas;refine(ex1 rfl (ex1 rfl (ex1 rfl ⟨pb,_,_,r,rfl,rfl,h4,Ψ (by rw[zG2];exact hr),?_⟩)));refine⟨2^n - (q+1),by lia,p4,pivM M' r s,fun i=>if i=r then s else B' i,q+1,_,_,rfl,rfl,(s2.trans (s3.trans s4)).updD hpb,?_,hM4.setI h4,stp⟩;rw[Ã,zX4]
  ·refine(ex1 rfl ⟨rfl,ex1 rfl ?_⟩);refine ù rfl ?_;refine(ex1 rfl (ex1 rfl ⟨szn,fun t ht=>?_⟩));have tt:=Same.upd (o:=.tup [V.ref p,V.ref pb]) ht;exact fin p pb t q M' B' _ (s2.trans tt) (hM2.same tt) (tt _ _ h2) Ã hR low
noncomputable abbrev yJ7:Stmt:=top 39
theorem sc_unit:Ï ["many","column","row"] ["many","column"] (Ç yJ7):=scF
theorem xC0 {ca:Ca}(D:DefAt K mg "unit" yJ7)(T:Txt K mg ca):FnAt P w K mg base CX0 1 "unit" ["many","column"] (spUnit):=by
 refine D.ok sc_unit (fun vs H Q E h=>?_) (fun _ _ _ _ _ _ us hl=>match us,hl with | [_,_],_=>rfl) (fun f cdv A outer s H vs Q E hr h=>?_)
 all_goals obtain⟨m,k,rfl,km,m30,fin⟩:=h
 ·rfl
 ·have nd:=sc_unit.nd;refine⟨_,(Ä (Í (i:=2) nd rfl (Or.inl rfl) (Æ zW7 (é (À (Õ (À Á (À Á Â))) Â)) (pv 0)))
   (Ä (Ν (Õ (À Á (À Á Â))) (ξ (pv 2) (pv 1) Ι))
   (Å (É (pv 2))))),?_⟩
  refine⟨szn,fun p0 hp0=>⟨szn,fun p1 hp1=>?_⟩⟩;refine⟨_,rfl,p1,_,_,rfl,rfl,Ã,by lia,by lia,sz (by simp;lia),fun p hp=>?_⟩;rw[ŋ,ń];have t0:=Same.upd (o:=.tup [.int 0,.int 1]) hp0;have t1:=t0.trans (Same.upd (o:=.lst [V.ref p0]) hp1);have f0:FrV (upd H p0 (.tup [.int 0,.int 1])) (.ref p0) 0:=FrV.newOf rfl rfl;have f1:=f0.same (Same.upd (o:=.lst [V.ref p0]) hp1);have hpH:=t1.free hp;generalize upd (upd H p0 (.tup [.int 0,.int 1])) p1 (.lst [V.ref p0])=H1 at *;have t2:=Same.upd (o:=.lst (ď m (V.ref p0))) hp;refine⟨szn,fun p2 hp2=>?_⟩;have t3:=Same.upd (o:=.tup [.int 1,.int 1]) hp2;have f2:FrV (upd (upd H1 p (.lst (ď m (V.ref p0)))) p2 (.tup [.int 1,.int 1])) (.ref p2) 1:=FrV.newOf rfl rfl;have h2:=t3 _ _ (Ã (H:=H1) (a:=p) (o:=.lst (ď m (V.ref p0))));have f12:=(f1.same t2).same t3;have s2:=t1.trans (t2.trans t3);generalize upd (upd H1 p (.lst (ď m (V.ref p0)))) p2 (.tup [.int 1,.int 1])=H2 at *;refine⟨_,rfl,_,rfl,p,_,_,k,rfl,rfl,h2,Ψ (by rw[List.length_replicate];exact km),?_⟩;refine⟨_,rfl,?_⟩;have tu:=ð (o:=.lst ((ď m (V.ref p0)).set k (.ref p2))) h2 (fun _ z=>nomatch z);refine fin p _ hpH (s2.updD hpH) ⟨_,Ã,?_⟩;exact zA6 (f:=fun _=>0) (zC4 (f12.tup tu) m) (f2.tup tu)
noncomputable abbrev zE5:Stmt:=top 40
theorem sc_first_rows:Ï ["offer","wish","now","wines","slacks","rows","j","pair","c","weights"] ["offer","wish","now"] (Ç zE5):=scF
theorem zS7 {ca:Ca}(D:DefAt K mg "first_rows" zE5)(T:Txt K mg ca)(G_unit:FnAt P w K mg base CX0 1 "unit" ["many","column"] (spUnit))(G_total:FnAt P w K mg base CX0 4 "total" ["wine"] (spTotal))(G_weights_in:FnAt P w K mg base CX0 8 "weights_in" ["offer","label","now"] (spWin K))(G_minus:FnAt P w K mg base CX0 3 "minus" ["one","other"] (Δ)):FnAt P w K mg base CX0 9 "first_rows" ["offer","wish","now"] (spFirst K):=by
 refine D.ok sc_first_rows (fun vs H Q E h=>?_) (fun _ _ _ _ _ _ us hl=>match us,hl with | [_,_,_],_=>rfl) (fun f cdv A outer s H vs Q E hr h=>?_)
 all_goals obtain⟨ao,aw,al,now,os,ls,zs,cs,wv,wd,rfl,hO,hPo,okW,w8,hW,fw,hL,hPl,c8,fin⟩:=h
 ·rfl
 ·have nd:=sc_first_rows.nd;refine⟨_,(Ä (Í (i:=3) nd rfl (Or.inl rfl) (Ë (Ö (K:=K) rfl) (by rfl) T.z_len PySem.boot_len (À (pv 0) Â)))
   (Ä (Í (i:=4) nd rfl (Or.inl rfl) (Æ è (Æ è (pv 3) (Ë (Ö (K:=K) rfl) (by rfl) T.z_len PySem.boot_len (À (pixT (K:=K) (pv 1) Á) Â))) Á))
   (Ä (Í (i:=5) nd rfl (Or.inl rfl) (é Â))
   (Ä (ů PassesOwn.never rfl (zH5 (K:=K) rfl (by rfl) T.z_enumerate (À (pv 0) Â)) (ì (K:=K) (n:=2) (by rfl) (by rfl) (Ñ (Ì (i:=6) nd rfl (Or.inl rfl)) (Ñ (Ì (i:=7) nd rfl (Or.inl rfl)) ë))) (Å (Ű (Ž (K:=K) rfl PySem.F.plainAttrs_list PySem.F.slot_list_append PySem.F.type_list_append í (pv 5) (À (Æ Ρ (Æ Ρ (pfn G_unit hr (À (pv 3) (À (pv 6) Â))) (pfn G_unit hr (À (pv 4) (À (pv 6) Â)))) (é (À (pfn G_total hr (À (pixT (K:=K) (pv 7) Á) Â)) Â))) Â)))))
   (Ä (ů PassesOwn.never rfl (zH5 (K:=K) rfl (by rfl) T.z_enumerate (À (pfn G_weights_in hr (À (pv 0) (À (pixT (K:=K) (pv 1) Á) (À (pv 2) Â)))) Â)) (ì (K:=K) (n:=2) (by rfl) (by rfl) (Ñ (Ì (i:=8) nd rfl (Or.inl rfl)) (Ñ (Ì (i:=9) nd rfl (Or.inl rfl)) ë))) (Å (Ű (Ž (K:=K) rfl PySem.F.plainAttrs_list PySem.F.slot_list_append PySem.F.type_list_append í (pv 5) (À (Æ Ρ (Æ Ρ (ò ["number"] [] [] rfl (by rfl) (ç (K:=K) rfl (pv 9)) (fun _ _ _ _=>(Ì (i:=0) (show List.Nodup (["number"]:List Str) from by decide) rfl (Or.inl rfl))) (fun _ _ _ _=>ã) (fun _ _ _ _=>(pfn G_minus hr (À (Õ (À Á (À Á Â))) (À (pv 0) Â))))) (pfn G_unit hr (À (pv 4) (À (Æ è (pv 3) (pv 8)) Â)))) (é (À (Õ (À Á (À Á Â))) Â))) Â)))))
   (Ä (Ű (Ž (K:=K) rfl PySem.F.plainAttrs_list PySem.F.slot_list_append PySem.F.type_list_append í (pv 5) (À (Æ Ρ (Æ Ρ (Æ zW7 (é (À (Õ (À Á (À Á Â))) Â)) (pv 3)) (pfn G_unit hr (À (pv 4) (À (Æ ô (pv 4) Á) Â)))) (é (À (pixT (K:=K) (pv 1) Á) Â))) Â)))
   (Å (É (pv 5))))))))),?_⟩
  refine cutS fun nX eX=>?_;have lO:os.length=zs.length:=hPo.length;have lL:ls.length=cs.length:=hPl.length;refine(ex1 rfl ⟨_,_,rfl,.inl ⟨_,SqL.of hO,rfl⟩,?_⟩);refine stpS eX fun nX eX=>?_;refine(ex1 rfl (ex1 rfl (gT hW rfl ⟨_,_,rfl,.inl ⟨_,SqL.of hL,rfl⟩,gJ (hJ ?_)⟩)));refine stpS eX fun nX eX=>?_;refine⟨szn,fun p hp=>?_⟩;have tp:=Same.upd (o:=.lst []) hp;show Ends.nx _ [some (.ref ao),some (.ref aw),some (.int now),some (.int (os.length:Nat)),some (.int ((os.length:Nat)+(ls.length:Nat)+1)),some (.ref p),none,none,none,none] _;have rv0:RowsV (upd H p (.lst [])) p (2*zs.length+cs.length+2) (frM now cs zs wd) 0:=RowsV.new;rw[show (((os.length:Nat):Int)+((ls.length:Nat):Int)+1)=((zs.length+cs.length+1:Nat):Int) by lia,lO];generalize upd H p (.lst [])=H1 at *;refine stpS eX fun nX eX=>?_;refine(ex1 rfl ⟨ao,ex1 rfl ⟨SqL.of (tp _ _ hO),?_⟩⟩);refine zD6 (xs:=os) (fun i σ H2=>∃(v6 v7:Option V),σ=[some (.ref ao),some (.ref aw),some (.int now),some (.int (zs.length:Nat)),some (.int ((zs.length+cs.length+1:Nat):Int)),some (.ref p),v6,v7,none,none] /\ Same H H2 /\ RowsV H2 p (2*zs.length+cs.length+2) (frM now cs zs wd) i) ⟨none,none,rfl,tp,rv0⟩ ?_ ?_ ?_
  ·rintro i σ H2 hi ⟨v6,v7,rfl,s2,rv⟩;exact SqL.of (s2 _ _ hO)
  ·rintro i x T' σ H2 hx ⟨v6,v7,rfl,s2,rv⟩ hT;obtain⟨z,hz,oz⟩:=Ê hPo hx;have hi:i<zs.length:=(Ą.mp hz).1;have tT:=Same.upd (o:=.tup [.int (i:Nat),x]) hT;refine⟨T',ex1 rfl ⟨SqT.of Ã,rfl,_,_,rfl,_,_,rfl,rfl,?_⟩⟩;have s3:=s2.trans tT;have rv3:=rv.same tT;generalize upd H2 T' (.tup [.int (i:Nat),x])=H3 at *;obtain⟨xs,hxs,lxs⟩:=rv3.here;refine(ex1 rfl ⟨.inl ⟨rfl,_,SqL.of hxs⟩,ex1 rfl (ex1 rfl (È ?_))⟩);refine spUnit.mk (Ez:=E0) hi (by lia) (fun pa H4 hpa s4 hA=>?_);refine(ex1 rfl (ex1 rfl (È ?_)));refine spUnit.mk (Ez:=E0) (by lia) (by lia) (fun pu H5 hpu s5 hU=>?_);obtain⟨us,hus,pU⟩:=hA.same s5;obtain⟨ws,hws,pW⟩:=id hU;have lus:us.length=zs.length:=pU.length.trans (Ý _ _);have lws:ws.length=zs.length+cs.length+1:=pW.length.trans (Ý _ _);refine⟨pa,pu,us,ws,rfl,rfl,hus,hws,sz (by lia),fun p6 hp6=>?_⟩;have t6:=Same.upd (o:=.lst (us++ws)) hp6;have l6:=LsF.new hp6 (zC5 pU pW);have s36:=s4.trans (s5.trans t6);generalize upd H5 p6 (.lst (us++ws))=H6 at *;obtain⟨a,w1,pr,rfl,ha,wn,_⟩:=oz.same (s3.trans s36);subst eX;refine(ex1 rfl ⟨a,_,_,_,rfl,rfl,SqT.of ha,rfl,È ?_⟩);refine spTotal.mk (Ez:=E0) wn (okW z (đ hz)) (fun u7 H7 s7 f7=>?_);refine⟨szn,fun p8 hp8=>?_⟩;have t8:=Same.upd (o:=.lst [u7]) hp8;obtain⟨us6,hu6,pu6⟩:=(l6.same s7).same t8;have f8:=f7.same t8;have lu6:us6.length=zs.length+(zs.length+cs.length+1):=by rw[pu6.length,Ĕ,Ý,Ý]
   refine⟨p6,p8,us6,[u7],rfl,rfl,hu6,Ã,sz (by simp;lia),fun p9 hp9=>?_⟩;have t9:=Same.upd (o:=.lst (us6++[u7])) hp9;have hx8:=(s36.trans (s7.trans t8)) _ _ hxs;have np9:p9≠p:=fun e=>by rw[e,hx8]at hp9;cases hp9
   have l9:=LsF.new hp9 (Paired.snoc pu6 f8);have s39:=s36.trans (s7.trans (t8.trans t9));have rv9:=rv3.same s39;have hx9:=s39 _ _ hxs;generalize upd (upd H7 p8 (.lst [u7])) p9 (.lst (us6++[u7]))=H9 at *;refine⟨p,_,_,rfl,rfl,hx9,sz (by lia),?_⟩;refine⟨_,_,rfl,(s3.trans s39).updD hp,rv9.snoc hx9 np9 ?_⟩;have e:=yK1 (a:=zs.length) (b:=zs.length+cs.length+1) (f:=fun j=>if j=i then 1 else 0) (g:=fun j=>if j=i then 1 else 0) (x:=totQ z.1) (N:=2*zs.length+cs.length+2) (M:=frM now cs zs wd i) (by lia) (fun j hj=>by unfold frM rwM rwA;rw[if_pos hj,if_pos hi]) (fun j hj=>(yR8 hj).symm) (by
    unfold frM;rw[xA6];unfold rwB;rw[if_pos hi];unfold ttQ;rw[hz])
   rw[<- e];exact l9
  rintro σ H2 ⟨v6,v7,rfl,s2,rv⟩;rw[lO]at rv;refine stpS eX fun nX eX=>?_;refine(ex1 rfl (ex1 rfl ⟨aw,_,_,_,rfl,rfl,SqT.of (s2 _ _ hW),rfl,ex1 rfl (È ?_)⟩));refine spWin.mk (Ez:=E0) (SqL.of (s2 _ _ hO)) (zJ9 (Paired.mapP hPo fun _ _ f=>(f.same s2).of)) (fun W hW=>?_) (by rw[ą];exact w8) (SqL.of (s2 _ _ hL)) (Paired.mapP hPl fun _ _ f=>⟨RepC.same s2 f.1,f.2⟩) c8 (fun pw H3 rs hpw s3 h3 hR=>?_)
  ·obtain⟨z,hz,rfl⟩:=ŀ.mp hW;exact okW z hz
  have rv3:=rv.same s3;have s23:=s2.trans s3;have lR:rs.length=cs.length:=hR.length;have npw:pw≠p:=fun e=>by
   obtain⟨xs,g,_⟩:=rv.here;rw[<- e,hpw]at g;cases g
  refine⟨pw,ex1 rfl ⟨SqL.of h3,?_⟩⟩;refine zD6 (xs:=rs) (fun i σ H4=>∃(v8 v9:Option V),σ=[some (.ref ao),some (.ref aw),some (.int now),some (.int (zs.length:Nat)),some (.int ((zs.length+cs.length+1:Nat):Int)),some (.ref p),v6,v7,v8,v9] /\ Same H H4 /\ KpP H3 H4 p /\ RowsV H4 p (2*zs.length+cs.length+2) (frM now cs zs wd) (zs.length+i)) ⟨none,none,rfl,s23,(fun b ob e _=>e),rv3⟩ ?_ ?_ ?_
  ·rintro i σ H4 hi ⟨v8,v9,rfl,s4,kp,rv4⟩;exact SqL.of (kp _ _ h3 npw)
  ·rintro i x T' σ H4 hx ⟨v8,v9,rfl,s4,kp,rv4⟩ hT;obtain⟨c,hc,⟨aR,ys,rfl,haR,pY⟩,aR',eR,fR⟩:=Ê hR hx;cases eR;have nR':aR≠p:=fun e=>by
    obtain⟨xs,g,_⟩:=rv.here;rw[<- e,fR]at g;cases g
   have hi:i<cs.length:=(Ą.mp hc).1;rw[yZ0 hc]at pY;have bc:Bd 200 c.rat:=by
    obtain⟨_,_,g⟩:=zI3 hPl hc;exact g.2
   have lY:ys.length=zs.length:=pY.length.trans (Ý _ _);have bY:∀j,j<zs.length->Bd 8000 (wtQ now cs zs i j):=fun j hj=>by
    unfold wtQ;rw[hc,ā hj];exact(yW6 (okW _ (ĥ hj)) bc).mono (by decide)
   have tT:=Same.upd (o:=.tup [.int (i:Nat),.ref aR]) hT;subst eX;refine⟨T',ex1 rfl ⟨SqT.of Ã,rfl,_,_,rfl,_,_,rfl,rfl,?_⟩⟩;have s5:=s4.trans tT;have rv5:=rv4.same tT;have kp5:=kp.same tT;have haR5:=kp5 _ _ haR nR';generalize upd H4 T' (.tup [.int (i:Nat),.ref aR])=H5 at *;obtain⟨xs,hxs,lxs⟩:=rv5.here;have kt5:∀b l,H3 b=some (.tup l)->H5 b=some (.tup l):=fun b l e=>kp5 _ _ e (fun z=>by
    obtain⟨xs,g,_⟩:=rv3.here;rw[z,g]at e;cases e)
   refine(ex1 rfl ⟨.inl ⟨rfl,_,SqL.of hxs⟩,ex1 rfl ⟨aR,rfl,⟨_,SqL.of haR5⟩,fun Dd hD=>?_⟩⟩);refine æ (xs:=ys) (fun j σ' H'=>∃(v:Option V) (qs:List V),σ'=[v] /\ Same H5 H' /\ H' Dd=some (.lst qs) /\ Paired (FrV H') qs (nR j fun j=>0 - wtQ now cs zs i j)) ⟨none,[],rfl,Same.upd hD,Ã,.nil⟩ ?_ ?_ ?_
   ·rintro j σ' H' hj ⟨v,qs,rfl,s6,hd,hF⟩;exact SqL.of (s6 _ _ haR5)
   ·rintro j y σ' H' hy ⟨v,qs,rfl,s6,hd,hF⟩;obtain⟨r1,hr1,fy⟩:=Ê pY hy;obtain⟨hj,rfl⟩:=Ÿ hr1;have lQ:qs.length=j:=hF.length.trans (Ý j _);refine⟨szn,fun p0 hp0=>?_⟩;have t0:=Same.upd (o:=.tup [.int 0,.int 1]) hp0;refine(ex1 rfl ⟨_,_,0,wtQ now cs zs i j,rfl,FrV.newOf rfl rfl,((fy.tup kt5).same s6).same t0,⟨by decide,by decide⟩,bY j hj,fun u7 H7 s7 f7=>?_⟩);have s07:=t0.trans s7;have hd7:=s07 _ _ hd;refine⟨_,hd7,sz (by lia),_,qs++[u7],rfl,(s6.trans s07).updD hD,Ã,?_⟩;rw[Ŵ];have tu:=ð (o:=.lst (qs++[u7])) hd7 (fun _ z=>nomatch z);exact Paired.snoc (Paired.mapP hF fun _ _ f=>(f.same s07).tup tu) (f7.tup tu)
   rintro σ' H6 ⟨v,qs,rfl,s6,hd,hF⟩;rw[lY]at hF;refine(ex1 rfl (ex1 rfl (ex1 rfl ⟨_,_,rfl,rfl,È ?_⟩)));refine spUnit.mk (Ez:=E0) (by lia) (by lia) (fun pu H7 hpu s7 hU=>?_);obtain⟨ws,hws,pW⟩:=id hU;have lqs:qs.length=zs.length:=hF.length.trans (Ý _ _);have lws:ws.length=zs.length+cs.length+1:=pW.length.trans (Ý _ _);refine⟨Dd,pu,qs,ws,rfl,rfl,s7 _ _ hd,hws,sz (by lia),fun p8 hp8=>?_⟩;have t8:=Same.upd (o:=.lst (qs++ws)) hp8;have l8:=LsF.new hp8 (zC5 (Paired.mapP hF fun _ _ f=>f.same s7) pW);have s58:=s6.trans (s7.trans t8);generalize upd H7 p8 (.lst (qs++ws))=H8 at *;refine⟨szn,fun p9 hp9=>⟨szn,fun p10 hp10=>?_⟩⟩;have t9:=Same.upd (o:=.tup [.int 0,.int 1]) hp9;have f9:FrV (upd H8 p9 (.tup [.int 0,.int 1])) (.ref p9) 0:=FrV.newOf rfl rfl;have t10:=Same.upd (o:=.lst [V.ref p9]) hp10;obtain⟨us8,hu8,pu8⟩:=(l8.same t9).same t10;have f10:=f9.same t10;have lu8:us8.length=zs.length+(zs.length+cs.length+1):=by rw[pu8.length,Ĕ,Ý,Ý]
   refine⟨p8,p10,us8,[.ref p9],rfl,rfl,hu8,Ã,sz (by simp;lia),fun p11 hp11=>?_⟩;have t11:=Same.upd (o:=.lst (us8++[V.ref p9])) hp11;have hx10:=(s58.trans (t9.trans t10)) _ _ hxs;have np:p11≠p:=fun e=>by rw[e,hx10]at hp11;cases hp11
   have l11:=LsF.new hp11 (Paired.snoc pu8 f10);have s511:=s58.trans (t9.trans (t10.trans t11));have rv11:=rv5.same s511;have hx11:=s511 _ _ hxs;generalize upd (upd (upd H8 p9 (.tup [.int 0,.int 1])) p10 (.lst [V.ref p9])) p11 (.lst (us8++[V.ref p9]))=H11 at *;refine⟨p,_,_,rfl,rfl,hx11,sz (by lia),?_⟩;refine⟨_,_,rfl,(s5.trans s511).updD hp,(kp5.same s511).upd,rv11.snoc hx11 np ?_⟩;have e:=yK1 (a:=zs.length) (b:=zs.length+cs.length+1) (f:=fun j=>0 - wtQ now cs zs i j) (g:=fun j=>if j=zs.length+i then 1 else 0) (x:=0) (N:=2*zs.length+cs.length+2) (M:=frM now cs zs wd (zs.length+i)) (by lia) (fun j hj=>by unfold frM rwM rwA;rw[if_pos hj,if_neg (by lia),if_pos (by lia),show zs.length+i - zs.length=i by lia]) (fun j hj=>(yR8 hj).symm) (by
    unfold frM;rw[xA6];unfold rwB;rw[if_neg (by lia),if_pos (by lia)])
   rw[<- e];exact l11
  rintro σ H4 ⟨v8,v9,rfl,s4,_,rv4⟩;rw[lR]at rv4;obtain⟨xs,hxs,lxs⟩:=rv4.here;refine stpS eX fun nX eX=>?_;refine(ex1 rfl ⟨.inl ⟨rfl,_,SqL.of hxs⟩,⟨szn,fun p0 hp0=>⟨szn,fun p1 hp1=>?_⟩⟩⟩);refine(ex1 rfl ⟨p1,_,_,rfl,rfl,Ã,by lia,by lia,sz (by simp;lia),fun p2 hp2=>?_⟩);rw[ŋ,ń];have t0:=Same.upd (o:=.tup [.int 1,.int 1]) hp0;have t1:=Same.upd (o:=.lst [V.ref p0]) hp1;have f0:FrV (upd H4 p0 (.tup [.int 1,.int 1])) (.ref p0) 1:=FrV.newOf rfl rfl;have f1:=f0.same t1;have s41:=t0.trans t1;generalize upd (upd H4 p0 (.tup [.int 1,.int 1])) p1 (.lst [V.ref p0])=H5 at *;have t2:=Same.upd (o:=.lst (ď zs.length (V.ref p0))) hp2;have l2:=LsF.new hp2 (zC4 f1 zs.length);have s42:=s41.trans t2;generalize upd H5 p2 (.lst (ď zs.length (V.ref p0)))=H6 at *;refine(ex1 rfl (ex1 rfl ⟨_,_,rfl,rfl,zs.length+cs.length+1,zs.length+cs.length,?_,by lia,by lia,fun pu H7 hpu s7 hU=>?_⟩))
  ·show [V.int _,V.int (((zs.length+cs.length+1:Nat):Int) - 1)]=_;rw[show (((zs.length+cs.length+1:Nat):Int) - 1)=((zs.length+cs.length:Nat):Int) by lia]
  obtain⟨us,hus,pU⟩:=l2.same s7;obtain⟨ws,hws,pW⟩:=id hU;have lus:us.length=zs.length:=pU.length.trans (Ý _ _);have lws:ws.length=zs.length+cs.length+1:=pW.length.trans (Ý _ _);refine⟨p2,pu,us,ws,rfl,rfl,hus,hws,sz (by lia),fun p8 hp8=>?_⟩;have t8:=Same.upd (o:=.lst (us++ws)) hp8;have l8:=LsF.new hp8 (zC5 pU pW);have s48:=s42.trans (s7.trans t8);generalize upd H7 p8 (.lst (us++ws))=H8 at *;have s8:=s4.trans s48;refine(ex1 rfl (gT (s8 _ _ hW) rfl ⟨szn,fun p9 hp9=>?_⟩));have t9:=Same.upd (o:=.lst [wv]) hp9;obtain⟨us8,hu8,pu8⟩:=l8.same t9;have f9:=(fw.same s8).same t9;have lu8:us8.length=zs.length+(zs.length+cs.length+1):=by rw[pu8.length,Ĕ,Ý,Ý]
  refine⟨p8,p9,us8,[wv],rfl,rfl,hu8,Ã,sz (by simp;lia),fun p10 hp10=>?_⟩;have t10:=Same.upd (o:=.lst (us8++[wv])) hp10;have hx9:=(s48.trans t9) _ _ hxs;have np:p10≠p:=fun e=>by rw[e,hx9]at hp10;cases hp10
  have l10:=LsF.new hp10 (Paired.snoc pu8 f9);have s410:=s48.trans (t9.trans t10);have rv10:=rv4.same s410;have hx10:=s410 _ _ hxs;generalize upd (upd H8 p9 (.lst [wv])) p10 (.lst (us8++[wv]))=H10 at *;refine⟨p,_,_,rfl,rfl,hx10,sz (by lia),?_⟩;subst eX;refine(ex1 rfl (fin p _ hp ((s4.trans s410).updD hp) (rv10.snoc hx10 np ?_).mat));have e:=yK1 (a:=zs.length) (b:=zs.length+cs.length+1) (f:=fun j=>1) (g:=fun j=>if j=zs.length+cs.length then 1 else 0) (x:=wd) (N:=2*zs.length+cs.length+2) (M:=frM now cs zs wd (zs.length+cs.length)) (by lia) (fun j hj=>by unfold frM rwM rwA;rw[if_pos hj,if_neg (by lia),if_neg (by lia)]) (fun j hj=>(yR8 hj).symm) (by
   unfold frM;rw[xA6];unfold rwB;rw[if_neg (by lia),if_neg (by lia)])
  rw[<- e];exact l10
noncomputable abbrev zE4:Stmt:=top 41
theorem sc_lack_costs:Ï ["row"] ["row"] (Ç zE4):=scF
theorem zS6 {ca:Ca}(D:DefAt K mg "lack_costs" zE4)(T:Txt K mg ca)(G_minus:FnAt P w K mg base CX0 3 "minus" ["one","other"] (Δ)):FnAt P w K mg base CX0 4 "lack_costs" ["row"] (spLack):=by
 refine D.ok sc_lack_costs (fun vs H Q E h=>?_) (fun _ _ _ _ _ _ us hl=>match us,hl with | [_],_=>rfl) (fun f cdv A outer s H vs Q E hr h=>?_)
 all_goals obtain⟨a,n,f,rfl,hA,n30,bd,fin⟩:=h
 ·rfl
 ·have nd:=sc_lack_costs.nd;refine⟨_,(Å (É (Æ Ρ (ò ["number"] [] [] rfl (by rfl) (ç (K:=K) rfl (zD5 (zC7 (K:=K) rfl) (pv 0) yA7 (Ξ (Æ ô (Ë (Ö (K:=K) rfl) (by rfl) T.z_len PySem.boot_len (À (pv 0) Â)) Á)))) (fun _ _ _ _=>(Ì (i:=0) (show List.Nodup (["number"]:List Str) from by decide) rfl (Or.inl rfl))) (fun _ _ _ _=>ã) (fun _ _ _ _=>(pfn G_minus hr (À (Õ (À Á (À Á Â))) (À (pv 0) Â))))) (é (À (Õ (À Á (À Á Â))) (À (pfn G_minus hr (À (Õ (À Á (À Á Â))) (À (pixL (K:=K) (pv 0) (Æ ô (Ë (Ö (K:=K) rfl) (by rfl) T.z_len PySem.boot_len (À (pv 0) Â)) Á)) Â))) Â)))))),?_⟩;obtain⟨us,ha,pU⟩:=hA;have lU:us.length=n+2:=pU.length.trans (Ý _ _);have e2:(((us.length:Nat):Int) - 2)=((n:Nat):Int):=by lia
  have e1:(((us.length:Nat):Int) - 1)=((n+1:Nat):Int):=by lia
  refine(ex1 rfl (ex1 rfl ⟨_,_,rfl,.inl ⟨_,SqL.of ha,rfl⟩,_,_,rfl,rfl,ex1 rfl ⟨a,us,rfl,SqL.of ha,fun p1 hp1=>?_⟩⟩));rw[e2,zY2 us (by lia)];have t1:=Same.upd (o:=.lst (us.take n)) hp1;have h1:upd H p1 (.lst (us.take n)) p1=some (.lst (us.take n)):=Ã;have pT:Paired (FrV (upd H p1 (.lst (us.take n)))) (us.take n) (nR n f):=by
   have:=zK0 (a:=0) (k:=n) pU (by lia);rw[List.drop_zero]at this;have e:nR n (fun j=>f (0+j))=nR n f:=Κ fun j _=>by rw[Nat.zero_add]
   rw[e]at this;exact Paired.mapP this fun _ _ f=>f.same t1
  generalize upd H p1 (.lst (us.take n))=H1 at *;refine⟨p1,rfl,⟨_,SqL.of h1⟩,fun Dd hD=>?_⟩;refine æ (xs:=us.take n) (fun j σ' H'=>∃(v:Option V) (qs:List V),σ'=[v] /\ Same H1 H' /\ H' Dd=some (.lst qs) /\ Paired (FrV H') qs (nR j fun j=>0 - f j)) ⟨none,[],rfl,Same.upd hD,Ã,.nil⟩ ?_ ?_ ?_
  ·rintro j σ' H' hj ⟨v,qs,rfl,s6,hd,hF⟩;exact SqL.of (s6 _ _ h1)
  ·rintro j y σ' H' hy ⟨v,qs,rfl,s6,hd,hF⟩;obtain⟨r1,hr1,fy⟩:=Ê pT hy;obtain⟨hj,rfl⟩:=Ÿ hr1;have lQ:qs.length=j:=hF.length.trans (Ý j _);refine⟨szn,fun p0 hp0=>?_⟩;have t0:=Same.upd (o:=.tup [.int 0,.int 1]) hp0;refine(ex1 rfl ⟨_,_,0,f j,rfl,FrV.newOf rfl rfl,(fy.same s6).same t0,⟨by decide,by decide⟩,bd j (by lia),fun u7 H7 s7 f7=>?_⟩);have s07:=t0.trans s7;have hd7:=s07 _ _ hd;refine⟨_,hd7,sz (by lia),_,qs++[u7],rfl,(s6.trans s07).updD hD,Ã,?_⟩;rw[Ŵ];have tu:=ð (o:=.lst (qs++[u7])) hd7 (fun _ z=>nomatch z);exact Paired.snoc (Paired.mapP hF fun _ _ f=>(f.same s07).tup tu) (f7.tup tu)
  rintro σ' H6 ⟨v,qs,rfl,s6,hd,hF⟩;have lT:(us.take n).length=n:=by rw[Ĥ];lia
  rw[lT]at hF;have lQ:qs.length=n:=hF.length.trans (Ý n _);have s06:=t1.trans s6;obtain⟨vn,hvn,fn⟩:∃v,us[n+1]?=some v /\ FrV H v (f (n+1)):=by
   obtain⟨v,hv⟩:∃v,us[n+1]?=some v:=⟨_,ā (by lia)⟩;obtain⟨r,hr,fr⟩:=Ê pU hv;obtain⟨_,rfl⟩:=Ÿ hr;exact⟨v,hv,fr⟩
  refine⟨szn,fun p2 hp2=>⟨szn,fun p3 hp3=>?_⟩⟩;have t2:=Same.upd (o:=.tup [.int 0,.int 1]) hp2;have t3:=Same.upd (o:=.tup [.int 0,.int 1]) hp3;have f2:FrV (upd H6 p2 (.tup [.int 0,.int 1])) (.ref p2) 0:=FrV.newOf rfl rfl;have f3:FrV (upd (upd H6 p2 (.tup [.int 0,.int 1])) p3 (.tup [.int 0,.int 1])) (.ref p3) 0:=FrV.newOf rfl rfl;have s23:=t2.trans t3;have f23:=f2.same t3;generalize upd (upd H6 p2 (.tup [.int 0,.int 1])) p3 (.tup [.int 0,.int 1])=H7 at *;have s07:=s06.trans s23;have at1:atI us (((us.length:Nat):Int) - 1)=some vn:=by rw[e1];exact Ŭ hvn
  refine(ex1 rfl (ex1 rfl ⟨_,_,rfl,.inl ⟨_,SqL.of (s07 _ _ ha),rfl⟩,_,_,rfl,rfl,a,_,_,_,rfl,rfl,SqL.of (s07 _ _ ha),at1,?_⟩));refine⟨_,_,0,f (n+1),rfl,f3,fn.same s07,⟨by decide,by decide⟩,bd (n+1) (by lia),fun u8 H8 s8 f8=>⟨szn,fun p9 hp9=>?_⟩⟩;have t9:=Same.upd (o:=.lst [V.ref p2,u8]) hp9;have s69:=s23.trans (s8.trans t9);refine⟨Dd,p9,qs,[.ref p2,u8],rfl,rfl,s69 _ _ hd,Ã,sz (by simp;lia),fun p10 hp10=>?_⟩;have pE:Paired (FrV (upd H8 p9 (.lst [V.ref p2,u8]))) (qs++[.ref p2,u8]) (nR n (fun j=>0 - f j)++[0,0 - f (n+1)]) :=
   zC5 (Paired.mapP hF fun _ _ f=>f.same s69) (.cons ((f23.same s8).same t9) (.cons (f8.same t9) .nil))
  refine fin p10 _ ((s06.trans s69).free hp10) ((s06.trans s69).trans (Same.upd hp10)) ?_;have e:nR (n+2) (fun j=>if j=n then 0 else 0 - f j)=nR n (fun j=>0 - f j)++[0,0 - f (n+1)]:=by
   rw[Ŵ,Ŵ,List.append_assoc];have e3:nR n (fun j=>if j=n then 0 else 0 - f j)=nR n (fun j=>0 - f j):=Κ fun j hj=>if_neg (by lia);rw[e3,if_pos rfl,if_neg (by lia)];rfl
  rw[e];exact LsF.new hp10 pE
noncomputable abbrev zC9:Stmt:=top 42
theorem sc_price_costs:Ï ["offer","rows","basis","prices","costs","at","held"] ["offer","rows","basis"] (Ç zC9):=scF
theorem zP3 {ca:Ca}(D:DefAt K mg "price_costs" zC9)(T:Txt K mg ca)(G_less_times:FnAt P w K mg base CX0 4 "less_times" ["row","other","factor"] (spLess)):FnAt P w K mg base CX0 5 "price_costs" ["offer","rows","basis"] (spPc):=by
 refine D.ok sc_price_costs (fun vs H Q E h=>?_) (fun _ _ _ _ _ _ us hl=>match us,hl with | [_,_,_],_=>rfl) (fun f cdv A outer s H vs Q E hr h=>?_)
 all_goals obtain⟨ao,ar,ab,os,zs,mm,n,M,B,rfl,hO,hPo,hM,hb,m1,m30,zn,n30,bP,bM,bp,fin⟩:=h
 ·rfl
 ·have nd:=sc_price_costs.nd;refine⟨_,(Ä (zC3 ["wine","price"] [] [] (i:=3) nd rfl rfl rfl (by rfl) (ç (K:=K) rfl (pv 0)) (fun _ _ _ _=>(ì (K:=K) (n:=2) (by rfl) (by rfl) (Ñ (Ì (i:=0) (show List.Nodup (["wine","price"]:List Str) from by decide) rfl (Or.inl rfl) (hf:=Or.inr (by rfl))) (Ñ (Ì (i:=1) (show List.Nodup (["wine","price"]:List Str) from by decide) rfl (Or.inl rfl) (hf:=Or.inr (by rfl))) ë)))) (fun _ _ _ _=>ã) (fun _ _ _ _=>(pv 1)))
   (Ä (Í (i:=4) nd rfl (Or.inl rfl) (Æ Ρ (pv 3) (Æ zW7 (é (À (Õ (À Á (À Á Â))) Â)) (Æ ô (Ë (Ö (K:=K) rfl) (by rfl) T.z_len PySem.boot_len (À (pixL (K:=K) (pv 1) Á) Â)) (Ë (Ö (K:=K) rfl) (by rfl) T.z_len PySem.boot_len (À (pv 3) Â))))))
   (Ä (ů PassesOwn.never rfl (zH5 (K:=K) rfl (by rfl) T.z_enumerate (À (pv 2) Â)) (ì (K:=K) (n:=2) (by rfl) (by rfl) (Ñ (Ì (i:=5) nd rfl (Or.inl rfl)) (Ñ (Ì (i:=6) nd rfl (Or.inl rfl)) ë))) (Å (á (Ð υ (pv 6) (Ë (Ö (K:=K) rfl) (by rfl) T.z_len PySem.boot_len (À (pv 3) Â)) (Ò _)) (Å (Í (i:=4) nd rfl (Or.inl rfl) (pfn G_less_times hr (À (pv 4) (À (pixL (K:=K) (pv 1) (pv 5)) (À (pixL (K:=K) (pv 3) (pv 6)) Â)))))) Ó)))
   (Å (É (pv 4)))))),?_⟩
  refine cutS fun nX eX=>?_;have lO:os.length=zs.length:=hPo.length;have pz:∀j,zs.length<=j->prQ zs j=0:=fun j hj=>by unfold prQ;rw[Ġ hj]
  refine(ex1 rfl ⟨ao,rfl,⟨_,SqL.of hO⟩,fun Dd hD=>?_⟩);refine æ (xs:=os) (fun j σ' H'=>∃(v0 v1:Option V) (qs:List V),σ'=[v0,v1] /\ Same H H' /\ H' Dd=some (.lst qs) /\ Paired (FrV H') qs (nR j (prQ zs))) ⟨none,none,[],rfl,Same.upd hD,Ã,.nil⟩ ?_ ?_ ?_
  ·rintro j σ' H' hj ⟨v0,v1,qs,rfl,s1,hd,hF⟩;exact SqL.of (s1 _ _ hO)
  ·rintro j y σ' H' hy ⟨v0,v1,qs,rfl,s1,hd,hF⟩;obtain⟨z,hz,oz⟩:=Ê hPo hy;obtain⟨a,w1,pr,rfl,ha,_,fp⟩:=oz.same s1;have hj:j<zs.length:=(Ą.mp hz).1;have lQ:qs.length=j:=hF.length.trans (Ý j _);refine⟨a,ex1 rfl ⟨SqT.of ha,rfl,_,_,rfl,_,_,rfl,rfl,?_⟩⟩;refine(ex1 rfl ⟨_,hd,sz (by lia),_,_,qs++[pr],rfl,s1.updD hD,Ã,?_⟩);rw[Ŵ];have tu:=ð (o:=.lst (qs++[pr])) hd (fun _ z=>nomatch z);have e:prQ zs j=z.2:=by unfold prQ;rw[hz]
   rw[e];exact Paired.snoc (Paired.mapP hF fun _ _ f=>f.tup tu) (fp.tup tu)
  rintro σ' H1 ⟨v0,v1,qs,rfl,s1,hd,hF⟩;rw[lO]at hF;have lQ:qs.length=zs.length:=hF.length.trans (Ý _ _);obtain⟨bs,hr,lb,hB⟩:=hM;obtain⟨b0,hb0⟩:∃b,bs[0]?=some b:=⟨_,ā (by lia)⟩;obtain⟨us,hus,pU⟩:=hB 0 b0 hb0;have lU:us.length=n+1:=pU.length.trans (Ý _ _);refine stpS eX fun nX eX=>?_;refine(ex1 rfl ⟨szn,fun p0 hp0=>⟨szn,fun p1 hp1=>?_⟩⟩);have t0:=Same.upd (o:=.tup [.int 0,.int 1]) hp0;have t1:=Same.upd (o:=.lst [V.ref p0]) hp1;have f0:FrV (upd H1 p0 (.tup [.int 0,.int 1])) (.ref p0) 0:=FrV.newOf rfl rfl;have f1:=f0.same t1;have h1:upd (upd H1 p0 (.tup [.int 0,.int 1])) p1 (.lst [V.ref p0]) p1=some (.lst [V.ref p0]):=Ã;have s2:=t0.trans t1;generalize upd (upd H1 p0 (.tup [.int 0,.int 1])) p1 (.lst [V.ref p0])=H2 at *;have s02:=s1.trans s2;have eR:((((us.length:Nat):Int) - ((qs.length:Nat):Int)))=((n+1 - zs.length:Nat):Int):=by lia
  refine(ex1 rfl (gL (s02 _ _ hr) (Ε (i:=0) hb0) ⟨_,_,rfl,.inl ⟨_,SqL.of (s02 _ _ hus),rfl⟩,ex1 rfl ⟨_,_,rfl,.inl ⟨_,SqL.of (s2 _ _ hd),rfl⟩,gJ ⟨p1,_,_,rfl,rfl,h1,by lia,by lia,?_,fun p2 hp2=>?_⟩⟩⟩))
  ·rw[eR];exact sz (by simp;lia)
  rw[ŋ,eR,ń];have t3:=Same.upd (o:=.lst (ď (n+1 - zs.length) (V.ref p0))) hp2;have l2:=LsF.new hp2 (zC4 f1 (n+1 - zs.length));have s13:=s2.trans t3;generalize upd H2 p2 (.lst (ď (n+1 - zs.length) (V.ref p0)))=H3 at *;obtain⟨ws,hws,pW⟩:=l2;have lW:ws.length=n+1 - zs.length:=pW.length.trans (Ý _ _);have hd3:=s13 _ _ hd;have hF3:Paired (FrV H3) qs (nR zs.length (prQ zs)):=Paired.mapP hF fun _ _ f=>f.same s13;refine⟨Dd,p2,qs,ws,rfl,rfl,hd3,hws,sz (by lia),fun p3 hp3=>?_⟩;have t4:=Same.upd (o:=.lst (qs++ws)) hp3;have l4:=LsF.new hp3 (zC5 hF3 pW);have e4:nR zs.length (prQ zs)++nR (n+1 - zs.length) (fun _=>0)=nR (n+1) (fun j=>ú (prQ zs) B M 0 j):=by
   rw[yX2,show zs.length+(n+1 - zs.length)=n+1 by lia];refine Κ fun j hj=>?_;unfold ú;rw[zH4]
   by_cases e:j<zs.length
   ·rw[if_pos e];grind
   ·rw[if_neg e,pz j (by lia)];grind
  rw[e4]at l4;have s04:=s1.trans (s13.trans t4);have hp30:H p3=none:=(s1.trans s13).free hp3;have hd4:=t4 _ _ hd3;have hF4:Paired (FrV (upd H3 p3 (.lst (qs++ws)))) qs (nR zs.length (prQ zs)):=Paired.mapP hF3 fun _ _ f=>f.same t4;generalize upd H3 p3 (.lst (qs++ws))=H4 at *;have hbl:(ñ mm B).length=mm:=zG2 mm B;refine stpS eX fun nX eX=>?_;refine(ex1 rfl ⟨ab,ex1 rfl ⟨SqL.of (s04 _ _ hb),?_⟩⟩);refine zD6 (xs:=ñ mm B) (fun i σ H5=>∃(pc:Addr) (v5 v6:Option V),σ=[some (.ref ao),some (.ref ar),some (.ref ab),some (.ref Dd),some (.ref pc),v5,v6] /\ Same H4 H5 /\ H pc=none /\ LsF H5 pc (nR (n+1) fun j=>ú (prQ zs) B M i j)) ⟨p3,none,none,rfl,Same.refl _,hp30,l4⟩ ?_ ?_ ?_
  ·rintro i σ H5 hi ⟨pc,v5,v6,rfl,s5,hpc,lc⟩;exact SqL.of ((s04.trans s5) _ _ hb)
  ·rintro i x T' σ H5 hx ⟨pc,v5,v6,rfl,s5,hpc,lc⟩ hT;have hi:i<mm:=by have:=(Ą.mp hx).1;rw[hbl]at this;exact this
   have ex':x=V.int (B i:Nat):=by
    unfold ñ at hx;rw[č,Ģ hi]at hx;exact(Option.some.inj hx).symm
   subst ex';have tT:=Same.upd (o:=.tup [.int (i:Nat),.int (B i:Nat)]) hT;refine⟨T',ex1 rfl ⟨SqT.of Ã,rfl,_,_,rfl,_,_,rfl,rfl,?_⟩⟩;have s6:=s5.trans tT;have lc6:=lc.same tT;generalize upd H5 T' (.tup [.int (i:Nat),.int (B i:Nat)])=H6 at *;refine(ex1 rfl (ex1 rfl ⟨_,_,rfl,.inl ⟨_,SqL.of (s6 _ _ hd4),rfl⟩,_,_,rfl,rfl,ex1 rfl ?_⟩));refine ite2 (fun h=>?_) (fun h=>?_)
   ·have h:((B i:Nat):Int)<((qs.length:Nat):Int):=of_decide_eq_true h;have hBi:B i<zs.length:=by lia
    obtain⟨bi,hbi⟩:∃b,bs[i]?=some b:=⟨_,ā (by lia)⟩;have s06:=s04.trans s6;obtain⟨vq,hvq⟩:∃v,qs[B i]?=some v:=⟨_,ā (by lia)⟩;obtain⟨rq,hrq,fq'⟩:=Ê hF4 hvq;obtain⟨_,rfl⟩:=Ÿ hrq;refine(ex1 rfl (ex1 rfl (ex1 rfl (gL (s06 _ _ hr) (Ε hbi) (ex1 rfl (ex1 rfl (gL (s6 _ _ hd4) (Ŭ hvq) ?_)))))));refine(È ?_);refine spLess.mk (Ez:=E0) lc6 ((hB i bi hbi).same s06) (fq'.same s6) n30 (bp _) (fun j hj=>⟨bP i (by lia) j hj,bM i hi j hj⟩) (fun p7 H7 hp7 s7 l7=>?_);refine⟨p7,_,_,rfl,s6.trans s7,s06.free hp7,?_⟩;have e:nR (n+1) (fun j=>ú (prQ zs) B M (i+1) j)=nR (n+1) (fun j=>ú (prQ zs) B M i j - M i j*prQ zs (B i)):=Κ fun j _=>by unfold ú;rw[ü];grind
    rw[e];exact l7
   ·have h:¬((B i:Nat):Int)<((qs.length:Nat):Int):=fun z=>h (decide_eq_true z);refine⟨pc,_,_,rfl,s6,hpc,?_⟩;have e:nR (n+1) (fun j=>ú (prQ zs) B M (i+1) j)=nR (n+1) (fun j=>ú (prQ zs) B M i j):=Κ fun j _=>by
     unfold ú;rw[ü,pz (B i) (by lia),Ğ];grind
    rw[e];exact lc6
  rintro σ H5 ⟨pc,v5,v6,rfl,s5,hpc,lc⟩;rw[hbl]at lc;subst eX;exact(ex1 rfl (fin pc H5 hpc (s04.trans s5) lc))
noncomputable abbrev zB6:Stmt:=top 43
theorem sc_without_lack:Ï ["rows","basis","lack","held","at","column"] ["rows","basis","lack"] (Ç zB6):=scF
theorem zN5 {ca:Ca}(D:DefAt K mg "without_lack" zB6)(T:Txt K mg ca)(G_pivoted:FnAt P w K mg base CX0 5 "pivoted" ["rows","at","column"] (spPiv)):FnAt P w K mg base CX0 6 "without_lack" ["rows","basis","lack"] (spWo):=by
 refine D.ok sc_without_lack (fun vs H Q E h=>?_) (fun _ _ _ _ _ _ us hl=>match us,hl with | [_,_,_],_=>rfl) (fun f cdv A outer s H vs Q E hr h=>?_)
 all_goals obtain⟨a,ab,mm,n,lack,M,B,rfl,hM,hb,ln,m30,n30,ex,bd,no,yes⟩:=h
 ·rfl
 ·have nd:=sc_without_lack.nd;refine⟨_,(Ä (Í (i:=3) nd rfl (Or.inl rfl) (ÿ (ó (K:=K) rfl) (by rfl) T.z_list Α (À (pv 1) Â)))
   (Ä (á (Ð (yH2 (K:=K) rfl) (pv 2) (pv 3) (by rfl)) (Ä (Í (i:=4) nd rfl (Or.inr rfl) (Ž (K:=K) rfl PySem.F.plainAttrs_list PySem.F.slot_list_index PySem.F.type_list_index yM3 (pv 3) (À (pv 2) Â)))
   (Ä (Í (i:=5) nd rfl (Or.inl rfl) (pixL (K:=K) (ò ["number"] ["rows","at"] [0,4] rfl (by rfl) (ź (by rfl) T.z_range (À (pv 2) Â)) (fun _ _ _ _=>(Ì (i:=0) (show List.Nodup (["number","rows","at"]:List Str) from by decide) rfl (Or.inl rfl))) (fun _ _ _ _=>(xB4 (Ð (yA8 (K:=K) rfl hr) (pixL (K:=K) (pixL (K:=K) (pv 1) (pv 2)) (pv 0)) (Õ (À Á (À Á Â))) (Ò _)))) (fun _ _ _ _=>(pv 0))) Á))
   (Ä (Í (i:=0) nd rfl (Or.inr rfl) (pfn G_pivoted hr (À (pv 0) (À (pv 4) (À (pv 5) Â)))))
   (Å (Ν (pv 5) (ξ (pv 3) (pv 4) Ι)))))) Ó)
   (Å (É (Õ (À (pv 0) (À (pv 3) Â))))))),?_⟩
  refine cutS fun nX eX=>?_;have hbl:(ñ (mm+1) B).length=mm+1:=zG2 _ B;have atB:∀i y,(ñ (mm+1) B)[i]?=some y->i<mm+1 /\ y=V.int (B i:Nat):=fun i y e=>by
   have hi:i<mm+1:=by have:=(Ą.mp e).1;rw[hbl]at this;exact this
   unfold ñ at e;rw[č,Ģ hi]at e;exact⟨hi,(Option.some.inj e).symm⟩
  have atB':∀i,i<mm+1->(ñ (mm+1) B)[i]?=some (V.int (B i:Nat)):=fun i hi=>by
   unfold ñ;rw[č,Ģ hi];rfl
  have fl:(ñ (mm+1) B).all ς=true:=by
   rw[List.all_eq_true];intro y hy;obtain⟨i,hi,e⟩:=List.getElem_of_mem hy;rw[(atB i y (by rw[ā hi,e])).2];rfl
  have eqv:∀i,eqV (V.int (B i:Nat)) (V.int (lack:Nat))=decide (B i=lack):=fun i=>by
   show (((B i:Nat):Int)==((lack:Nat):Int))=_
   by_cases e:B i=lack
   ·rw[e];simp
   ·have:(((B i:Nat):Int)==((lack:Nat):Int))=false:=by simp;lia
    rw[this];simp[e]
  refine(ex1 rfl ⟨ab,ex1 rfl ⟨.inl (SqL.of hb),fun pb hpb=>?_⟩⟩);have tp:=Same.upd (o:=.lst (ñ (mm+1) B)) hpb;have h1:upd H pb (.lst (ñ (mm+1) B)) pb=some (.lst (ñ (mm+1) B)):=Ã;generalize upd H pb (.lst (ñ (mm+1) B))=H1 at *;have hM1:=hM.same tp;refine stpS eX fun nX eX=>?_;refine(ex1 rfl (ex1 rfl ⟨pb,ex1 rfl ⟨.inl (SqL.of h1),rfl,fl,ex1 rfl ?_⟩⟩));refine ite2 (fun h=>?_) (fun h=>?_)
  ·have h:inV (V.int (lack:Nat)) (ñ (mm+1) B)=true:=h;obtain⟨l,hl,el,least⟩:∃l,l<mm+1 /\ B l=lack /\ ∀i,i<l->B i≠lack:=by
    unfold inV at h;rw[List.any_eq_true]at h;obtain⟨y,hy,ey⟩:=h;obtain⟨i,hi,e⟩:=List.getElem_of_mem hy;obtain⟨hi',rfl⟩:=atB i y (by rw[ā hi,e]);rw[eqv]at ey;have ey:=of_decide_eq_true ey;have key:∀d l,l<mm+1->B l=lack->l<=d->∃l,l<mm+1 /\ B l=lack /\ ∀i,i<l->B i≠lack:=by
     intro d
     induction d with
     | zero=>intro l h1 h2 h3;exact⟨l,h1,h2,fun i hi=>by lia⟩
     | succ d ih =>
      intro l h1 h2 h3
      by_cases q:∃i,i<l /\ B i=lack
      ·obtain⟨i,h4,h5⟩:=q;exact ih i (by lia) h5 (by lia)
      ·exact⟨l,h1,h2,fun i hi e=>q ⟨i,hi,e⟩⟩
    exact key i i hi' ey (Ć i)
   obtain⟨j0,hj0,ne0⟩:=ex l hl el;obtain⟨bs,ha,lb,hB⟩:=id hM1;obtain⟨bl,hbl'⟩:∃b,bs[l]?=some b:=⟨_,ā (by lia)⟩;refine(ex1 rfl ⟨.inl ⟨rfl,_,SqL.of h1⟩,ex1 rfl ⟨pb,_,_,l,rfl,rfl,h1,rfl,fl,⟨_,atB' l hl,by rw[eqv,el];simp⟩,fun m hm y hy=>by rw[(atB m y hy).2,eqv];simp[least m hm],?_⟩⟩);refine(ex1 rfl (ex1 rfl ⟨by lia,by lia,fun Dd hD=>?_⟩));refine zD9 (fun i σ' H'=>∃(v:Option V) (ys:List Nat),σ'=[v,some (.ref a),some (.int (l:Nat))] /\ Same H1 H' /\ H' Dd=some (.lst (ys.map fun y=>V.int (y:Nat))) /\ ys.length<=i /\ (∀y∈ys,y<lack /\ M l y≠0) /\ (j0<i->ys≠[])) ⟨none,[],rfl,Same.upd hD,Ã,Ć _,(fun _ z=>nomatch z),fun z=>absurd z (ņ _)⟩ ?_ ?_
   ·rintro i σ' H' hi ⟨v,ys,rfl,s2,hd,ly,hy,hn⟩;have hi:i<lack:=by
     have hi:i<((lack:Nat):Int).toNat:=hi;lia
    have e0:(0:Int)+(i:Int)=((i:Nat):Int):=by lia
    obtain⟨us,vi,hus,lus,hat,fi⟩:=((hB l bl hbl').same s2).at (j:=i) (by lia);have hat':atI us (0+(i:Int))=some vi:=by rw[e0];exact hat
    refine(ex1 rfl (ex1 rfl (gL (s2 _ _ ha) (Ε hbl') (ex1 rfl (gL hus hat' ⟨szn,fun p0 hp0=>?_⟩)))));have t0:=Same.upd (o:=.tup [.int 0,.int 1]) hp0;refine⟨_,_,(fi.same t0).rep,yE4 (SqT.of Ã),zB4 _ _,ex1 rfl ?_⟩;have hd0:=t0 _ _ hd;have s3:=s2.trans t0;rw[eq01];refine ite2 (fun h=>?_) (fun h=>?_)
    ·have h:(!decide (M l i=0))=true:=h;have ne:M l i≠0:=by simpa using h
     refine(ex1 rfl ⟨_,hd0,sz (by rw[ą];lia),_,ys++[i],rfl,s3.updD hD,?_,by rw[Ĕ];simp;lia,fun y hy'=>?_,fun _=>by simp⟩)
     ·rw[Ã,ė,e0];rfl
     ·rcases ř.mp hy' with z | z
      ·exact hy y z
      ·rw[ő.mp z];exact⟨hi,ne⟩
    ·have h:¬(!decide (M l i=0))=true:=h;have ze:M l i=0:=by simpa using h
     refine⟨_,ys,rfl,s3,hd0,by lia,hy,fun z=>?_⟩;rcases Ę (ĕ z) with q | q
     ·exact hn q
     ·rw[q]at ne0;exact absurd ze ne0
   rintro σ' H2 ⟨v,ys,rfl,s2,hd,ly,hy,hn⟩;have ne:=hn (by show j0<((lack:Nat):Int).toNat;lia);obtain⟨col,ys',rfl⟩:∃c t,ys=c::t:=by
    cases ys with
    | nil=>exact absurd rfl ne
    | cons c t=>exact⟨c,t,rfl⟩
   obtain⟨hc,nc⟩:=hy col Ĉ;refine⟨Dd,_,_,.int (col:Nat),rfl,rfl,SqL.of hd,Ŭ (j:=0) rfl,?_⟩;refine(ex1 rfl (ex1 rfl (ex1 rfl (È ?_))));refine spPiv.mk (Ez:=E0) (hM1.same s2) (by lia) (by lia) m30 n30 nc (fun i hi j hj=>?_) (fun p3 H3 hp3 s3 hM3=>?_)
   ·have b1:=bd i hi j hj;have b2:=bd l hl j hj;have b3:=bd l hl col (by lia);exact⟨b1.mono (by decide),(zZ1 b2 b3).mono (by decide),((zZ1 b2 b3).mul (bd i hi col (by lia))).mono (by decide)⟩
   have h3:=(s2.trans s3) _ _ h1;refine(ex1 rfl (ex1 rfl (ex1 rfl ⟨pb,_,_,l,rfl,rfl,h3,Ψ (by rw[hbl];exact hl),?_⟩)));have hM4:MatAt (upd H3 pb (.lst ((ñ (mm+1) B).set l (.int (col:Nat))))) p3 (mm+1) (n+1) (pivM M l col):=by
    obtain⟨cs,g1,g2,g3⟩:=hM3;have np:p3≠pb:=fun e=>by rw[e,s2 _ _ h1]at hp3;cases hp3
    refine⟨cs,by rw[upd_ne np];exact g1,g2,fun i b e=>?_⟩;have lf:=g3 i b e;refine lf.keep (ð h3 fun _ z=>nomatch z) fun vs hv=>?_;have nb:b≠pb:=fun z=>by
     obtain⟨us,q1,q2⟩:=lf;have lu:us.length=n+1:=q2.length.trans (Ý _ _);rw[z,h3]at q1;have q1:=HO.lst.inj (Option.some.inj q1);obtain⟨v,hv0⟩:∃v,us[0]?=some v:=⟨_,ā (by lia)⟩;obtain⟨r,_,c,rfl,_⟩:=Ê q2 hv0;rw[<- q1]at hv0;cases (atB 0 _ hv0).2
    rw[upd_ne nb];exact hv
   have s4:=(tp.trans (s2.trans s3)).updD (o:=.lst ((ñ (mm+1) B).set l (.int (col:Nat)))) hpb;have h4:upd H3 pb (.lst ((ñ (mm+1) B).set l (.int (col:Nat)))) pb=some (.lst (ñ (mm+1) fun i=>if i=l then col else B i)):=by rw[Ã,zX4]
   generalize upd H3 pb (.lst ((ñ (mm+1) B).set l (.int (col:Nat))))=H4 at *;subst eX;refine(ex1 rfl (ex1 rfl ⟨szn,fun t ht=>?_⟩));have tt:=Same.upd (o:=.tup [V.ref p3,V.ref pb]) ht;exact yes p3 pb t _ l col (s4.trans tt) hl el hc nc (hM4.same tt) (tt _ _ h4) Ã
  ·have h:¬inV (V.int (lack:Nat)) (ñ (mm+1) B)=true:=h;subst eX;refine(ex1 rfl (ex1 rfl ⟨szn,fun t ht=>?_⟩));have tt:=Same.upd (o:=.tup [V.ref a,V.ref pb]) ht;refine no a pb t _ (tp.trans tt) (hM1.same tt) (tt _ _ h1) Ã fun l hl e=>h ?_;unfold inV;rw[List.any_eq_true];exact⟨_,đ (atB' l hl),by rw[eqv,e];simp⟩
noncomputable abbrev zJ1:Stmt:=top 44
theorem sc_paper_of:Ï ["costs","wines","conditions","lack_cost","w","v"] ["costs","wines","conditions","lack_cost"] (Ç zJ1):=scF
theorem yB0 {ca:Ca}(D:DefAt K mg "paper_of" zJ1)(T:Txt K mg ca)(G_minus:FnAt P w K mg base CX0 3 "minus" ["one","other"] (Δ)):FnAt P w K mg base CX0 4 "paper_of" ["costs","wines","conditions","lack_cost"] (yJ2):=by
 refine D.ok sc_paper_of (fun vs H Q E h=>?_) (fun _ _ _ _ _ _ us hl=>match us,hl with | [_,_,_,_],_=>rfl) (fun f cdv A outer s H vs Q E hr h=>?_)
 all_goals obtain⟨a,w,k,n,f,lv,lc,rfl,hA,fl,wn,n30,bl,bf,fin⟩:=h
 ·rfl
 ·have nd:=sc_paper_of.nd;refine⟨_,(Ä (Í (i:=4) nd rfl (Or.inl rfl) (zD5 (zC7 (K:=K) rfl) (pv 0) (Ξ (pv 1)) (Ξ (Æ ß Á (pv 1)))))
   (Ä (Í (i:=5) nd rfl (Or.inl rfl) (zD5 (zC7 (K:=K) rfl) (pv 0) (Ξ (Æ ß Á (pv 1))) (Ξ (Æ è (Æ ß Á (pv 1)) (pv 2)))))
   (Å (É (Õ (À (pfn G_minus hr (À (pv 3) (À (pixL (K:=K) (pv 0) (Æ è (Æ ß Á (pv 1)) (pv 2))) Â))) (À (pv 5) (À (pv 4) Â)))))))),?_⟩
  refine cutS fun nX eX=>?_;obtain⟨us,ha,pU⟩:=hA;have lU:us.length=n:=pU.length.trans (Ý _ _);have m2:IntMulOk 2 ((w:Nat):Int):=Ü 64 (by decide) (ă (m:=100) (by lia) (by decide)) (by decide);have e2:(2*((w:Nat):Int))=((2*w:Nat):Int):=by lia
  have e3:(2*((w:Nat):Int)+((k:Nat):Int))=((2*w+k:Nat):Int):=by lia
  refine(ex1 rfl (ex1 rfl (ex1 rfl (ex1 rfl (gI m2 (ex1 rfl ⟨a,us,rfl,SqL.of ha,fun p1 hp1=>?_⟩))))));have t1:=Same.upd (o:=.lst (cutV us (some (w:Nat)) (some (2*((w:Nat):Int))))) hp1;have c1:cutV us (some ((w:Nat):Int)) (some (2*((w:Nat):Int)))=(us.drop w).take w:=by rw[e2,yF8 us (by lia) (by lia),show 2*w - w=w by lia]
  have h1:upd H p1 (.lst (cutV us (some (w:Nat)) (some (2*((w:Nat):Int))))) p1=some (.lst ((us.drop w).take w)):=by rw[Ã,c1]
  generalize upd H p1 (.lst (cutV us (some (w:Nat)) (some (2*((w:Nat):Int)))))=H1 at *;refine stpS eX fun nX eX=>?_;refine(ex1 rfl (ex1 rfl (gI m2 (ex1 rfl (ex1 rfl (gI m2 (ex1 rfl (gJ (ex1 rfl ⟨a,us,rfl,SqL.of (t1 _ _ ha),fun p2 hp2=>?_⟩)))))))));have t2:=Same.upd (o:=.lst (cutV us (some (2*((w:Nat):Int))) (some (2*((w:Nat):Int)+((k:Nat):Int))))) hp2;have c2:cutV us (some (2*((w:Nat):Int))) (some (2*((w:Nat):Int)+((k:Nat):Int)))=(us.drop (2*w)).take k:=by rw[e3,e2,yF8 us (by lia) (by lia),show 2*w+k - 2*w=k by lia]
  have h2:upd H1 p2 (.lst (cutV us (some (2*((w:Nat):Int))) (some (2*((w:Nat):Int)+((k:Nat):Int))))) p2=some (.lst ((us.drop (2*w)).take k)):=by rw[Ã,c2]
  have h12:=t2 _ _ h1;have s2:=t1.trans t2;generalize upd H1 p2 (.lst (cutV us (some (2*((w:Nat):Int))) (some (2*((w:Nat):Int)+((k:Nat):Int)))))=H2 at *;obtain⟨vn,hvn⟩:∃v,us[2*w+k]?=some v:=⟨_,ā (by lia)⟩;obtain⟨r,hr,fn⟩:=Ê pU hvn;obtain⟨_,rfl⟩:=Ÿ hr;have at1:atI us (2*((w:Nat):Int)+((k:Nat):Int))=some vn:=by rw[e3];exact Ŭ hvn
  subst eX;refine(ex1 rfl (ex1 rfl (ex1 rfl ⟨_,_,rfl,rfl,m2,ex1 rfl ⟨_,_,rfl,rfl,gL (s2 _ _ ha) at1 ?_⟩⟩)));refine⟨_,_,lc,f (2*w+k),rfl,fl.same s2,fn.same s2,bl,bf,fun u3 H3 s3 f3=>?_⟩;refine(ex1 rfl (ex1 rfl ⟨szn,fun t ht=>?_⟩));have t4:=Same.upd (o:=.tup [u3,.ref p2,.ref p1]) ht;have s04:=s2.trans (s3.trans t4);refine fin t u3 p2 p1 _ s04 Ã (f3.same t4) ⟨_,(s3.trans t4) _ _ h2,?_⟩ ⟨_,(s3.trans t4) _ _ h12,?_⟩
  ·exact Paired.mapP (zK0 pU (by lia)) fun _ _ f=>f.same s04
  ·exact Paired.mapP (zK0 pU (by lia)) fun _ _ f=>f.same s04
noncomputable abbrev zE7:Stmt:=top 45
theorem sc_amounts_of:Ï ["rows","basis","wines","amounts","at","held"] ["rows","basis","wines"] (Ç zE7):=scF
theorem zS9 {ca:Ca}(D:DefAt K mg "amounts_of" zE7)(T:Txt K mg ca):FnAt P w K mg base CX0 1 "amounts_of" ["rows","basis","wines"] (spAms):=by
 refine D.ok sc_amounts_of (fun vs H Q E h=>?_) (fun _ _ _ _ _ _ us hl=>match us,hl with | [_,_,_],_=>rfl) (fun f cdv A outer s H vs Q E hr h=>?_)
 all_goals obtain⟨a,ab,mm,n,r,w,M,B,rfl,hM,mr,hb,r30,n30,w30,fin⟩:=h
 ·rfl
 ·have nd:=sc_amounts_of.nd;refine⟨_,(Ä (Í (i:=3) nd rfl (Or.inl rfl) (Æ zW7 (é (À (Õ (À Á (À Á Â))) Â)) (pv 2)))
   (Ä (ů PassesOwn.never rfl (zH5 (K:=K) rfl (by rfl) T.z_enumerate (À (pv 1) Â)) (ì (K:=K) (n:=2) (by rfl) (by rfl) (Ñ (Ì (i:=4) nd rfl (Or.inl rfl)) (Ñ (Ì (i:=5) nd rfl (Or.inl rfl)) ë))) (Å (á (Ð υ (pv 5) (pv 2) (Ò _)) (Å (Ν (pixL (K:=K) (pixL (K:=K) (pv 0) (pv 4)) (Æ ô (Ë (Ö (K:=K) rfl) (by rfl) T.z_len PySem.boot_len (À (pixL (K:=K) (pv 0) (pv 4)) Â)) Á)) (ξ (pv 3) (pv 5) Ι))) Ó)))
   (Å (É (pv 3))))),?_⟩
  refine cutS fun nX eX=>?_;obtain⟨bs,ha,lb,hB⟩:=hM;have hbl:(ñ mm B).length=mm:=zG2 mm B;refine⟨szn,fun p0 hp0=>⟨szn,fun p1 hp1=>?_⟩⟩;refine(ex1 rfl ⟨p1,_,_,rfl,rfl,Ã,by lia,by lia,sz (by simp;lia),fun p hp=>?_⟩);rw[ŋ,ń];have t0:=Same.upd (o:=.tup [.int 0,.int 1]) hp0;have t1:=Same.upd (o:=.lst [V.ref p0]) hp1;have f0:FrV (upd H p0 (.tup [.int 0,.int 1])) (.ref p0) 0:=FrV.newOf rfl rfl;have f1:=f0.same t1;have s1:=t0.trans t1;generalize upd (upd H p0 (.tup [.int 0,.int 1])) p1 (.lst [V.ref p0])=H1 at *;have hpH:H p=none:=s1.free hp;have s2:=s1.trans (Same.upd (o:=.lst (ď w (V.ref p0))) hp);have l2:=LsF.new hp (zC4 f1 w);generalize upd H1 p (.lst (ď w (V.ref p0)))=H2 at *;refine stpS eX fun nX eX=>?_;refine(ex1 rfl ⟨ab,ex1 rfl ⟨SqL.of (s2 _ _ hb),?_⟩⟩);refine zD6 (xs:=ñ mm B) (fun i σ H3=>∃(x:Nat->Rat) (v4 v5:Option V),σ=[some (.ref a),some (.ref ab),some (.int (w:Nat)),some (.ref p),v4,v5] /\ Same H H3 /\ LsF H3 p (nR w x) /\ ∀j,j<w->(∃l,l<i /\ B l=j /\ x j=M l n /\ ∀i',i'<i->B i'=j->i'<=l) \/ (x j=0 /\ ∀l,l<i->B l≠j)) ⟨fun _=>0,none,none,rfl,s2,l2,fun j _=>.inr ⟨rfl,fun l hl=>absurd hl (ņ _)⟩⟩ ?_ ?_ ?_
  ·rintro i σ H3 hi ⟨x,v4,v5,rfl,s3,l3,hx⟩;exact SqL.of (s3 _ _ hb)
  ·rintro i xv T' σ H3 hxv ⟨x,v4,v5,rfl,s3,l3,hx⟩ hT;have hi:i<mm:=by have:=(Ą.mp hxv).1;rw[hbl]at this;exact this
   have ex':xv=V.int (B i:Nat):=by
    unfold ñ at hxv;rw[č,Ģ hi]at hxv;exact(Option.some.inj hxv).symm
   subst ex';have tT:=Same.upd (o:=.tup [.int (i:Nat),.int (B i:Nat)]) hT;refine⟨T',ex1 rfl ⟨SqT.of Ã,rfl,_,_,rfl,_,_,rfl,rfl,?_⟩⟩;have s4:=s3.trans tT;have l4:=l3.same tT;generalize upd H3 T' (.tup [.int (i:Nat),.int (B i:Nat)])=H4 at *;refine(ex1 rfl (ex1 rfl ⟨_,_,rfl,rfl,ex1 rfl ?_⟩));refine ite2 (fun h=>?_) (fun h=>?_)
   ·have h:((B i:Nat):Int)<((w:Nat):Int):=of_decide_eq_true h;have hBi:B i<w:=by lia
    obtain⟨bi,hbi⟩:∃b,bs[i]?=some b:=⟨_,ā (by lia)⟩;obtain⟨us,vn,hus,lus,hat,fn⟩:=((hB i bi hbi).same s4).at (j:=n) (by lia);have eN:(((us.length:Nat):Int) - 1)=((n:Nat):Int):=by lia
    have hat':atI us (((us.length:Nat):Int) - 1)=some vn:=by rw[eN];exact hat
    obtain⟨qs,hqs,pQ⟩:=l4;have lQ:qs.length=w:=pQ.length.trans (Ý _ _);refine(ex1 rfl (ex1 rfl ⟨a,_,_,_,rfl,rfl,SqL.of (s4 _ _ ha),Ε hbi,ex1 rfl (ex1 rfl ⟨a,_,_,_,rfl,rfl,SqL.of (s4 _ _ ha),Ε hbi,_,_,rfl,.inl ⟨_,SqL.of hus,rfl⟩,_,_,rfl,rfl,bi,_,_,_,rfl,rfl,SqL.of hus,hat',?_⟩)⟩));refine(ex1 rfl (ex1 rfl ⟨p,_,_,B i,rfl,rfl,hqs,Ψ (by lia),?_⟩));have tu:=ð (o:=.lst (qs.set (B i) vn)) hqs (fun _ z=>nomatch z);refine⟨fun j=>if j=B i then M i n else x j,_,_,rfl,s4.updD hpH,⟨_,Ã,zA6 (Paired.mapP pQ fun _ _ f=>f.tup tu) (fn.tup tu)⟩,fun j hj=>?_⟩
    by_cases e:j=B i
    ·refine .inl ⟨i,ķ i,e.symm,if_pos e,fun i' h1 _=>by lia⟩
    ·rcases hx j hj with⟨l,hl,e1,e2,mx⟩ | ⟨e1,e2⟩
     ·refine .inl ⟨l,by lia,e1,(if_neg e).trans e2,fun i' h1 h2=>?_⟩;rcases Ę (ĕ h1) with z | z
      ·exact mx i' z h2
      ·rw[z]at h2;exact absurd h2.symm e
     ·refine .inr ⟨(if_neg e).trans e1,fun l hl=>?_⟩;rcases Ę (ĕ hl) with z | z
      ·exact e2 l z
      ·rw[z];exact fun q=>e q.symm
   ·have h:¬((B i:Nat):Int)<((w:Nat):Int):=fun z=>h (decide_eq_true z);refine⟨x,_,_,rfl,s4,l4,fun j hj=>?_⟩;rcases hx j hj with⟨l,hl,e1,e2,mx⟩ | ⟨e1,e2⟩
    ·refine .inl ⟨l,by lia,e1,e2,fun i' h1 h2=>?_⟩;rcases Ę (ĕ h1) with z | z
     ·exact mx i' z h2
     ·rw[z]at h2;lia
    ·refine .inr ⟨e1,fun l hl=>?_⟩;rcases Ę (ĕ hl) with z | z
     ·exact e2 l z
     ·rw[z];lia
  rintro σ H3 ⟨x,v4,v5,rfl,s3,l3,hx⟩;rw[hbl]at hx;subst eX;exact(ex1 rfl (fin p H3 x hpH s3 l3 hx))
noncomputable abbrev yA3:Stmt:=top 46
theorem sc_blend:Ï ["offer","wish","now","wines","conditions","lack","rows","found","costs","paper"] ["offer","wish","now"] (Ç yA3):=scF
theorem yT6 {ca:Ca}(D:DefAt K mg "blend" yA3)(T:Txt K mg ca)(G_first_rows:FnAt P w K mg base CX0 9 "first_rows" ["offer","wish","now"] (spFirst K))(G_lowered:FnAt P w K mg base CX0 6 "lowered" ["rows","basis","many"] (xF7))(G_lack_costs:FnAt P w K mg base CX0 4 "lack_costs" ["row"] (spLack))(G_paper_of:FnAt P w K mg base CX0 4 "paper_of" ["costs","wines","conditions","lack_cost"] (yJ2))(G_without_lack:FnAt P w K mg base CX0 6 "without_lack" ["rows","basis","lack"] (spWo))(G_price_costs:FnAt P w K mg base CX0 5 "price_costs" ["offer","rows","basis"] (spPc))(G_amounts_of:FnAt P w K mg base CX0 1 "amounts_of" ["rows","basis","wines"] (spAms)):FnAt P w K mg base CX0 10 "blend" ["offer","wish","now"] (spBl):=by
 refine D.ok sc_blend (fun vs H Q E h=>?_) (fun _ _ _ _ _ _ us hl=>match us,hl with | [_,_,_],_=>rfl) (fun f cdv A outer s H vs Q E hr h=>?_)
 all_goals obtain⟨ao,aw,al,now,os,ls,zs,cs,wv,wd,D',N',rfl,hO,hPo,okW,w1,w8,hW,fw,hL,hPl,c8,bs,none',bln⟩:=h
 ·rfl
 ·have nd:=sc_blend.nd;refine⟨_,(Ä (Í (i:=3) nd rfl (Or.inl rfl) (Ë (Ö (K:=K) rfl) (by rfl) T.z_len PySem.boot_len (À (pv 0) Â)))
   (Ä (Í (i:=4) nd rfl (Or.inl rfl) (Ë (Ö (K:=K) rfl) (by rfl) T.z_len PySem.boot_len (À (pixT (K:=K) (pv 1) Á) Â)))
   (Ä (Í (i:=5) nd rfl (Or.inl rfl) (Æ è (Æ ß Á (pv 3)) (pv 4)))
   (Ä (Í (i:=6) nd rfl (Or.inl rfl) (pfn G_first_rows hr (À (pv 0) (À (pv 1) (À (pv 2) Â)))))
   (Ä (Í (i:=7) nd rfl (Or.inl rfl) (pfn G_lowered hr (À (Æ Ρ (pv 6) (é (À (pfn G_lack_costs hr (À (pixL (K:=K) (pv 6) (Æ ô (pv 5) (pv 3))) Â)) Â))) (À (yH0 rfl (by rfl) T.z_list (by rfl) T.z_range (À (pv 3) (À (Æ è (pv 5) Á) Â))) (À (pv 5) Â)))))
   (Ä (Í (i:=8) nd rfl (Or.inl rfl) (pixL (K:=K) (pixT (K:=K) (pv 7) Á) (Ë (Ö (K:=K) rfl) (by rfl) T.z_len PySem.boot_len (À (pv 6) Â))))
   (Ä (á (Ð (yA8 (K:=K) rfl hr) (pixL (K:=K) (pv 8) (Æ è (pv 5) Á)) (Õ (À Á (À Á Â))) (Ò _)) (Å (É (Õ (À å (À (pfn G_paper_of hr (À (pv 8) (À (pv 3) (À (pv 4) (À (Õ (À Á (À Á Â))) Â))))) Â))))) Ó)
   (Ä (Í (i:=7) nd rfl (Or.inl rfl) (pfn G_without_lack hr (À (zD5 (zC7 (K:=K) rfl) (pixT (K:=K) (pv 7) Á) yA7 (Ξ (Ë (Ö (K:=K) rfl) (by rfl) T.z_len PySem.boot_len (À (pv 6) Â)))) (À (pixT (K:=K) (pv 7) Á) (À (pv 5) Â)))))
   (Ä (Í (i:=7) nd rfl (Or.inl rfl) (pfn G_lowered hr (À (Æ Ρ (pixT (K:=K) (pv 7) Á) (é (À (pfn G_price_costs hr (À (pv 0) (À (pixT (K:=K) (pv 7) Á) (À (pixT (K:=K) (pv 7) Á) Â)))) Â))) (À (pixT (K:=K) (pv 7) Á) (À (pv 5) Â)))))
   (Ä (Í (i:=9) nd rfl (Or.inl rfl) (pfn G_paper_of hr (À (pixL (K:=K) (pixT (K:=K) (pv 7) Á) (Ë (Ö (K:=K) rfl) (by rfl) T.z_len PySem.boot_len (À (pv 6) Â))) (À (pv 3) (À (pv 4) (À (Õ (À Á (À Á Â))) Â))))))
   (Å (É (Õ (À å (À (pfn G_amounts_of hr (À (pixT (K:=K) (pv 7) Á) (À (pixT (K:=K) (pv 7) Á) (À (pv 3) Â)))) (À (pv 9) Â)))))))))))))))),?_⟩
  refine cutS fun nX eX=>?_;have lO:os.length=zs.length:=hPo.length;have lL:ls.length=cs.length:=hPl.length;have m2:IntMulOk 2 ((os.length:Nat):Int):=Ü 64 (by decide) (ă (m:=100) (by lia) (by decide)) (by decide);refine(ex1 rfl ⟨_,_,rfl,.inl ⟨_,SqL.of hO,rfl⟩,?_⟩);refine stpS eX fun nX eX=>?_;refine(ex1 rfl (gT hW rfl ⟨_,_,rfl,.inl ⟨_,SqL.of hL,rfl⟩,?_⟩));refine stpS eX fun nX eX=>?_;refine(ex1 rfl (gI m2 (ex1 rfl (gJ ?_))));show Ends.nx _ [some (.ref ao),some (.ref aw),some (.int now),some (.int (os.length:Nat)),some (.int (ls.length:Nat)),some (.int (2*((os.length:Nat):Int)+((ls.length:Nat):Int))),none,none,none,none] _;rw[show (2*((os.length:Nat):Int)+((ls.length:Nat):Int))=((2*zs.length+cs.length:Nat):Int) by lia,lO,lL];refine stpS eX fun nX eX=>?_;refine(ex1 rfl (ex1 rfl (ex1 rfl (È ?_))));refine spFirst.mk (Ez:=E0) hO hPo okW w8 hW fw hL hPl c8 (fun pr H1 hpr s1 hM1=>?_);obtain⟨bs1,hpr1,lb1,row1⟩:=hM1.row;obtain⟨bw,hbw,lfw⟩:=row1 (zs.length+cs.length) (by lia);have hat:atI (bs1.map V.ref) (((2*zs.length+cs.length:Nat):Int) - ((zs.length:Nat):Int))=some (.ref bw):=by
   rw[show (((2*zs.length+cs.length:Nat):Int) - ((zs.length:Nat):Int))=((zs.length+cs.length:Nat):Int) by lia];exact Ε hbw
  have lk1:Frm (zs.length+cs.length+1) (2*zs.length+cs.length+1) (Fr0 now cs zs wd) (tbM (zs.length+cs.length+1) (2*zs.length+cs.length+1) (lkM now cs zs wd) fun i=>zs.length+i):=xJ0;have rowB:∀i,i<zs.length+cs.length+1->∀j,j<2*zs.length+cs.length+2->Bd 2600 (frM now cs zs wd i j):=fun i hi j hj=>by
   have:=bs.bdM lk1 hi hj;unfold lkM at this
   rwa [if_pos hi]at this
  refine stpS eX fun nX eX=>?_;refine(ex1 rfl (ex1 rfl (ex1 rfl (ex1 rfl ⟨_,_,rfl,rfl,gL hpr1 hat (È ?_)⟩))));refine spLack.mk (Ez:=E0) lfw (by lia) (fun j hj=>(rowB _ (by lia) j hj).mono (by decide)) (fun pl H2 hpl s2 ll=>?_);refine⟨szn,fun q1 hq1=>?_⟩;have t3:=Same.upd (o:=.lst [V.ref pl]) hq1;refine⟨pr,q1,_,_,rfl,rfl,(s2.trans t3) _ _ hpr1,Ã,sz (by simp;lia),fun p4 hp4=>?_⟩;have s14:=s2.trans (t3.trans (Same.upd (o:=.lst (bs1.map V.ref++[V.ref pl])) hp4));have hM4:=MatAt.cat hp4 (hM1.same (s2.trans t3)) ((s2.trans t3) _ _ hpr1) (ll.same t3);generalize upd (upd H2 q1 (.lst [V.ref pl])) p4 (.lst (bs1.map V.ref++[V.ref pl]))=H4 at *;refine(ex1 rfl (ex1 rfl (hJ ⟨_,_,rfl,⟨by lia,by lia,by lia,by lia⟩,by lia,fun pb hpb=>?_⟩)));rw[yR9];have t5:=Same.upd (o:=.lst (ñ (zs.length+cs.length+1) fun i=>zs.length+i)) hpb;have hb5:upd H4 pb (.lst (ñ (zs.length+cs.length+1) fun i=>zs.length+i)) pb=some (.lst (ñ (zs.length+cs.length+1) fun i=>zs.length+i)):=Ã;have hM5:=hM4.same t5;have s15:=s14.trans t5;generalize upd H4 pb (.lst (ñ (zs.length+cs.length+1) fun i=>zs.length+i))=H5 at *;have eC:∀j,j<2*zs.length+cs.length+2->lkM now cs zs wd (zs.length+cs.length+1) j=ú (ż zs.length cs.length) (fun i=>zs.length+i) (lkM now cs zs wd) (zs.length+cs.length+1) j:=fun j hj=>lk_c hj;have e0:ż zs.length cs.length (2*zs.length+cs.length+1)=0:=if_neg (by lia);have feas1:∀i,i<zs.length+cs.length+1->0<=lkM now cs zs wd i (2*zs.length+cs.length+1):=fun i hi=>by
   unfold lkM;rw[if_pos hi];show 0<=rwM zs.length cs.length (wtQ now cs zs) (ttQ zs) wd i (2*zs.length+cs.length+1);rw[rw_b];exact xF9 okW bs.wd0 i
  have szA:∀{f:Nat->Rat} {M M':Nat->Nat->Rat} {B B':Nat->Nat} {q:Nat},(∀j,Cd 6 144 (f j))->f (2*zs.length+cs.length+1)=0->Frm (zs.length+cs.length+1) (2*zs.length+cs.length+1) (Fr0 now cs zs wd) (tbM (zs.length+cs.length+1) (2*zs.length+cs.length+1) M B)->(∀j,j<2*zs.length+cs.length+2->M (zs.length+cs.length+1) j=ú f B M (zs.length+cs.length+1) j)->(∀i,i<zs.length+cs.length+1->0<=M i (2*zs.length+cs.length+1))->Runs (2*zs.length+cs.length) (zs.length+cs.length+1) (2*zs.length+cs.length+1) q M M' B B'->∀i,i<zs.length+cs.length+1+1->∀j,j<2*zs.length+cs.length+1+1->Bd 2600 (M' i j):=by
   intro f M M' B B' q hf hf0 fr c fe hR i hi j hj;obtain⟨k1,k2,k3,_⟩:=hR.frm fr hf0 c fe;rcases Ę (ĕ hi) with z | z
   ·exact bs.bdM k1 z hj
   ·rw[z,k2 j hj];exact bs.bdP k1 hf (Ć _) hj
  refine(ex1 rfl ⟨p4,pb,zs.length+cs.length+1,2*zs.length+cs.length+1,2*zs.length+cs.length,lkM now cs zs wd,(fun i=>zs.length+i),ex1 rfl ⟨hM5,hb5,by lia,by lia,by lia,yY5 lk1 eC,feas1,yX5 e0 (fun j=>(zM2 _ _ j).2) eC,(fun q M' B' hR=>szA (fun j=>(zM2 _ _ j).1) e0 lk1 eC feas1 hR),fun p pb' t q M' B' H6 s6 hM6 hb6 ht6 hR pos=>?_⟩⟩);obtain⟨fr6,c6,fe6,_⟩:=hR.frm lk1 e0 eC feas1;have s16:=s15.trans s6;have sA:=s1.trans s16;obtain⟨bs6,hp6,lb6,row6⟩:=hM6.row;obtain⟨bc,hbc,lfc⟩:=row6 (zs.length+cs.length+1) (by lia);have hpr6:=s16 _ _ hpr1;have l1:(bs1.map V.ref).length=zs.length+cs.length+1:=by rw[ą];exact lb1
  have hat6:atI (bs6.map V.ref) (((bs1.map V.ref).length:Nat):Int)=some (.ref bc):=by rw[l1];exact Ε hbc
  refine stpS eX fun nX eX=>?_;refine(ex1 rfl ⟨t,_,_,_,rfl,rfl,SqT.of ht6,rfl,ex1 rfl ⟨_,_,rfl,.inl ⟨_,SqL.of hpr6,rfl⟩,p,_,_,_,rfl,rfl,SqL.of hp6,hat6,?_⟩⟩);obtain⟨uc,vz,huc,luc,haz,fz⟩:=lfc.at (j:=2*zs.length+cs.length+1) (by lia);have haz':atI uc (((2*zs.length+cs.length:Nat):Int)+1)=some vz:=haz;refine stpS eX fun nX eX=>?_;refine(ex1 rfl (ex1 rfl ⟨_,_,rfl,rfl,gL huc haz' ⟨szn,fun p0 hp0=>?_⟩⟩));have t0:=Same.upd (o:=.tup [.int 0,.int 1]) hp0;refine⟨_,_,(fz.same t0).rep,yE4 (SqT.of Ã),zB4 _ _,ex1 rfl ?_⟩;rw[eq01];have lfc7:=lfc.same t0;have hM7:=hM6.same t0;have hb7:=t0 _ _ hb6;have ht7:=t0 _ _ ht6;have hp7:=t0 _ _ hp6;have hpr7:=t0 _ _ hpr6;have sB:=sA.trans t0;generalize upd H6 p0 (.tup [.int 0,.int 1])=H7 at *;have bdC:∀j,j<2*zs.length+cs.length+2->Bd 8000 (M' (zs.length+cs.length+1) j):=fun j hj=>by
   rw[c6 j hj];exact(bs.bdP fr6 (fun j=>(zM2 _ _ j).1) (Ć _) hj).mono (by decide)
  refine ite2 (fun h=>?_) (fun h=>?_)
  ·have h:(!decide (M' (zs.length+cs.length+1) (2*zs.length+cs.length+1)=0))=true:=h;have ne:M' (zs.length+cs.length+1) (2*zs.length+cs.length+1)≠0:=by simpa using h
   refine(ex1 rfl (ex1 rfl (ex1 rfl ⟨szn,fun p8 hp8=>?_⟩)));have t8:=Same.upd (o:=.tup [.int 1,.int 1]) hp8;refine⟨bc,zs.length,cs.length,2*zs.length+cs.length+1+1,M' (zs.length+cs.length+1),_,1,rfl,lfc7.same t8,FrV.newOf rfl rfl,by lia,by lia,⟨by decide,by decide⟩,bdC _ (by lia),fun t9 u9 pv pw H9 s9 h9 f9 l9 l9'=>⟨szn,fun t10 ht10=>?_⟩⟩;have tt:=Same.upd (o:=.tup [.str "none",.ref t9]) ht10;refine none' t10 (.ref t9) (M' (zs.length+cs.length+1)) _ (sB.trans (t8.trans (s9.trans tt))) Ã (PapV.same ⟨t9,u9,pv,pw,rfl,h9,f9,l9,l9'⟩ tt) ⟨M',B',fr6,c6,pos⟩ (fun y=>?_) ?_
   rotate_left
   ·have zl:=yF3 (S:=tbM (zs.length+cs.length+1) (2*zs.length+cs.length+1) M' B') fe6 (by
     show M' (zs.length+cs.length+1) (2*zs.length+cs.length+1)=_;rw[c6 _ (by lia)];unfold redb ú;rw[e0];rfl)
    have zl:M' (zs.length+cs.length+1) (2*zs.length+cs.length+1)<=0:=zl;exact Rat.not_le.mp fun z=>ne (by grind)
   exact yN2 fr6 fe6 (fun j hj=>c6 j (by lia)) (by
    show M' (zs.length+cs.length+1) (2*zs.length+cs.length+1)=_;rw[c6 _ (by lia)];unfold redb ú;rw[e0];rfl) pos ne y
  ·have h:¬(!decide (M' (zs.length+cs.length+1) (2*zs.length+cs.length+1)=0))=true:=h;have ze:M' (zs.length+cs.length+1) (2*zs.length+cs.length+1)=0:=by simpa using h
   refine' zK8 (C:=fun (t8:Addr) (Hx:Hp)=>Same H7 Hx /\ ∃p8 pb8 M2 B2,MatAt Hx p8 (zs.length+cs.length+1) (2*zs.length+cs.length+1+1) M2 /\ Hx pb8=some (.lst (ñ (zs.length+cs.length+1) B2)) /\ Hx t8=some (.tup [.ref p8,.ref pb8]) /\ Frm (zs.length+cs.length+1) (2*zs.length+cs.length+1) (Fr0 now cs zs wd) (tbM (zs.length+cs.length+1) (2*zs.length+cs.length+1) M2 B2) /\ (∀i,i<zs.length+cs.length+1->0<=M2 i (2*zs.length+cs.length+1)) /\ ∀l,l<zs.length+cs.length+1->B2 l≠2*zs.length+cs.length) (fun key=>?go) ?body
   case go =>
    refine stpS eX fun nX eX=>?_;refine(ex1 rfl ⟨t,_,_,_,rfl,rfl,SqT.of ht7,rfl,ex1 rfl ⟨_,_,rfl,.inl ⟨_,SqL.of hpr7,rfl⟩,ex1 rfl ⟨p,ex1 rfl ⟨SqL.of hp7,fun p8 hp8=>?_⟩⟩⟩⟩);rw[l1,zY2 _ (by rw[ą];lia)];have t8:=Same.upd (o:=.lst ((bs6.map V.ref).take (zs.length+cs.length+1))) hp8;have hM8:=MatAt.take hp8 hM7 hp7 (show zs.length+cs.length+1<=zs.length+cs.length+1+1 by lia);subst eX;refine(ex1 rfl ⟨t,_,_,_,rfl,rfl,SqT.of (t8 _ _ ht7),rfl,ex1 rfl (È ?_)⟩);refine spWo.mk (Ez:=E0) hM8 (t8 _ _ hb7) (by lia) (by lia) (by lia) (fun l hl e=>yU3 fr6 w1 hl e) (fun i hi j hj=>bs.bdM fr6 hi hj) (fun p9 pb9 t9 H9 s9 hM9 hb9 ht9 nl=>key t9 H9 ⟨t8.trans s9,p9,pb9,M',B',hM9,hb9,ht9,fr6,fe6,nl⟩) (fun p9 pb9 t9 H9 l col s9 hl el hc nc hM9 hb9 ht9=>key t9 H9 ⟨t8.trans s9,p9,pb9,pivM M' l col,(fun i=>if i=l then col else B' i),hM9,hb9,ht9,Frm.piv fr6 hl (by lia) nc,fun i hi=>?_,fun i hi=>?_⟩)
    ·have lz:M' l (2*zs.length+cs.length+1)=0:=yN1 (S:=tbM (zs.length+cs.length+1) (2*zs.length+cs.length+1) M' B') fe6 (by
      show M' (zs.length+cs.length+1) (2*zs.length+cs.length+1)=_;rw[c6 _ (by lia)];unfold redb ú;rw[e0];rfl) ze hl el
     unfold pivM;rw[lz]
     by_cases q:i=l
     ·rw[if_pos q,ę,Ğ];exact Ŏ
     ·rw[if_neg q,ę,Ğ,Ğ];have:=fe6 i hi
      grind
    ·show (if i=l then col else B' i)≠_
     by_cases q:i=l
     ·rw[if_pos q];lia
     ·rw[if_neg q];exact fun e=>q (fr6.inj hi hl (show B' i=B' l by rw[e,el]))
   case body =>
    rintro t8 H8 ⟨s8,p8,pb8,M2,B2,hM8,hb8,ht8,fr8,fe8,nl8⟩;have sC:=sB.trans s8;have bdP:∀i,i<=zs.length+cs.length+1->∀j,j<2*zs.length+cs.length+1+1->Bd 8000 (ú (prQ zs) B2 M2 i j):=fun i hi j hj=>(bs.bdP fr8 (fun j=>(bs.pr j).1) hi hj).mono (by decide);have bPr:∀j,Bd 2600 (prQ zs j):=fun j=>((bs.pr j).1.bd (s:=20) (by decide) (by decide) (by decide)).mono (by decide);obtain⟨bs8,hp8,lb8,_⟩:=hM8.row;have hPo8:=Paired.mapP hPo fun _ _ f=>OfP.same f sC;refine(ex1 rfl ⟨t8,_,_,_,rfl,rfl,SqT.of ht8,rfl,ex1 rfl (ex1 rfl ⟨t8,_,_,_,rfl,rfl,SqT.of ht8,rfl,ex1 rfl ⟨t8,_,_,_,rfl,rfl,SqT.of ht8,rfl,È ?_⟩⟩)⟩);refine spPc.mk (Ez:=E0) (sC _ _ hO) hPo8 hM8 hb8 (by lia) (by lia) (by lia) (by lia) bdP (fun i hi j hj=>⟨(bs.bdM fr8 hi hj).mono (by decide),((bs.bdM fr8 hi hj).mul (bPr _)).mono (by decide)⟩) (fun j=>(bPr j).mono (by decide)) (fun pc H9 hpc s9 lc=>?_);refine⟨szn,fun q9 hq9=>?_⟩;have t9:=Same.upd (o:=.lst [V.ref pc]) hq9;refine⟨p8,q9,_,_,rfl,rfl,(s9.trans t9) _ _ hp8,Ã,sz (by simp;lia),fun p10 hp10=>?_⟩;have t10:=Same.upd (o:=.lst (bs8.map V.ref++[V.ref pc])) hp10;have hM10:=MatAt.cat hp10 (hM8.same (s9.trans t9)) ((s9.trans t9) _ _ hp8) (lc.same t9);have s810:=s9.trans (t9.trans t10);have hb10:=s810 _ _ hb8;have ht10:=s810 _ _ ht8;generalize upd (upd H9 q9 (.lst [V.ref pc])) p10 (.lst (bs8.map V.ref++[V.ref pc]))=H10 at *;have fr10:Frm (zs.length+cs.length+1) (2*zs.length+cs.length+1) (Fr0 now cs zs wd) (tbM (zs.length+cs.length+1) (2*zs.length+cs.length+1) (fun i=>if i<zs.length+cs.length+1 then M2 i else fun j=>ú (prQ zs) B2 M2 (zs.length+cs.length+1) j) B2):=Frm.congr fr8 fun i hi=>if_pos hi;have fe10:∀i,i<zs.length+cs.length+1->0<=(fun i=>if i<zs.length+cs.length+1 then M2 i else fun j=>ú (prQ zs) B2 M2 (zs.length+cs.length+1) j) i (2*zs.length+cs.length+1):=fun i hi=>by
     show 0<=(if i<zs.length+cs.length+1 then M2 i else fun j=>ú (prQ zs) B2 M2 (zs.length+cs.length+1) j) (2*zs.length+cs.length+1);rw[if_pos hi];exact fe8 i hi
    have c10:∀j,j<2*zs.length+cs.length+2->(fun i=>if i<zs.length+cs.length+1 then M2 i else fun j=>ú (prQ zs) B2 M2 (zs.length+cs.length+1) j) (zs.length+cs.length+1) j=ú (prQ zs) B2 (fun i=>if i<zs.length+cs.length+1 then M2 i else fun j=>ú (prQ zs) B2 M2 (zs.length+cs.length+1) j) (zs.length+cs.length+1) j:=fun j hj=>by
     show (if zs.length+cs.length+1<zs.length+cs.length+1 then M2 (zs.length+cs.length+1) else fun j=>ú (prQ zs) B2 M2 (zs.length+cs.length+1) j) j=_;rw[if_neg (ĸ _)];unfold ú
     congr 1
     refine Ô fun l hl=>?_;show _=prQ zs (B2 l)*(if l<zs.length+cs.length+1 then M2 l else _) j;rw[if_pos hl]
    have p0:prQ zs (2*zs.length+cs.length+1)=0:=by unfold prQ;rw[Ġ (by lia)]
    generalize (fun i=>if i<zs.length+cs.length+1 then M2 i else fun j=>ú (prQ zs) B2 M2 (zs.length+cs.length+1) j)=M3 at *;refine(ex1 rfl ⟨t8,_,_,_,rfl,rfl,SqT.of ht10,rfl,ex1 rfl ⟨p10,pb8,zs.length+cs.length+1,2*zs.length+cs.length+1,2*zs.length+cs.length,M3,B2,ex1 rfl ⟨hM10,hb10,by lia,by lia,by lia,yY5 fr10 c10,fe10,yX5 p0 (fun j=>(bs.pr j).2) c10,(fun q M' B' hR=>szA (fun j=>(bs.pr j).1) p0 fr10 c10 fe10 hR),fun p11 pb11 t11 q11 M4 B4 H11 s11 hM11 hb11 ht11 hR11 pos11=>?_⟩⟩⟩);obtain⟨fr11,c11,fe11,nl11⟩:=hR11.frm fr10 p0 c10 fe10;have nl11:=nl11 (2*zs.length+cs.length) (Ć _) nl8;have s711:=s8.trans (s810.trans s11);obtain⟨bs11,hp11,lb11,row11⟩:=hM11.row;obtain⟨bc11,hbc11,lfc11⟩:=row11 (zs.length+cs.length+1) (by lia);have hpr11:=s711 _ _ hpr7;have hat11:atI (bs11.map V.ref) (((bs1.map V.ref).length:Nat):Int)=some (.ref bc11):=by rw[l1];exact Ε hbc11
    refine(ex1 rfl ⟨t11,_,_,_,rfl,rfl,SqT.of ht11,rfl,ex1 rfl ⟨_,_,rfl,.inl ⟨_,SqL.of hpr11,rfl⟩,p11,_,_,_,rfl,rfl,SqL.of hp11,hat11,ex1 rfl (ex1 rfl ⟨szn,fun p12 hp12=>?_⟩)⟩⟩);have t12:=Same.upd (o:=.tup [.int 0,.int 1]) hp12;refine⟨bc11,zs.length,cs.length,2*zs.length+cs.length+1+1,M4 (zs.length+cs.length+1),_,0,rfl,lfc11.same t12,FrV.newOf rfl rfl,by lia,by lia,⟨by decide,by decide⟩,by rw[c11 _ (by lia)];exact(bs.bdP fr11 (fun j=>(bs.pr j).1) (Ć _) (by lia)).mono (by decide),fun t13 u13 pv pw H13 s13 h13 f13 l13 l13'=>?_⟩;have s1113:=t12.trans s13;refine(ex1 rfl ⟨t11,_,_,_,rfl,rfl,SqT.of (s1113 _ _ ht11),rfl,ex1 rfl ⟨t11,_,_,_,rfl,rfl,SqT.of (s1113 _ _ ht11),rfl,ex1 rfl (È ?_)⟩⟩);refine spAms.mk (Ez:=E0) (hM11.same s1113) (by lia) (s1113 _ _ hb11) (by lia) (by lia) (by lia) (fun pa H14 x hpa s14 lx hx=>?_);refine(ex1 rfl ⟨szn,fun t15 ht15=>?_⟩);have tt:=Same.upd (o:=.tup [.str "blend",.ref pa,.ref t13]) ht15;obtain⟨fs,best⟩:=yI3 fr11 fe11 (p:=prQ zs) (fun j hj=>by unfold prQ;rw[Ġ hj]) (fun j hj=>c11 j (by lia)) pos11 nl11;have ex:=yV5 fr11 hx;obtain⟨Ex,e0',ele,hcd⟩:=bs.col fr11 (j:=2*zs.length+cs.length+1) (by lia);refine bln t15 pa (.ref t13) (M4 (zs.length+cs.length+1)) x _ (sB.trans (s711.trans (s1113.trans (s14.trans tt)))) Ã (lx.same tt) (PapV.same ⟨t13,u13,pv,pw,rfl,h13,f13,l13,l13'⟩ (s14.trans tt)) ⟨M4,B4,fr11,c11,pos11⟩ (yO1 ex fs) (fun y hy=>?_) ⟨Ex,e0',ele,fun j hj=>?_⟩ ?_
    ·rw[Ô fun j hj=>by rw[ex j hj]];exact best y hy
    ·rcases hx j hj with⟨l,hl,_,e2,_⟩ | ⟨e1,_⟩
     ·rw[e2];exact hcd l hl
     ·rw[e1];exact Cd.zero _ _
    ·rw[Ô fun j hj=>by rw[ex j hj],yQ8 fr11 fun j hj=>by unfold prQ;rw[Ġ hj],c11 _ (by lia)]
noncomputable abbrev zC2:Stmt:=top 48
theorem sc__law_cell_at:Ï ["_law_script","_law_k"] ["_law_script","_law_k"] (Ç zC2):=scF
theorem zO1 {ca:Ca}(D:DefAt K mg "_law_cell_at" zC2)(T:Txt K mg ca):FnAt P w K mg base CX0 1 "_law_cell_at" ["_law_script","_law_k"] (yE2 K):=by
 refine D.ok sc__law_cell_at (fun vs H Q E h=>?_) (fun _ _ _ _ _ _ us hl=>match us,hl with | [_,_],_=>rfl) (fun f cdv A outer s H vs Q E hr h=>?_)
 all_goals obtain⟨a,ns,j,rfl,hS,hj,k⟩:=h
 ·rfl
 ·have nd:=sc__law_cell_at.nd;refine⟨_,(Ä (á (Ð υ (pv 1) (Ë (Ö (K:=K) rfl) (by rfl) T.z_len PySem.boot_len (À (pv 0) Â)) (Ò _)) (Å (É (pixL (K:=K) (pv 0) (pv 1)))) Ó)
   (Å (É Á))),?_⟩
  refine⟨_,rfl,_,rfl,_,_,rfl,.inl ⟨_,hS,rfl⟩,_,_,rfl,rfl,_,rfl,?_⟩;refine ite2 (fun h1=>?_) (fun h1=>?_)
  ·obtain⟨c,hc⟩:=yX4 hj (of_decide_eq_true h1);refine⟨_,rfl,_,rfl,a,_,j,_,rfl,rfl,hS,hc,k c⟩
  ·exact k 0
noncomputable abbrev zF7:Stmt:=top 49
theorem sc__law_mixed:Ï ["_law_cell","_law_k"] ["_law_cell","_law_k"] (Ç zF7):=scF
theorem zT9 {ca:Ca}(D:DefAt K mg "_law_mixed" zF7)(T:Txt K mg ca):FnAt P w K mg base CX0 1 "_law_mixed" ["_law_cell","_law_k"] (spMixed2):=by
 refine D.ok sc__law_mixed (fun vs H Q E h=>?_) (fun _ _ _ _ _ _ us hl=>match us,hl with | [_,_],_=>rfl) (fun f cdv A outer s H vs Q E hr h=>?_)
 all_goals obtain⟨c,j,rfl,⟨j0,j4⟩,k⟩:=h
 ·rfl
 ·have nd:=sc__law_mixed.nd;refine⟨_,(Å (É (Æ Ø (Æ ß (Æ Ø (pv 0) Á) (pixL (K:=K) (é (À Á (À Á (À Á (À Á Â))))) (pv 1))) (pixL (K:=K) (é (À Á (À Á (À Á (À Á Â))))) (pv 1))))),?_⟩;have at4:∀(a b c d:Int),∃v:Int,v∈[a,b,c,d] /\ atI [V.int a,.int b,.int c,.int d] j=some (V.int v):=by
   intro a b c d;have:j=0 \/ j=1 \/ j=2 \/ j=3:=by lia
   rcases this with rfl | rfl | rfl | rfl
   ·exact⟨a,by simp,rfl⟩
   ·exact⟨b,by simp,rfl⟩
   ·exact⟨c,by simp,rfl⟩
   ·exact⟨d,by simp,rfl⟩
  obtain⟨u,hu,eu⟩:=at4 48271 69621 16807 39373;obtain⟨w1,hw,ew⟩:=at4 65537 65539 65543 65551;refine⟨_,rfl,_,_,rfl,rfl,(show (1000003:Int)≠0 by decide),szn,fun p hp=>?_⟩;refine⟨_,rfl,p,_,_,_,rfl,rfl,SqL.of Ã,eu,_,_,rfl,rfl,?_,szn,fun p2 hp2=>?_⟩
  ·have q:=à (c:=c) (m:=1000003) (by decide);refine Ü 64 (ă (m:=1000003) (by lia) (by decide)) (ă (m:=100000) ?_ (by decide)) (by decide);simp at hu;lia
  have hw:0<w1 /\ w1<=65551:=by
   simp at hw;lia
  have q2:=à (c:=c.fmod 1000003*u) (m:=w1) hw.1;refine⟨_,rfl,p2,_,_,_,rfl,rfl,SqL.of Ã,ew,_,_,rfl,rfl,(by lia),?_⟩;exact k _ _ q2.1 (by lia) ((Same.upd hp).trans (Same.upd hp2))
noncomputable abbrev zC0:Stmt:=top 50
theorem sc__law_divisor:Ï ["_law_one","_law_other"] ["_law_one","_law_other"] (Ç zC0):=scF
theorem zN9 {ca:Ca}(D:DefAt K mg "_law_divisor" zC0)(T:Txt K mg ca):FnAt P w K mg base CX0 1 "_law_divisor" ["_law_one","_law_other"] (zM5):=by
 refine D.ok sc__law_divisor (fun vs H Q E h=>?_) (fun _ _ _ _ _ _ us hl=>match us,hl with | [_,_],_=>rfl) (fun f cdv A outer s H vs Q E hr h=>?_)
 all_goals obtain⟨a,b,rfl,k⟩:=h
 ·rfl
 ·have nd:=sc__law_divisor.nd;refine⟨_,(Ä (zR9 PassesOwn.never (Ð zS2 (pv 1) Á (Ò _)) (Å (xG7 (i:=0) (j:=1) rfl nd rfl rfl (by decide) rfl rfl (À (pv 1) (À (Æ Ø (pv 0) (pv 1)) Â)) rfl)))
   (Å (É (Ë yV3 (by rfl) T.z_abs xL5 (À (pv 0) Â))))),?_⟩
  refine yD0 (fun σ H1=>∃x y:Int,σ=[some (.int x),some (.int y)] /\ H1=H /\ ħ x y=ħ a b)
   (fun σ _=>match σ with | [_,some (.int y)]=>y.natAbs | _=>0) ⟨a,b,rfl,rfl,rfl⟩ ?_ ?_
  ·rintro σ H1 ⟨x,y,rfl,rfl,d⟩;refine⟨_,rfl,rfl,_,rfl,?_⟩;refine ite2 (fun h1=>?_) (fun h1=>?_)
   ·have hy:y≠0:=by
     intro e;subst e;simp at h1
    refine⟨_,rfl,_,rfl,_,rfl,_,_,rfl,rfl,hy,_,_,rfl,?_⟩;exact⟨⟨_,_,rfl,rfl,(yF5 x y).trans d⟩,Dv.less hy⟩
   ·have hy:y=0:=by
     by_cases e:y=0
     ·exact e
     ·exact absurd (by simp[e]) h1
    subst hy;refine⟨_,rfl,x,rfl,?_⟩;rw[Int.gcd_zero_right]at d;have e:(if x<0 then -x else x)=((ħ a b:Nat):Int):=by
     rw[<- d];split<;>lia
    rw[e];exact k
  ·intro σ H1 Q1 Q2 hq h1;obtain⟨v,e,h2,c,e2,h3⟩:=h1;exact⟨v,e,h2,c,e2,hq _ _ h3⟩
noncomputable abbrev zD3:Stmt:=top 51
theorem sc__law_lowest:Ï ["_law_top","_law_bottom","_law_share"] ["_law_top","_law_bottom"] (Ç zD3):=scF
theorem zP7 {ca:Ca}(D:DefAt K mg "_law_lowest" zD3)(T:Txt K mg ca)(G__law_divisor:FnAt P w K mg base CX0 1 "_law_divisor" ["_law_one","_law_other"] (zM5)):FnAt P w K mg base CX0 2 "_law_lowest" ["_law_top","_law_bottom"] (spLowest2):=by
 refine D.ok sc__law_lowest (fun vs H Q E h=>?_) (fun _ _ _ _ _ _ us hl=>match us,hl with | [_,_],_=>rfl) (fun f cdv A outer s H vs Q E hr h=>?_)
 all_goals obtain⟨t,b,rfl,hb,hbb,k⟩:=h
 ·rfl
 ·have nd:=sc__law_lowest.nd;refine⟨_,(Ä (Í (i:=2) nd rfl (Or.inl rfl) (pfn G__law_divisor hr (À (pv 0) (À (pv 1) Â))))
   (Å (É (Õ (À (Æ Ú (pv 0) (pv 2)) (À (Æ Ú (pv 1) (pv 2)) Â)))))),?_⟩
  have hb':b≠0:=by lia
  have e:((ħ t b:Nat):Int)=dv t b:=by
   unfold dv;rw[if_neg (by lia)]
  have hd:∀i,ε i ((ħ t b:Nat):Int):=fun i=>by rw[e];exact ű (zX8 hb') (ă (yO9 hb') hbb)
  refine⟨_,rfl,_,rfl,t,b,rfl,?_⟩;refine⟨_,rfl,_,rfl,_,_,rfl,rfl,hd _,_,rfl,_,rfl,_,_,rfl,rfl,hd _,szn,fun p hp=>?_⟩;rw[e];exact k _ _ (Same.upd hp) (FrV.newOf (zX7 hb') (zX9 hb'))
noncomputable abbrev zF6:Stmt:=top 52
theorem sc__law_names:Ï ["_law_cell","_law_letters","_law_base","_law_at","_law_names_here","_law_k"] ["_law_cell"] (Ç zF6):=scF
theorem zT8 {ca:Ca}(D:DefAt K mg "_law_names" zF6)(T:Txt K mg ca):FnAt P w K mg base CX0 1 "_law_names" ["_law_cell"] (yJ3):=by
 refine D.ok sc__law_names (fun vs H Q E h=>?_) (fun _ _ _ _ _ _ us hl=>match us,hl with | [_],_=>rfl) (fun f cdv A outer s H vs Q E hr h=>?_)
 all_goals obtain⟨c,rfl,k⟩:=h
 ·rfl
 ·have nd:=sc__law_names.nd;refine⟨_,(Ä (Í (i:=1) nd rfl (Or.inr rfl) å)
   (Ä (Í (i:=2) nd rfl (Or.inr rfl) (ò ["_law_k"] ["_law_cell"] [0] rfl (by rfl) (ź (by rfl) T.z_range (À (Æ è Á (Æ Ø (pv 0) Á)) Â)) (fun _ _ _ _=>(Ì (i:=0) (show List.Nodup (["_law_k","_law_cell"]:List Str) from by decide) rfl (Or.inl rfl))) (fun _ _ _ _=>ã) (fun _ _ _ _=>(Æ Ø (Æ è (Æ Ú (pv 1) (Æ è (pv 0) Á)) (Æ ß (pv 0) (pv 0))) Á))))
   (Ä (Í (i:=3) nd rfl (Or.inr rfl) (Æ Ø (Æ Ú (pv 0) Á) (Ë (Ö (K:=K) rfl) (by rfl) T.z_len PySem.boot_len (À (pv 2) Â))))
   (Ä (Í (i:=4) nd rfl (Or.inl rfl) (é Â))
   (Ä (ů PassesOwn.never rfl (ź (by rfl) T.z_range (À Á Â)) (Ì (i:=5) nd rfl (Or.inr rfl)) (Å (Ű (Ž (K:=K) rfl PySem.F.plainAttrs_list PySem.F.slot_list_append PySem.F.type_list_append í (pv 4) (À (Ž (K:=K) rfl PySem.F.plainAttrs_str PySem.F.slot_str_join PySem.F.type_str_join (yT9 (K:=K) rfl) å (À (ò ["_law_j"] ["_law_letters","_law_base","_law_k","_law_at"] [1,2,5,3] rfl (by rfl) (ź (by rfl) T.z_range (À (Ë (Ö (K:=K) rfl) (by rfl) T.z_len PySem.boot_len (À (pv 2) Â)) Â)) (fun _ _ _ _=>(Ì (i:=0) (show List.Nodup (["_law_j","_law_letters","_law_base","_law_k","_law_at"]:List Str) from by decide) rfl (Or.inl rfl))) (fun _ _ _ _=>ã) (fun _ _ _ _=>(xB6 xJ7 (pv 1) (Æ Ø (Æ è (pixL (K:=K) (pv 2) (pv 0)) (Æ ß (pv 3) (ÿ yQ1 (by rfl) T.z_int yQ6 (À (ø ï (pv 0) (pv 4) (Ò _)) Â)))) Á) (fun _ _=>rfl)))) Â)) Â)))))
   (Å (É (pv 4)))))))),?_⟩
  have q8:=à (c:=c) (m:=8) (by decide);refine(ex1 rfl ⟨_,_,rfl,rfl,(show (8:Int)≠0 by decide),_,_,rfl,rfl,ex1 rfl ⟨by lia,by lia,fun D hD=>?_⟩⟩);refine zD9 (fun i σ' H'=>∃(v:Option V) (bs:List Int),σ'=[v,some (.int c)] /\ Same H H' /\ H' D=some (.lst (bs.map V.int)) /\ bs.length=i) ⟨none,[],rfl,Same.upd hD,Ã,rfl⟩ ?_ ?_
  ·rintro i σ' H' hi ⟨v,bs,rfl,s1,hd,hl⟩;have hi:i<(1+c.fmod 8).toNat:=hi;refine(ex1 rfl (ex1 rfl ⟨_,_,rfl,rfl,_,_,rfl,rfl,ű (by lia) (ă (m:=20) (by lia) (by decide)),ex1 rfl (ex1 rfl ⟨_,_,rfl,rfl,Ü 64 (ă (m:=20) (by lia) (by decide)) (ă (m:=20) (by lia) (by decide)) (by decide),_,_,rfl,rfl,_,_,rfl,rfl,(show (26:Int)≠0 by decide),?_⟩)⟩));refine⟨_,hd,by rw[ą];exact sz (by lia),_,bs++[((c.fdiv (0+(i:Int)+1)+(0+(i:Int))*(0+(i:Int))).fmod 26)],rfl,s1.updD hD,?_,by rw[Ĕ,hl];rfl⟩;rw[Ã,ė]
   rfl
  rintro σ' H1 ⟨v,bs,rfl,s1,hd,hl⟩;have hl:bs.length=(1+c.fmod 8).toNat:=hl;have hlen:(bs.map V.int).length=bs.length:=ą ..;refine(ex1 rfl ⟨_,_,rfl,rfl,ű (by decide) (by decide),ex1 rfl ⟨_,_,rfl,.inl ⟨_,SqL.of hd,rfl⟩,_,_,rfl,rfl,(by rw[hlen];lia),?_⟩⟩);refine⟨szn,fun p hp=>?_⟩;generalize hat:(c.fdiv 8).fmod (((bs.map V.int).length:Nat):Int)=at';have sp1:=Same.upd (o:=.lst []) hp;refine(ex1 rfl ⟨by decide,by decide,?_⟩);refine zG3 (fun i σ H2=>∃(v5:Option V) (zs:List Str),σ=[some (.int c),some (.str "abcdefghijklmnopqrstuvwxyz"),some (.ref D),some (.int at'),some (.ref p),v5] /\ Same H1 H2 /\ H2 p=some (.lst (zs.map V.str)) /\ zs.length=i) ⟨none,[],by rw[<- hat];rfl,sp1,Ã,rfl⟩ ?_ ?_
  ·rintro i σ H2 hi ⟨v5,zs,rfl,s2,hp2,hz⟩;have hi:i<3:=by simpa using hi
   have hd2:=s2 _ _ hd;refine(ex1 rfl ⟨.inl ⟨rfl,_,SqL.of hp2⟩,rfl,?_⟩);refine(ex1 rfl ⟨_,_,rfl,.inl ⟨_,SqL.of hd2,rfl⟩,ex1 rfl ⟨by lia,by lia,fun D2 hD2=>?_⟩⟩);refine zD9 (fun j σ' H'=>∃(v:Option V) (ys:List Str),σ'=[v,some (.str "abcdefghijklmnopqrstuvwxyz"),some (.ref D),some (.int (0+(i:Int))),some (.int at')] /\ Same H2 H' /\ H' D2=some (.lst (ys.map V.str)) /\ ys.length=j /\ ∀y∈ys,y.length=1) ⟨none,[],rfl,Same.upd hD2,Ã,rfl,fun _ z=>nomatch z⟩ ?_ ?_
   ·rintro j σ' H' hj ⟨v,ys,rfl,s3,hd3,hy,h1⟩;have hj:j<bs.length:=by
     have hj:j<(((bs.map V.int).length:Nat):Int).toNat:=hj;rw[hlen]at hj;simpa using hj
    obtain⟨b,hb⟩:=yX4 (ns:=bs) (k:=0+(j:Int)) (by lia) (by rw[hlen];lia);refine(ex1 rfl (ex1 rfl (ex1 rfl ⟨D,_,_,_,rfl,rfl,SqL.of (s3 _ _ hd2),hb,ex1 rfl (ex1 rfl (ex1 rfl ⟨rfl,.inr (ex1 rfl ⟨_,_,rfl,rfl,Ü 64 (ă (m:=20) (by lia) (by decide)) ?_ (by decide),_,_,rfl,rfl,_,_,rfl,rfl,(show (26:Int)≠0 by decide),?_⟩)⟩))⟩)))
    ·refine ă (m:=1) ?_ (by decide);show (if _ then (1:Int) else 0).natAbs<=1
     split<;>decide
    obtain⟨ch,hch⟩:=yM5 (à (c:=(b+(0+(i:Int))*(if decide (V.int (0+(j:Int))=V.int at')=true then 1 else 0))) (m:=26) (by decide));refine⟨_,_,ch,rfl,rfl,sz (by decide),hch,?_⟩;refine⟨_,hd3,by rw[ą];exact sz (by lia),_,ys++[⟨#[ch]⟩],rfl,s3.updD hD2,?_,by rw[Ĕ,hy];rfl,?_⟩
    ·rw[Ã,ė];rfl
    ·intro y hm;rcases ř.mp hm with z | z
     ·exact h1 y z
     ·have z:=ő.mp z;subst z;rfl
   ·rintro σ' H3 ⟨v,ys,rfl,s3,hd3,hy,h1⟩;have hy:ys.length<=8:=by
     have hy:ys.length=(((bs.map V.int).length:Nat):Int).toNat:=hy;rw[hlen]at hy;simp at hy;lia
    refine⟨_,D2,ys,rfl,rfl,SqL.of hd3,?_,?_⟩
    ·have e:(ys.map (·.length)).sum=ys.length:=by
      have:∀zs:List Str,(∀y∈zs,y.length=1)->(zs.map (·.length)).sum=zs.length:=by
       intro zs
       induction zs with
       | nil=>intro _;rfl
       | cons a t ih =>
        intro h;rw[ľ,List.sum_cons,ih fun y m=>h y (ć _ m),h a Ĉ,ī,Nat.add_comm]
      exact this ys h1
     rw[e];show ys.length+ys.length*0<=_;lia
    have hp3:=s3 _ _ hp2;refine⟨p,_,_,rfl,rfl,hp3,by rw[ą];exact sz (by lia),?_⟩;refine⟨_,zs++[Txt.join "" ys],rfl,(s2.trans s3).updD hp,?_,by rw[Ĕ,hz];rfl⟩;rw[Ã,ė];rfl
  ·rintro σ H2 ⟨v5,zs,rfl,s2,hp2,hz⟩;exact(ex1 rfl (k p H2 zs (s1.trans s2) hp2 hz))
noncomputable abbrev zH0:Stmt:=top 53
theorem sc__law_wine:Ï ["_law_cell","_law_other","_law_names_here","_law_now","_law_wine_here","_law_k","_law_number_here","_law_year","_law_top"] ["_law_cell","_law_other","_law_names_here","_law_now"] (Ç zH0):=scF
theorem zW8 {ca:Ca}(D:DefAt K mg "_law_wine" zH0)(T:Txt K mg ca)(G__law_mixed:FnAt P w K mg base CX0 1 "_law_mixed" ["_law_cell","_law_k"] (spMixed2))(G__law_lowest:FnAt P w K mg base CX0 2 "_law_lowest" ["_law_top","_law_bottom"] (spLowest2)):FnAt P w K mg base CX0 3 "_law_wine" ["_law_cell","_law_other","_law_names_here","_law_now"] (spWine):=by
 refine D.ok sc__law_wine (fun vs H Q E h=>?_) (fun _ _ _ _ _ _ us hl=>match us,hl with | [_,_,_,_],_=>rfl) (fun f cdv A outer s H vs Q E hr h=>?_)
 all_goals obtain⟨c,o,an,zs,now,rfl,hz,hl3,hnow,hc,ho,k⟩:=h
 ·rfl
 ·have nd:=sc__law_wine.nd;refine⟨_,(Ä (Í (i:=4) nd rfl (Or.inl rfl) yE8)
   (Ä (ů PassesOwn.never rfl (ź (by rfl) T.z_range (À (Æ Ø (pv 0) Á) Â)) (Ì (i:=5) nd rfl (Or.inl rfl)) (Ä (Í (i:=6) nd rfl (Or.inl rfl) (pfn G__law_mixed hr (À (Æ è (Æ è (pv 0) (Æ ß Á (pv 5))) (pv 1)) (À (pv 5) Â))))
   (Ä (Í (i:=7) nd rfl (Or.inl rfl) (Ë (zO9 rfl) (by rfl) T.z_max yQ5 (À Á (À (Ë (zO8 rfl) (by rfl) T.z_min yQ4 (À Á (À (Æ ô (pv 3) (Æ Ø (pv 6) Á)) Â))) Â))))
   (Ä (á (Ð ï (Æ Ø (pv 6) Á) Á (Ò _)) (Å (Í (i:=7) nd rfl (Or.inl rfl) (Æ Ø (Æ Ú (pv 1) (Æ è (pv 5) Á)) Á))) Ó)
   (Ä (Í (i:=8) nd rfl (Or.inl rfl) (Æ è Á (Æ Ø (Æ Ú (pv 6) Á) Á)))
   (Ä (á (Ð ï (Æ Ø (pv 6) Á) Á (Ò _)) (Å (Í (i:=8) nd rfl (Or.inl rfl) (Æ è Á (Æ Ø (Æ Ú (pv 1) (Æ è (pv 5) Á)) (Æ ô (Æ xH7 Á Á) Á))))) Ó)
   (Å (xB2 (xO1 hr) (pv 4) (Õ (À (pixL (K:=K) (pv 2) (Æ Ø (Æ Ú (pv 6) Á) Á)) (À (pv 7) Â))) (pfn G__law_lowest hr (À (pv 8) (À (Æ è Á (Æ Ø (Æ Ú (pv 6) Á) Á)) Â))) rfl))))))))
   (Å (É (pv 4))))),?_⟩
  have dd:∀{i d:Int},0<d->d<=1000000->ε i d:=fun h1 h2=>ű (by lia) (ă (m:=1000000) (by lia) (by decide));have qc:=à (c:=c) (m:=4) (by decide);intro d hd;have td:=Same.upd (o:=.dT []) hd;refine(ex1 rfl ⟨_,_,rfl,rfl,(show (4:Int)≠0 by decide),ex1 rfl ⟨by lia,by lia,?_⟩⟩);refine zG3 (fun i σ H1=>∃(v5 v6 v7 v8:Option V) (kvs:List (List Key×V)) (W:List Ent),σ=[some (.int c),some (.int o),some (.ref an),some (.int now),some (.ref d),v5,v6,v7,v8] /\ Same H H1 /\ H1 d=some (.dT kvs) /\ Paired (EnV H1) kvs W /\ (∀e∈W,OkE now e) /\ W.length<=i /\ (1<=i->W≠[])) ⟨none,none,none,none,[],[],rfl,td,Ã,.nil,(fun _ z=>nomatch z),Ć _,fun h=>absurd h (by decide)⟩ ?_ ?_
  ·rintro i σ H1 hi ⟨v5,v6,v7,v8,kvs,W,rfl,s1,h1,hE,okE,lW,neW⟩;have hi:i<4:=by
    have hi:i<(c.fmod 4).toNat:=hi;lia
   have lK:kvs.length=W.length:=hE.length;refine(ex1 rfl (ex1 rfl ⟨_,_,rfl,rfl,Ü 64 (by decide) (ă (m:=10) (by lia) (by decide)) (by decide),_,_,rfl,rfl,ex1 rfl ⟨_,_,rfl,rfl,ex1 rfl (È ?_)⟩⟩));refine spMixed2.mk (Ez:=E0) ⟨by lia,by lia⟩ (fun n H2 n0 n1 s2=>?_);have q30:=à (c:=n) (m:=30) (by decide);refine(ex1 rfl (ex1 rfl ⟨_,_,rfl,rfl,(show (30:Int)≠0 by decide),_,_,rfl,rfl,_,_,rfl,_,_,rfl,?_⟩));have q12:=à (c:=n.fdiv 2) (m:=12) (by decide);have q3:=à (c:=n.fdiv 7) (m:=3) (by decide);have q40:=à (c:=n.fdiv 3) (m:=40) (by decide);have p12:0<1+(n.fdiv 2).fmod 12:=by lia
   have l12:(1+(n.fdiv 2).fmod 12).natAbs<2^9000:=ă (m:=100) (by lia) (by decide);have szk:kvs.length+1<=1000:=by lia
   have d1:0<0+(i:Int)+1 /\ 0+(i:Int)+1<=1000000:=by lia
   have t40:1<=1+(n.fdiv 3).fmod 40 /\ 1+(n.fdiv 3).fmod 40<=1000000000000:=by lia
   have t12:1<=1+(o.fdiv (0+(i:Int)+1)).fmod ((10:Int)^(12:Int).toNat - 1) /\ 1+(o.fdiv (0+(i:Int)+1)).fmod ((10:Int)^(12:Int).toNat - 1)<=1000000000000:=by
    have h:=à (c:=o.fdiv (0+(i:Int)+1)) (m:=(10:Int)^(12:Int).toNat - 1) (by rw[yA6];decide);rw[yA6]at h ⊢;lia
   have hz2:=(s1.trans s2) _ _ hz;obtain⟨nm,hnm⟩:=yW2 (zs:=zs) q3.1 (by rw[hl3];exact q3.2);let y0:Int:=cl (now - n.fmod 30);have hy0:0<=y0 /\ y0<=9999:=xP2 _;refine(ex1 rfl ⟨_,_,rfl,rfl,(show (11:Int)≠0 by decide),rfl,ex1 rfl ?_⟩);refine ite2 (fun _=>?A) (fun _=>?B)
   case' A =>
    refine(ex1 rfl (ex1 rfl ⟨_,_,rfl,rfl,_,_,rfl,rfl,dd (by lia) (by lia),_,_,rfl,rfl,(show (10000:Int)≠0 by decide),?_⟩));let y:Int:=(o.fdiv (0+(i:Int)+3)).fmod 10000;have hy:0<=y /\ y<=9999:=by
     have h:=à (c:=o.fdiv (0+(i:Int)+3)) (m:=10000) (by decide);exact⟨h.1,by have:=h.2;show (o.fdiv (0+(i:Int)+3)).fmod 10000<=9999;lia⟩
   case' B =>
    let y:Int:=y0;have hy:0<=y /\ y<=9999:=hy0
   all_goals
    refine(ex1 rfl ⟨_,_,rfl,rfl,dd (by decide) (by decide),_,_,rfl,rfl,(show (40:Int)≠0 by decide),_,_,rfl,rfl,?_⟩);refine(ex1 rfl ⟨_,_,rfl,rfl,(show (5:Int)≠0 by decide),rfl,ex1 rfl ?_⟩);refine ite2 (fun _=>?_) (fun _=>?_);refine(ex1 rfl (ex1 rfl ⟨_,_,rfl,rfl,_,_,rfl,rfl,dd d1.1 d1.2,_,_,rfl,rfl,⟨by decide,by decide,by decide⟩,_,_,rfl,rfl,_,_,rfl,rfl,(by rw[yA6];show (_:Int)≠0;decide),_,_,rfl,rfl,?_⟩));let tp:Int:=1+(o.fdiv (0+(i:Int)+1)).fmod ((10:Int)^(12:Int).toNat - 1);have htp:1<=tp /\ tp<=1000000000000:=t12
    rotate_left
    let tp:Int:=1+(n.fdiv 3).fmod 40;have htp:1<=tp /\ tp<=1000000000000:=t40
    all_goals
     refine(ex1 rfl (ex1 rfl ⟨_,_,rfl,rfl,dd (by decide) (by decide),_,_,rfl,rfl,(show (12:Int)≠0 by decide),_,_,rfl,rfl,È ?_⟩));refine spLowest2.mk (Ez:=E0) p12 l12 (fun v3 H3 s3 f3=>?_);have hz3:=s3 _ _ hz2;refine(ex1 rfl (ex1 rfl (ex1 rfl ⟨_,_,rfl,rfl,dd (by decide) (by decide),_,_,rfl,rfl,(show (3:Int)≠0 by decide),an,_,_,_,rfl,rfl,SqL.of hz3,hnm,ex1 rfl ⟨szn,fun kb hkb=>?_⟩⟩)));have tk:=Same.upd (o:=.tup [V.str nm,.int y]) hkb;have s14:=s2.trans (s3.trans tk);have h14:=s14 _ _ h1;let e:Ent:=((nm,y),Ċ tp (1+(n.fdiv 2).fmod 12));have hE4:Paired (EnV (upd H3 kb (.tup [V.str nm,.int y]))) kvs W:=Paired.mapP hE fun _ _ f=>⟨f.1,f.2.same s14⟩;obtain⟨W',hW',hm',hl',hn'⟩:=yS6 hE4 e (v:=v3) (f3.same tk);refine⟨d,upd (upd H3 kb (.tup [V.str nm,.int y])) d (.dT (putK kvs (kyL (nm,y)) v3)),rfl,DPut.t (k:=kyL (nm,y)) h14 Ã (sz szk),?_⟩;have tu:∀b ys,upd H3 kb (.tup [V.str nm,.int y]) b=some (.tup ys)->upd (upd H3 kb (.tup [V.str nm,.int y])) d (.dT (putK kvs (kyL (nm,y)) v3)) b=some (.tup ys):=ð h14 (fun _ z=>nomatch z);refine⟨_,_,_,_,_,W',rfl,(s1.trans s14).updD hd,Ã,Paired.mapP hW' fun _ _ f=>⟨f.1,f.2.tup tu⟩,fun x hx=>?_,ĉ hl' (Nat.succ_le_succ lW),fun _=>hn'⟩;rcases hm' x hx with q | q
     ·exact okE x q
     ·rw[q];exact xI3 hnow hy htp q12
  ·rintro σ H1 ⟨v5,v6,v7,v8,kvs,W,rfl,s1,h1,hE,okE,lW,neW⟩;have lW:W.length<=(c.fmod 4).toNat:=lW;have neW:1<=(c.fmod 4).toNat->W≠[]:=neW;exact(ex1 rfl (k d H1 W hd s1 ⟨d,kvs,rfl,h1,hE⟩ ⟨okE,neW (by lia),by lia⟩))
noncomputable abbrev zH1:Stmt:=top 54
theorem sc__law_pick:Ï ["_law_number_here","_law_names_here","_law_now","_law_some","_law_first"] ["_law_number_here","_law_names_here","_law_now"] (Ç zH1):=scF
theorem zW9 {ca:Ca}(D:DefAt K mg "_law_pick" zH1)(T:Txt K mg ca):FnAt P w K mg base CX0 1 "_law_pick" ["_law_number_here","_law_names_here","_law_now"] (yW3):=by
 refine D.ok sc__law_pick (fun vs H Q E h=>?_) (fun _ _ _ _ _ _ us hl=>match us,hl with | [_,_,_],_=>rfl) (fun f cdv A outer s H vs Q E hr h=>?_)
 all_goals obtain⟨n,now,a,zs,rfl,hz,hl,k⟩:=h
 ·rfl
 ·have nd:=sc__law_pick.nd;refine⟨_,(Ä (Í (i:=3) nd rfl (Or.inl rfl) (é (À (Õ (À å (À (pixL (K:=K) (pv 1) (Æ Ø (Æ Ú (pv 0) Á) Á)) Â))) (À (Õ (À å (À (Æ Ø (Æ Ú (pv 0) Á) Á) Â))) (À (Õ (À å (À (Æ ô (Æ Ø (Æ Ú (pv 0) Á) Á) Á) Â))) Â)))))
   (Ä (Í (i:=4) nd rfl (Or.inl rfl) (Ë (zO9 rfl) (by rfl) T.z_max yQ5 (À Á (À (Ë (zO8 rfl) (by rfl) T.z_min yQ4 (À Á (À (Æ ô (pv 2) (Æ Ø (Æ Ú (pv 0) Á) Á)) Â))) Â))))
   (Ä (Ű (Ž (K:=K) rfl PySem.F.plainAttrs_list PySem.F.slot_list_append PySem.F.type_list_append í (pv 3) (À (Õ (À å (À (pv 4) (À (Ë (zO9 rfl) (by rfl) T.z_max yQ5 (À Á (À (Ë (zO8 rfl) (by rfl) T.z_min yQ4 (À Á (À (Æ ô (Æ è (pv 2) (Æ Ø (Æ Ú (pv 0) Á) Á)) Á) Â))) Â))) Â)))) Â)))
   (Ä (Ű (Ž (K:=K) rfl PySem.F.plainAttrs_list PySem.F.slot_list_append PySem.F.type_list_append í (pv 3) (À (Õ (À å (À (pixL (K:=K) (pv 3) (Æ Ø (Æ Ú (pv 0) Á) Á)) Â))) Â)))
   (Ä (Ű (Ž (K:=K) rfl PySem.F.plainAttrs_list PySem.F.slot_list_append PySem.F.type_list_append í (pv 3) (À (Õ (À å (À (pixL (K:=K) (pv 3) (Æ Ø (Æ Ú (pv 0) Á) Á)) (À (pixL (K:=K) (pv 3) Á) Â)))) Â)))
   (Ä (Ű (Ž (K:=K) rfl PySem.F.plainAttrs_list PySem.F.slot_list_append PySem.F.type_list_append í (pv 3) (À (Õ (À å (À (pixL (K:=K) (pv 3) (Æ Ø (Æ Ú (pv 0) Á) Á)) (À (pixL (K:=K) (pv 3) (Æ Ø (Æ Ú (pv 0) Á) Á)) Â)))) Â)))
   (Å (É (pixL (K:=K) (pv 3) (Æ Ø (pv 0) Á)))))))))),?_⟩
  have dd:∀{i d:Int},0<d->d<=1000000->ε i d:=fun h1 h2=>ű (by lia) (ă (m:=1000000) (by lia) (by decide));have q3:=à (c:=n.fdiv 8) (m:=3) (by decide);obtain⟨z,hat⟩:=yW2 (zs:=zs) q3.1 (by lia);refine(ex1 rfl (ex1 rfl ⟨_,_,rfl,rfl,dd (by decide) (by decide),_,_,rfl,rfl,(show (3:Int)≠0 by decide),a,_,_,_,rfl,rfl,SqL.of hz,hat,szn,fun p1 hp1=>?_⟩));refine(ex1 rfl ⟨_,_,rfl,rfl,dd (by decide) (by decide),_,_,rfl,rfl,(show (30:Int)≠0 by decide),szn,fun p2 hp2=>?_⟩);refine(ex1 rfl ⟨_,_,rfl,rfl,dd (by decide) (by decide),_,_,rfl,rfl,(show (20001:Int)≠0 by decide),_,_,rfl,rfl,szn,fun p3 hp3=>?_⟩);refine⟨szn,fun p hp4=>?_⟩;have sA:=Same.upd (o:=.tup [.str "name",.str z]) hp1;have sB:=Same.upd (o:=.tup [.str "old",.int ((n.fdiv 8).fmod 30)]) hp2;have sC:=Same.upd (o:=.tup [.str "old",.int ((n.fdiv 8).fmod 20001 - 5000)]) hp3;have sD:=Same.upd (o:=.lst [.ref p1,.ref p2,.ref p3]) hp4;have hp:H p=none:=by
   cases e:H p with
   | none=>rfl
   | some u=>rw[sC _ _ (sB _ _ (sA _ _ e))]at hp4;cases hp4
  have L0:PL H _ p [.ref p1,.ref p2,.ref p3] 3 1:=⟨sA.trans (sB.trans (sC.trans sD)),Ã,rfl,fun v hv=>by
   simp at hv;rcases hv with rfl | rfl | rfl
   ·exact PkV.name (sD _ _ (sC _ _ (sB _ _ Ã)))
   ·exact PkV.old (sD _ _ (sC _ _ Ã))
   ·exact PkV.old (sD _ _ Ã)⟩
  refine(ex1 rfl (ex1 rfl ⟨_,_,rfl,rfl,dd (by decide) (by decide),_,_,rfl,rfl,(show (25:Int)≠0 by decide),_,_,rfl,rfl,_,_,rfl,_,_,rfl,?_⟩));refine(ex1 rfl ⟨.inl ⟨rfl,_,SqL.of L0.here⟩,ex1 rfl (ex1 rfl (ex1 rfl ⟨_,_,rfl,rfl,dd (by decide) (by decide),_,_,rfl,rfl,(show (3:Int)≠0 by decide),_,_,rfl,rfl,_,_,rfl,rfl,_,_,rfl,_,_,rfl,szn,fun p4 hq4=>?_⟩))⟩);refine⟨p,_,_,rfl,rfl,(Same.upd hq4) _ _ L0.here,szn,?_⟩;let f1:Int:=cl (now - (n.fdiv 8).fmod 25);let f2:Int:=cl (now+(n.fdiv 200).fmod 3 - 1);have L1:=L0.snoc (o:=.tup [.str "years",.int f1,.int f2]) hp hq4 (Ć 1) fun H' h _=>PkV.years h;have g4:=à (c:=n.fdiv 16) (m:=4) (by decide);obtain⟨v1,m1,e1⟩:=L1.get g4.1 g4.2;refine(ex1 rfl ⟨.inl ⟨rfl,_,SqL.of L1.here⟩,ex1 rfl (ex1 rfl ⟨_,_,rfl,rfl,dd (by decide) (by decide),_,_,rfl,rfl,(show (4:Int)≠0 by decide),p,_,_,_,rfl,rfl,SqL.of L1.here,e1,szn,fun p5 hq5=>?_⟩)⟩);refine⟨p,_,_,rfl,rfl,(Same.upd hq5) _ _ L1.here,by rw[L1.len];exact sz (by decide),?_⟩;have L2:=L1.snoc hp hq5 (Nat.le_succ 1) fun H' h al=>PkV.nay h (al _ m1);have g5:=à (c:=n.fdiv 16) (m:=5) (by decide);obtain⟨v2,m2,e2⟩:=L2.get g5.1 g5.2;obtain⟨v3,m3,e3⟩:=L2.get (k:=1) (by decide) (by decide);refine(ex1 rfl ⟨.inl ⟨rfl,_,SqL.of L2.here⟩,ex1 rfl (ex1 rfl ⟨_,_,rfl,rfl,dd (by decide) (by decide),_,_,rfl,rfl,(show (5:Int)≠0 by decide),p,_,_,_,rfl,rfl,SqL.of L2.here,e2,ex1 rfl ⟨p,_,_,_,rfl,rfl,SqL.of L2.here,e3,szn,fun p6 hq6=>?_⟩⟩)⟩);refine⟨p,_,_,rfl,rfl,(Same.upd hq6) _ _ L2.here,by rw[L2.len];exact sz (by decide),?_⟩;have L3:=L2.snoc hp hq6 (Nat.le_succ 2) fun H' h al=>PkV.both h (al _ m2) (al _ m3);have g6:=à (c:=n.fdiv 64) (m:=6) (by decide);obtain⟨v4,m4,e4⟩:=L3.get (k:=(n.fdiv 16).fmod 4) g4.1 (by lia);obtain⟨v5,m5,e5⟩:=L3.get g6.1 g6.2;refine(ex1 rfl ⟨.inl ⟨rfl,_,SqL.of L3.here⟩,ex1 rfl (ex1 rfl ⟨_,_,rfl,rfl,dd (by decide) (by decide),_,_,rfl,rfl,(show (4:Int)≠0 by decide),p,_,_,_,rfl,rfl,SqL.of L3.here,e4,ex1 rfl (ex1 rfl ⟨_,_,rfl,rfl,dd (by decide) (by decide),_,_,rfl,rfl,(show (6:Int)≠0 by decide),p,_,_,_,rfl,rfl,SqL.of L3.here,e5,szn,fun p7 hq7=>?_⟩)⟩)⟩);refine⟨p,_,_,rfl,rfl,(Same.upd hq7) _ _ L3.here,by rw[L3.len];exact sz (by decide),?_⟩;have L4:=L3.snoc hp hq7 (Nat.le_succ 3) fun H' h al=>PkV.one h (al _ m4) (al _ m5);have g7:=à (c:=n) (m:=7) (by decide);obtain⟨v6,m6,e6⟩:=L4.get g7.1 g7.2;exact(ex1 rfl (ex1 rfl ⟨_,_,rfl,rfl,(show (7:Int)≠0 by decide),p,_,_,_,rfl,rfl,SqL.of L4.here,e6,k _ _ L4.same (L4.all _ m6)⟩))
noncomputable abbrev zA9:Stmt:=top 55
theorem sc__law_condition:Ï ["_law_cell","_law_names_here","_law_now","_law_number_here","_law_bottom","_law_share"] ["_law_cell","_law_names_here","_law_now"] (Ç zA9):=scF
theorem zK4 {ca:Ca}(D:DefAt K mg "_law_condition" zA9)(T:Txt K mg ca)(G__law_mixed:FnAt P w K mg base CX0 1 "_law_mixed" ["_law_cell","_law_k"] (spMixed2))(G__law_lowest:FnAt P w K mg base CX0 2 "_law_lowest" ["_law_top","_law_bottom"] (spLowest2))(G__law_pick:FnAt P w K mg base CX0 1 "_law_pick" ["_law_number_here","_law_names_here","_law_now"] (yW3)):FnAt P w K mg base CX0 3 "_law_condition" ["_law_cell","_law_names_here","_law_now"] (spCond2):=by
 refine D.ok sc__law_condition (fun vs H Q E h=>?_) (fun _ _ _ _ _ _ us hl=>match us,hl with | [_,_,_],_=>rfl) (fun f cdv A outer s H vs Q E hr h=>?_)
 all_goals obtain⟨c,now,a,zs,rfl,hz,hl,k⟩:=h
 ·rfl
 ·have nd:=sc__law_condition.nd;refine⟨_,(Ä (Í (i:=3) nd rfl (Or.inl rfl) (pfn G__law_mixed hr (À (pv 0) (À Á Â))))
   (Ä (Í (i:=4) nd rfl (Or.inl rfl) (Æ è Á (Æ Ø (Æ Ú (pv 3) Á) Á)))
   (Ä (Í (i:=5) nd rfl (Or.inl rfl) (pfn G__law_lowest hr (À (Æ Ø (Æ Ú (pv 3) Á) (Æ è (pv 4) Á)) (À (pv 4) Â))))
   (Ä (á (Ð ï (Æ Ø (pv 3) Á) Á (Ò _)) (Å (É (Õ (À å (À (pfn G__law_lowest hr (À (Æ ô (Æ Ø (Æ Ú (pv 3) Á) Á) Á) (À (Æ è Á (Æ Ø (Æ Ú (pv 3) Á) Á)) Â))) Â))))) Ó)
   (Å (É (Õ (À (pixL (K:=K) (é (À å (À å Â))) (Æ Ø (pv 3) Á)) (À (pv 5) (À (pfn G__law_pick hr (À (pfn G__law_mixed hr (À (pv 0) (À Á Â))) (À (pv 1) (À (pv 2) Â)))) Â)))))))))),?_⟩
  have dd:∀{i d:Int},0<d->d<=1000000->ε i d:=fun h1 h2=>ű (by lia) (ă (m:=1000000) (by lia) (by decide));refine(ex1 rfl ⟨c,0,rfl,⟨by decide,by decide⟩,fun n H1 n0 n1 s1=>?_⟩);refine(ex1 rfl ⟨_,_,rfl,rfl,dd (by decide) (by decide),_,_,rfl,rfl,(show (20:Int)≠0 by decide),_,_,rfl,rfl,?_⟩);have hb:0<1+(n.fdiv 3).fmod 20 /\ 1+(n.fdiv 3).fmod 20<=20:=by
   have:=à (c:=n.fdiv 3) (m:=20) (by decide);lia
  let b:Int:=1+(n.fdiv 3).fmod 20;let t:Int:=n.fdiv 60;have hb:0<b /\ b<=20:=hb;have qt:=à (c:=t) (m:=b+1) (by lia);have bb:∀{x:Int},x.natAbs<=1000000000000->x.natAbs<2^200:=fun h=>ă h (by decide);have b90:∀{x:Int},x.natAbs<=1000000000000->x.natAbs<2^9000:=fun h=>Ă (bb h) (Þ (by decide));have hbn:b≠0:=by lia
  have hbb:b.natAbs<=1000000000000:=by lia
  have htt:(t.fmod (b+1)).natAbs<=60:=by lia
  have htb:(t.fmod (b+1)).natAbs<=1000000000000:=ĉ htt (by decide);have okt:OkR (Ċ (t.fmod (b+1)) b):=okR hb.1 hb.2 htt;refine(ex1 rfl ⟨_,_,rfl,rfl,dd (by decide) (by decide),ex1 rfl ⟨_,_,rfl,rfl,_,_,rfl,rfl,(show b+1≠0 by lia),ex1 rfl ⟨t.fmod (b+1),b,rfl,hb.1,b90 hbb,fun v2 H2 s2 f2=>?_⟩⟩⟩);refine(ex1 rfl ⟨_,_,rfl,rfl,(show (3:Int)≠0 by decide),rfl,ex1 rfl ?_⟩);have q3:=à (c:=n) (m:=3) (by decide);have bs:Bd 200 (Ċ (t.fmod (b+1)) b):=Bd.divInt hbn (bb htb) (bb hbb);refine ite2 (fun _=>?_) (fun hne=>?_)
  ·have q60:=à (c:=n.fdiv 3) (m:=60) (by decide);have q6:=à (c:=n.fdiv 180) (m:=6) (by decide);have x1:((n.fdiv 3).fmod 60 - 10).natAbs<=60:=by lia
   have x2:0<1+(n.fdiv 180).fmod 6:=by lia
   have x3:1+(n.fdiv 180).fmod 6<=20:=by lia
   have x4:(1+(n.fdiv 180).fmod 6).natAbs<=1000000000000:=by lia
   have x5:1+(n.fdiv 180).fmod 6≠0:=by lia
   refine(ex1 rfl ⟨_,_,rfl,rfl,dd (by decide) (by decide),_,_,rfl,rfl,(show (60:Int)≠0 by decide),_,_,rfl,rfl,ex1 rfl ⟨_,_,rfl,rfl,dd (by decide) (by decide),_,_,rfl,rfl,(show (6:Int)≠0 by decide),_,_,rfl,rfl,(n.fdiv 3).fmod 60 - 10,1+(n.fdiv 180).fmod 6,rfl,x2,b90 x4,fun v3 H3 s3 f3=>?_⟩⟩);refine⟨szn,fun p hp=>?_⟩;exact k _ _ (.mean _) (s1.trans (s2.trans (s3.trans (Same.upd hp)))) ⟨p,v3,rfl,Ã,f3.upd hp⟩ (Bd.divInt x5 (bb (ĉ x1 (by decide))) (bb x4)) (okR x2 x3 x1)
  ·have hne:¬decide (V.int (n.fmod 3)=V.int 2)=true:=hne;have hne:n.fmod 3≠2:=fun e=>hne (decide_eq_true (by rw[e]));refine⟨szn,fun p hp=>?_⟩;have sp1:=Same.upd (o:=.lst [.str "least",.str "most"]) hp;have h01:n.fmod 3=0 \/ n.fmod 3=1:=by lia
   rcases h01 with e | e
   ·refine(ex1 rfl ⟨_,_,rfl,rfl,(show (3:Int)≠0 by decide),p,_,_,.str "least",rfl,rfl,SqL.of Ã,by rw[e];rfl,ex1 rfl (ex1 rfl ⟨c,1,rfl,⟨by decide,by decide⟩,fun m H3 m0 m1 s3=>?_⟩)⟩);have s13:=s1.trans (s2.trans (sp1.trans s3));refine(ex1 rfl (ex1 rfl ⟨m,now,a,zs,rfl,s13 _ _ hz,hl,fun v4 H4 s4 ⟨pk,r4,l4⟩=>⟨szn,fun p5 hp5=>?_⟩⟩));exact k _ _ (.least _ pk) (s13.trans (s4.trans (Same.upd hp5))) ⟨p5,v2,v4,rfl,Ã,f2.same (sp1.trans (s3.trans (s4.trans (Same.upd hp5)))),r4.same (Same.upd hp5),l4⟩ bs okt
   ·refine(ex1 rfl ⟨_,_,rfl,rfl,(show (3:Int)≠0 by decide),p,_,_,.str "most",rfl,rfl,SqL.of Ã,by rw[e];rfl,ex1 rfl (ex1 rfl ⟨c,1,rfl,⟨by decide,by decide⟩,fun m H3 m0 m1 s3=>?_⟩)⟩);have s13:=s1.trans (s2.trans (sp1.trans s3));refine(ex1 rfl (ex1 rfl ⟨m,now,a,zs,rfl,s13 _ _ hz,hl,fun v4 H4 s4 ⟨pk,r4,l4⟩=>⟨szn,fun p5 hp5=>?_⟩⟩));exact k _ _ (.most _ pk) (s13.trans (s4.trans (Same.upd hp5))) ⟨p5,v2,v4,rfl,Ã,f2.same (sp1.trans (s3.trans (s4.trans (Same.upd hp5)))),r4.same (Same.upd hp5),l4⟩ bs okt
noncomputable abbrev zF0:Stmt:=top 56
theorem sc__law_units:Ï ["_law_amount"] ["_law_amount"] (Ç zF0):=scF
theorem zT2 {ca:Ca}(D:DefAt K mg "_law_units" zF0)(T:Txt K mg ca):FnAt P w K mg base CX0 1 "_law_units" ["_law_amount"] (spUnits):=by
 refine D.ok sc__law_units (fun vs H Q E h=>?_) (fun _ _ _ _ _ _ us hl=>match us,hl with | [_],_=>rfl) (fun f cdv A outer s H vs Q E hr h=>?_)
 all_goals obtain⟨_,r,rfl,⟨a,rfl,ha⟩,br,k⟩:=h
 ·rfl
 ·have nd:=sc__law_units.nd;refine⟨_,(Å (É (Æ ß (pixT (K:=K) (pv 0) Á) (Æ Ú Á (pixT (K:=K) (pv 0) Á))))),?_⟩;have d:=Î r;refine⟨_,rfl,a,_,_,_,rfl,rfl,SqT.of ha,rfl,_,rfl,a,_,_,_,rfl,rfl,SqT.of ha,rfl,_,_,rfl,rfl,ű (by lia) (Ă br.den (Þ (by decide))),_,_,rfl,rfl,Ü 100 br.num ?_ (by decide),k⟩;have h1:=natAbs_fdiv_le (27720:Int) r.den;have e2:(27720:Int).natAbs=27720:=rfl;exact ă (show ((27720:Int).fdiv r.den).natAbs<=30000 by lia) (by decide)
noncomputable abbrev zF5:Stmt:=top 57
theorem sc__law_offer:Ï ["_law_script","_law_at","_law_names_here","_law_now","_law_offer_here","_law_k","_law_cell","_law_other","_law_wine_here","_law_price"] ["_law_script","_law_at","_law_names_here","_law_now"] (Ç zF5):=scF
theorem zT7 {ca:Ca}(D:DefAt K mg "_law_offer" zF5)(T:Txt K mg ca)(G__law_cell_at:FnAt P w K mg base CX0 1 "_law_cell_at" ["_law_script","_law_k"] (yE2 K))(G__law_wine:FnAt P w K mg base CX0 3 "_law_wine" ["_law_cell","_law_other","_law_names_here","_law_now"] (spWine))(G__law_lowest:FnAt P w K mg base CX0 2 "_law_lowest" ["_law_top","_law_bottom"] (spLowest2))(G__law_mixed:FnAt P w K mg base CX0 1 "_law_mixed" ["_law_cell","_law_k"] (spMixed2)):FnAt P w K mg base CX0 4 "_law_offer" ["_law_script","_law_at","_law_names_here","_law_now"] (spOff4 K):=by
 refine D.ok sc__law_offer (fun vs H Q E h=>?_) (fun _ _ _ _ _ _ us hl=>match us,hl with | [_,_,_,_],_=>rfl) (fun f cdv A outer s H vs Q E hr h=>?_)
 all_goals obtain⟨a,ns,at',an,zs,now,rfl,hS,a0,a1,hz,hl3,hnow,k⟩:=h
 ·rfl
 ·have nd:=sc__law_offer.nd;refine⟨_,(Ä (Í (i:=4) nd rfl (Or.inl rfl) (é Â))
   (Ä (ů PassesOwn.never rfl (ź (by rfl) T.z_range (À (Æ è Á (Æ Ø (pfn G__law_cell_at hr (À (pv 0) (À (pv 1) Â))) Á)) Â)) (Ì (i:=5) nd rfl (Or.inl rfl)) (Ä (Í (i:=6) nd rfl (Or.inl rfl) (pfn G__law_cell_at hr (À (pv 0) (À (Æ è (Æ è (pv 1) Á) (Æ ß Á (pv 5))) Â))))
   (Ä (Í (i:=7) nd rfl (Or.inl rfl) (pfn G__law_cell_at hr (À (pv 0) (À (Æ è (Æ è (pv 1) Á) (Æ ß Á (pv 5))) Â))))
   (Ä (Í (i:=8) nd rfl (Or.inl rfl) (pfn G__law_wine hr (À (Æ è (Æ è (Æ ß (Æ Ú (pv 6) Á) Á) Á) (Æ Ø (pv 6) Á)) (À (Æ Ø (pv 7) Á) (À (pv 2) (À (pv 3) Â))))))
   (Ä (Í (i:=9) nd rfl (Or.inl rfl) (pfn G__law_lowest hr (À (Æ Ø (pfn G__law_mixed hr (À (pv 7) (À Á Â))) Á) (À (Æ è Á (Æ Ø (pfn G__law_mixed hr (À (pv 7) (À Á Â))) Á)) Â))))
   (Å (Ű (Ž (K:=K) rfl PySem.F.plainAttrs_list PySem.F.slot_list_append PySem.F.type_list_append í (pv 4) (À (Õ (À (pv 8) (À (pv 9) Â))) Â)))))))))
   (Å (É (pv 4))))),?_⟩
  refine cutS fun nX eX=>?_;have dd:∀{i d:Int},0<d->d<=1000000->ε i d:=fun h1 h2=>ű (by lia) (ă (m:=1000000) (by lia) (by decide));refine⟨szn,fun p hp=>?_⟩;have tp:=Same.upd (o:=.lst []) hp;refine stpS eX fun nX eX=>?_;refine(ex1 rfl (ex1 rfl ⟨a,ns,at',rfl,tp.seq hS,a0,fun c0=>(hI (show (4:Int)≠0 by decide) (gJ (ex1 rfl ⟨?_,?_,?_⟩)))⟩))
  ·have:=à (c:=c0) (m:=4) (by decide);lia
  ·have:=à (c:=c0) (m:=4) (by decide);lia
  have q4:=à (c:=c0) (m:=4) (by decide);refine zG3 (fun i σ H1=>∃(v5 v6 v7 v8 v9:Option V) (os:List V) (zz:List Zz),σ=[some (.ref a),some (.int at'),some (.ref an),some (.int now),some (.ref p),v5,v6,v7,v8,v9] /\ Same H H1 /\ H1 p=some (.lst os) /\ Paired (OfP H1) os zz /\ (∀z∈zz,OkW now z.1 /\ PrOk z.2) /\ zz.length=i) ⟨none,none,none,none,none,[],[],rfl,tp,Ã,.nil,(fun _ z=>nomatch z),rfl⟩ ?_ ?_
  ·rintro i σ H1 hi ⟨v5,v6,v7,v8,v9,os,zz,rfl,s1,h1,hO,okW,lW⟩;have hi:i<4:=by
    have hi:i<(1+c0.fmod 4).toNat:=hi;lia
   have lO:os.length=zz.length:=hO.length;have hS1:=s1.seq hS;have m2:IntMulOk 2 (0+(i:Int)):=Ü 64 (by decide) (ă (m:=10) (by lia) (by decide)) (by decide);refine(ex1 rfl (ex1 rfl (hJ (ex1 rfl (gI m2 (gJ ⟨a,ns,at'+1+2*(0+(i:Int)),rfl,hS1,by lia,fun c=>?_⟩))))));refine(ex1 rfl (ex1 rfl (hJ (ex1 rfl (gI m2 (gJ ⟨a,ns,at'+2+2*(0+(i:Int)),rfl,hS1,by lia,fun o=>?_⟩))))));have q3:=à (c:=c) (m:=3) (by decide);have q1000:=à (c:=o) (m:=1000) (by decide);have hz1:=s1 _ _ hz;have c4:1<=(c.fdiv 3*4+1+c.fmod 3).fmod 4:=by
    rw[Int.fmod_eq_emod_of_nonneg _ (by decide)];lia
   refine(ex1 rfl (hI (dd (by decide) (by decide)) (hI (IntMulOk.of_right (by decide)) (hJ (ex1 rfl (hI (show (3:Int)≠0 by decide) (gJ (ex1 rfl (hI (show (1000:Int)≠0 by decide) (ex1 rfl (ex1 rfl (È ?_))))))))))));refine spWine.mk (Ez:=E0) hz1 hl3 hnow c4 q1000 (fun d H2 W hd s2 wv ok=>?_);refine(ex1 rfl ⟨o,2,rfl,⟨by decide,by decide⟩,fun m2' H3 m20 m21 s3=>(hI (show (25:Int)≠0 by decide) (ex1 rfl ⟨o,3,rfl,⟨by decide,by decide⟩,fun m3 H4 m30 m31 s4=>(hI (show (3:Int)≠0 by decide) (gJ ?_))⟩))⟩);have qm:=à (c:=m3) (m:=3) (by decide);have qm2:=à (c:=m2') (m:=25) (by decide);refine(È ?_);refine spLowest2.mk (Ez:=E0) (by lia) (ă (m:=10) (by lia) (by decide)) (fun v5' H5 s5 f5=>?_);have s25:=s3.trans (s4.trans s5);have s15:=s2.trans s25;have h15:=s15 _ _ h1;refine(ex1 rfl ⟨.inl ⟨rfl,_,SqL.of h15⟩,ex1 rfl (ex1 rfl ⟨szn,fun q hq=>?_⟩)⟩);have tq:=Same.upd (o:=.tup [V.ref d,v5']) hq;have h16:=tq _ _ h15;refine⟨p,_,_,rfl,rfl,h16,sz (by lia),?_⟩;have s26:=s25.trans tq;have s16:=s15.trans tq;have up:∀{v:V} {W:Zz},OfP (upd H5 q (.tup [V.ref d,v5'])) v W->OfP (upd (upd H5 q (.tup [V.ref d,v5'])) p (.lst (os++[.ref q]))) v W:=by
    rintro v W ⟨b,w,pr,e,hb,⟨d',kvs,e2,hd',hE⟩,fp⟩;have tu:=ð (o:=.lst (os++[.ref q])) h16 (fun _ z=>nomatch z);exact⟨b,w,pr,e,tu _ _ hb,⟨d',kvs,e2,by rw[upd_ne (zU2 hd' h16 (by intro z;cases z))];exact hd',Paired.mapP hE fun _ _ f=>⟨f.1,f.2.tup tu⟩⟩,fp.tup tu⟩
   refine⟨_,_,_,_,_,os++[.ref q],zz++[(W,Ċ (m2'.fmod 25) (1+m3.fmod 3))],rfl,(s1.trans s16).updD hp,Ã,Paired.snoc (Paired.mapP hO fun _ _ f=>up (f.same s16)) (up ⟨q,_,_,rfl,Ã,wv.same s26,f5.same tq⟩),fun X hX=>?_,by rw[Ĕ,lW];rfl⟩;rcases ř.mp hX with e | e
   ·exact okW X e
   ·rw[ő.mp e];exact⟨ok,prOk qm2 (by lia) (by lia)⟩
  ·rintro σ H1 ⟨v5,v6,v7,v8,v9,os,zz,rfl,s1,h1,hO,okW,lW⟩;have lW:zz.length=(1+c0.fmod 4).toNat:=lW;subst eX;exact(ex1 rfl (k p H1 os zz hp s1 h1 hO okW (by lia) (by lia)))
noncomputable abbrev zF2:Stmt:=top 58
theorem sc__law_total:Ï ["_law_wine_here"] ["_law_wine_here"] (Ç zF2):=scF
theorem zT4 {ca:Ca}(D:DefAt K mg "_law_total" zF2)(T:Txt K mg ca)(G__law_units:FnAt P w K mg base CX0 1 "_law_units" ["_law_amount"] (spUnits)):FnAt P w K mg base CX0 2 "_law_total" ["_law_wine_here"] (spLTot):=by
 refine D.ok sc__law_total (fun vs H Q E h=>?_) (fun _ _ _ _ _ _ us hl=>match us,hl with | [_],_=>rfl) (fun f cdv A outer s H vs Q E hr h=>?_)
 all_goals obtain⟨_,now,W,rfl,⟨d,kvs,rfl,hd,hE⟩,ok,k⟩:=h
 ·rfl
 ·have nd:=sc__law_total.nd;refine⟨_,(Å (É (Ë (zO7 (K:=K) rfl rfl) (by rfl) T.z_sum yQ3 (À (yL3 (ò ["_law_lot","_law_amount"] [] [] rfl (by rfl) (zS0 (zS1 (K:=K) rfl PySem.F.plainAttrs_dict PySem.F.slot_dict_items PySem.F.type_dict_items zU4 (pv 0))) (fun _ _ _ _=>(ì (K:=K) (n:=2) (by rfl) (by rfl) (Ñ (Ì (i:=0) (show List.Nodup (["_law_lot","_law_amount"]:List Str) from by decide) rfl (Or.inl rfl) (hf:=Or.inr (by rfl))) (Ñ (Ì (i:=1) (show List.Nodup (["_law_lot","_law_amount"]:List Str) from by decide) rfl (Or.inl rfl) (hf:=Or.inr (by rfl))) ë)))) (fun _ _ _ _=>ã) (fun _ _ _ _=>(pfn G__law_units hr (À (pv 1) Â))))) Â)))),?_⟩;refine⟨d,_,hd,rfl,?_⟩;refine(ex1 rfl ⟨.inr (.inr (.inl ⟨rfl,.inr ⟨_,hd⟩⟩)),d,ex1 rfl ⟨rfl,hd,rfl,fun pv hpv=>?_⟩⟩);have t1:=Same.upd (o:=η pv d) hpv;refine⟨pv,d,ex1 rfl ⟨Ã,t1 _ _ hd,rfl,fun o ps hps D hD=>?_⟩⟩;have hps:Paired (fun kv p=>∃b,p=(V.ref b,kv.2) /\ upd H pv (η pv d) b=some (.tup (kv.1.map kV))) kvs ps:=hps;have lps:ps.length=W.length:=by rw[<- hps.length,hE.length]
  have hd1:=t1 _ _ hd;have hE1:Paired (EnV (upd H pv (η pv d))) kvs W:=Paired.mapP hE fun _ _ f=>⟨f.1,f.2.same t1⟩;generalize upd H pv (η pv d)=H1 at *;have notd:∀{b:Addr} {zs:List V},H1 b=some (.tup zs)->b≠d:=fun e=>zU2 e hd1 (by intro z;cases z);have nDd:D≠d:=fun e=>by rw[e,Ã]at hD;cases hD
  have hD1:H1 D=none:=by rw[upd_ne nDd]at hD;exact hD
  refine zP1 (fun i σ' H2=>∃(v0 v1:Option V),σ'=[v0,v1] /\ H2 d=some (.frz o (.dT kvs)) /\ (∀b ob,H1 b=some ob->b≠d->H2 b=some ob) /\ H2 D=some (.lst (((W.take i).map fun e=>unZ e.2).map V.int))) ?_ ?_ ?_ ?_
  ·refine⟨none,none,rfl,by rw[upd_ne nDd.symm];exact Ã,fun b ob e n=>?_,Ã⟩;rw[upd_ne (ê e hD1),upd_ne n];exact e
  ·rintro i σ' H2 ⟨_,_,_,h,_⟩;exact h
  ·rintro i k' a' T σ' H2 hk ⟨v0,v1,rfl,hfz,kp,hD2⟩ hT;obtain⟨b,e,rfl,hb,he,fa⟩:=yL0 hps hE1 hk;have ti:=Same.upd (o:=.tup [V.ref b,a']) hT;have kt:∀x zs,H1 x=some (.tup zs)->upd H2 T (.tup [V.ref b,a']) x=some (.tup zs):=fun x zs e=>ti _ _ (kp _ _ e (notd e));have oke:=ok.all e (đ he);have hil:i<W.length:=(Ą.mp he).1;have l3:=ok.len;refine⟨T,ex1 rfl ⟨SqT.of Ã,rfl,_,_,rfl,_,_,rfl,rfl,?_⟩⟩;refine(ex1 rfl (È ?_));refine spUnits.mk (Ez:=E0) (fa.tup kt) oke.bd ?_;have hD3:=ti _ _ hD2;refine⟨_,hD3,by rw[ą,ą,Ĥ];exact sz (by lia),_,_,rfl,by rw[upd_ne nDd.symm];exact ti _ _ hfz,fun x ob ex n=>?_,?_⟩
   ·rw[upd_ne (ê ex hD1)];exact ti _ _ (kp x ob ex n)
   ·have ew:W.take (i+1)=W.take i++[e]:=by rw[Ŋ,he];rfl
    rw[Ã,ew,ė,ė];rfl
  ·rintro σ' H2 ⟨v0,v1,rfl,hfz,kp,hD2⟩;rw[lps,ŏ]at hD2;have sH:Same H (upd H2 d (.dT kvs)):=fun x ob ex=>by
    by_cases z:x=d
    ·subst z;rw[Ã];rw[hd]at ex;exact ex
    ·rw[upd_ne z];exact kp _ _ (t1 _ _ ex) z
   refine⟨o,_,hfz,D,ex1 rfl ⟨SqL.of (by rw[upd_ne nDd];exact hD2),k _ sH⟩⟩
noncomputable abbrev zF9:Stmt:=top 59
theorem sc__law_label:Ï ["_law_script","_law_at","_law_most","_law_names_here","_law_now","_law_many"] ["_law_script","_law_at","_law_most","_law_names_here","_law_now"] (Ç zF9):=scF
theorem zU1 {ca:Ca}(D:DefAt K mg "_law_label" zF9)(T:Txt K mg ca)(G__law_cell_at:FnAt P w K mg base CX0 1 "_law_cell_at" ["_law_script","_law_k"] (yE2 K))(G__law_condition:FnAt P w K mg base CX0 3 "_law_condition" ["_law_cell","_law_names_here","_law_now"] (spCond2)):FnAt P w K mg base CX0 4 "_law_label" ["_law_script","_law_at","_law_most","_law_names_here","_law_now"] (spLab2 K):=by
 refine D.ok sc__law_label (fun vs H Q E h=>?_) (fun _ _ _ _ _ _ us hl=>match us,hl with | [_,_,_,_,_],_=>rfl) (fun f cdv A outer s H vs Q E hr h=>?_)
 all_goals obtain⟨a,ns,at',ms,an,zs,now,rfl,hS,a0,a1,m0,m5,hz,hl3,k⟩:=h
 ·rfl
 ·have nd:=sc__law_label.nd;refine⟨_,(Ä (Í (i:=5) nd rfl (Or.inl rfl) (Æ Ø (pfn G__law_cell_at hr (À (pv 0) (À (pv 1) Â))) (Æ è (pv 2) Á)))
   (Å (É (ò ["_law_k"] ["_law_names_here","_law_now","_law_script","_law_at"] [3,4,0,1] rfl (by rfl) (ź (by rfl) T.z_range (À (pv 5) Â)) (fun _ _ _ _=>(Ì (i:=0) (show List.Nodup (["_law_k","_law_names_here","_law_now","_law_script","_law_at"]:List Str) from by decide) rfl (Or.inl rfl))) (fun _ _ _ _=>ã) (fun _ _ _ _=>(pfn G__law_condition hr (À (Æ Ú (pfn G__law_cell_at hr (À (pv 3) (À (Æ è (pv 4) (pv 0)) Â))) Á) (À (pv 1) (À (pv 2) Â))))))))),?_⟩
  have dd:∀{i d:Int},0<d->d<=1000000->ε i d:=fun h1 h2=>ű (by lia) (ă (m:=1000000) (by lia) (by decide));refine(ex1 rfl (ex1 rfl ⟨a,ns,at',rfl,hS,a0,fun c0=>(ex1 rfl ⟨_,_,rfl,rfl,_,_,rfl,rfl,(show ms+1≠0 by lia),?_⟩)⟩));have q6:=à (c:=c0) (m:=ms+1) (by lia);refine(ex1 rfl (ex1 rfl ⟨by lia,by lia,fun D hD=>?_⟩));refine zD9 (fun i σ' H'=>∃(v:Option V) (ls:List V) (cs:List Cond),σ'=[v,some (.ref an),some (.int now),some (.ref a),some (.int at')] /\ Same H H' /\ H' D=some (.lst ls) /\ Paired (CdV H') ls cs /\ cs.length=i /\ ∀c∈cs,OkR c.rat) ⟨none,[],[],rfl,Same.upd hD,Ã,.nil,rfl,fun _ z=>nomatch z⟩ ?_ ?_
  ·rintro i σ' H' hi ⟨v,ls,cs,rfl,s1,hd,hC,lC,okc⟩;have hi:i<6:=by
    have hi:i<(c0.fmod (ms+1)).toNat:=hi;lia
   have lL:ls.length=cs.length:=hC.length;refine(ex1 rfl (ex1 rfl (ex1 rfl ⟨_,_,rfl,rfl,a,ns,at'+(0+(i:Int)),rfl,s1.seq hS,by lia,fun c=>⟨_,_,rfl,rfl,dd (by decide) (by decide),ex1 rfl (ex1 rfl (È ?_))⟩⟩)));refine spCond2.mk (Ez:=E0) (s1 _ _ hz) hl3 (fun v2 H2 cc s2 rc bc oc=>?_);have hd2:=s2 _ _ hd;have tu:=ð (o:=.lst (ls++[v2])) hd2 (fun _ z=>nomatch z);refine⟨_,hd2,sz (by lia),_,ls++[v2],cs++[cc],rfl,(s1.trans s2).updD hD,Ã,Paired.snoc (Paired.mapP hC fun _ _ f=>⟨RepC.tup tu (RepC.same s2 f.1),f.2⟩) ⟨RepC.tup tu rc,bc⟩,by rw[Ĕ,lC];rfl,fun c hc=>?_⟩;rcases ř.mp hc with e | e
   ·exact okc c e
   ·rw[ő.mp e];exact oc
  ·rintro σ' H1 ⟨v,ls,cs,rfl,s1,hd,hC,lC,okc⟩;have lC:cs.length=(c0.fmod (ms+1)).toNat:=lC;exact k D H1 ls cs hD s1 hd hC (by lia) okc
noncomputable abbrev zD1:Stmt:=top 60
theorem sc__law_wanted:Ï ["_law_offer_here","_law_cell","_law_units_here"] ["_law_offer_here","_law_cell"] (Ç zD1):=scF
theorem zP5 {ca:Ca}(D:DefAt K mg "_law_wanted" zD1)(T:Txt K mg ca)(G__law_total:FnAt P w K mg base CX0 2 "_law_total" ["_law_wine_here"] (spLTot))(G__law_lowest:FnAt P w K mg base CX0 2 "_law_lowest" ["_law_top","_law_bottom"] (spLowest2))(G__law_mixed:FnAt P w K mg base CX0 1 "_law_mixed" ["_law_cell","_law_k"] (spMixed2)):FnAt P w K mg base CX0 3 "_law_wanted" ["_law_offer_here","_law_cell"] (spWanted):=by
 refine D.ok sc__law_wanted (fun vs H Q E h=>?_) (fun _ _ _ _ _ _ us hl=>match us,hl with | [_,_],_=>rfl) (fun f cdv A outer s H vs Q E hr h=>?_)
 all_goals obtain⟨ao,os,zs,now,c,rfl,hO,hPo,ok,w1,w4,k⟩:=h
 ·rfl
 ·have nd:=sc__law_wanted.nd;refine⟨_,(Ä (Í (i:=2) nd rfl (Or.inl rfl) (Ë (zO7 (K:=K) rfl rfl) (by rfl) T.z_sum yQ3 (À (ò ["_law_entry"] [] [] rfl (by rfl) (ç (K:=K) rfl (pv 0)) (fun _ _ _ _=>(Ì (i:=0) (show List.Nodup (["_law_entry"]:List Str) from by decide) rfl (Or.inl rfl))) (fun _ _ _ _=>ã) (fun _ _ _ _=>(pfn G__law_total hr (À (pixT (K:=K) (pv 0) Á) Â)))) Â)))
   (Å (É (pfn G__law_lowest hr (À (Æ ß (pv 2) (Æ è Á (Æ Ø (pfn G__law_mixed hr (À (pv 1) (À Á Â))) (pixL (K:=K) (é (À Á (À Á Â))) (Æ Ø (pv 1) Á))))) (À (Æ ß Á Á) Â)))))),?_⟩
  have lO:os.length=zs.length:=hPo.length;refine(ex1 rfl ⟨ao,rfl,⟨_,SqL.of hO⟩,fun Dd hD=>?_⟩);refine æ (xs:=os) (fun j σ' H'=>∃(v:Option V),σ'=[v] /\ Same H H' /\ H' Dd=some (.lst (((zs.take j).map fun z=>totZ z.1).map V.int))) ⟨none,rfl,Same.upd hD,Ã⟩ ?_ ?_ ?_
  ·rintro j σ' H' hj ⟨v,rfl,s1,hd⟩;exact SqL.of (s1 _ _ hO)
  ·rintro j y σ' H' hy ⟨v,rfl,s1,hd⟩;obtain⟨z,hz,oz⟩:=Ê hPo hy;obtain⟨a,w1',pr,rfl,ha,wn,_⟩:=oz.same s1;have hj:j<zs.length:=(Ą.mp hz).1;refine(ex1 rfl ⟨a,_,_,_,rfl,rfl,SqT.of ha,rfl,È ?_⟩);refine spLTot.mk (Ez:=E0) wn (ok z (đ hz)) (fun H2 s2=>?_);have hd2:=s2 _ _ hd;refine⟨_,hd2,by rw[ą,ą,Ĥ];exact sz (by lia),ex1 rfl ⟨(s1.trans s2).updD hD,?_⟩⟩;have ew:zs.take (j+1)=zs.take j++[z]:=by rw[Ŋ,hz];rfl
   rw[Ã,ew,ė,ė];rfl
  rintro σ' H1 ⟨v,rfl,s1,hd⟩;rw[lO,ŏ]at hd;refine⟨Dd,ex1 rfl ⟨SqL.of hd,?_⟩⟩;have u0:=yZ2 ok w1;have ub:=(yI7 ok).2;have ub2:(unQ zs).natAbs<=2^124:=ĉ ub (by rw[show (2:Nat)^124=4*2^122 by decide];exact Ĭ _ w4);refine(ex1 rfl (ex1 rfl ⟨c,1,rfl,⟨by decide,by decide⟩,fun m H2 m0 m1 s2=>⟨szn,fun p hp=>?_⟩⟩));have tp:=Same.upd (o:=.lst [V.int 12,V.int 14]) hp;have q2:=à (c:=c) (m:=2) (by decide);obtain⟨g,hg,eg⟩:∃g:Int,(g=12 \/ g=14) /\ atI [V.int 12,V.int 14] (c.fmod 2)=some (V.int g):=by
   have:c.fmod 2=0 \/ c.fmod 2=1:=by lia
   rcases this with e | e
   ·exact⟨12,.inl rfl,by rw[e];rfl⟩
   ·exact⟨14,.inr rfl,by rw[e];rfl⟩
  have qg:=à (c:=m) (m:=g) (by lia);have big:(2:Nat)^124<2^200:=by decide
  refine(ex1 rfl ⟨_,_,rfl,rfl,(show (2:Int)≠0 by decide),p,_,_,_,rfl,rfl,SqL.of Ã,eg,_,_,rfl,rfl,(by lia),_,_,rfl,rfl,_,_,rfl,rfl,Ü 200 (ă ub2 big) (ă (m:=20) (by lia) (by decide)) (by decide),?_⟩);refine⟨_,_,rfl,rfl,Ü 64 (by decide) (by decide) (by decide),È ?_⟩;refine spLowest2.mk (Ez:=E0) (by decide) (by decide) (fun v3 H3 s3 f3=>?_);have f1:1<=1+m.fmod g /\ 1+m.fmod g<=14:=by lia
  have e3:Ċ (unQ zs*(1+m.fmod g)) (27720*12)*((332640:Nat):Rat)=((unQ zs*(1+m.fmod g):Int):Rat):=by
   rw[Ħ];have e:(((27720*12:Int)):Rat)=332640:=rfl;have e':((332640:Nat):Rat)=332640:=rfl;rw[e,e']
   grind
  refine k v3 H3 _ (s1.trans (s2.trans (tp.trans s3))) f3 ?_ ⟨_,e3,?_⟩
  ·exact zO4 (Int.mul_pos u0 (by lia)) (by decide)
  ·rw[Ĵ];refine ĉ (Ě ub2 (show (1+m.fmod g).natAbs<=2^6 by lia)) ?_;rw[<- Ľ];exact Ć _
noncomputable abbrev zF8:Stmt:=top 61
theorem sc__law_meant:Ï ["_law_pick_here","_law_lot","_law_now"] ["_law_pick_here","_law_lot","_law_now"] (Ç zF8):=scF
theorem zU0 {ca:Ca}(D:DefAt K mg "_law_meant" zF8)(T:Txt K mg ca):∀d,FnAt P w K mg base CX0 (d+1) "_law_meant" ["_law_pick_here","_law_lot","_law_now"] (zR2 d):=by
 intro d
 induction d with
 | zero =>
  refine D.ok sc__law_meant (fun vs H Q E h=>?_) (fun _ _ _ _ _ _ us hl=>match us,hl with | [_,_,_],_=>rfl) (fun f cdv A outer s H vs Q E hr h=>?_)
  ·exact False.elim (by obtain⟨_,_,_,_,_,p,_,_,_,hd,_⟩:=h;have:=yF7 p;lia)
  ·exact False.elim (by obtain⟨_,_,_,_,_,p,_,_,_,hd,_⟩:=h;have:=yF7 p;lia)
 | succ d G__law_meant =>
 refine D.ok sc__law_meant (fun vs H Q E h=>?_) (fun _ _ _ _ _ _ us hl=>match us,hl with | [_,_,_],_=>rfl) (fun f cdv A outer s H vs Q E hr h=>?_)
 all_goals obtain⟨v,l,z,y,now,p,rfl,hl,hp,hd,k⟩:=h
 ·rfl
 ·have nd:=sc__law_meant.nd;refine⟨_,(Ä (á (Ð ï (pixT (K:=K) (pv 0) Á) å (Ò _)) (Å (É (ø ï (pixT (K:=K) (pv 1) Á) (pixT (K:=K) (pv 0) Á) (Ò _)))) Ó)
   (Ä (á (Ð ï (pixT (K:=K) (pv 0) Á) å (Ò _)) (Å (É (ø yL7 (Æ ô (pv 2) (pixT (K:=K) (pv 1) Á)) (pixT (K:=K) (pv 0) Á) (Ò _)))) Ó)
   (Ä (á (Ð ï (pixT (K:=K) (pv 0) Á) å (Ò _)) (Å (É (yS9 yT0 yT0 (pixT (K:=K) (pv 0) Á) (pixT (K:=K) (pv 1) Á) (pixT (K:=K) (pv 0) Á)))) Ó)
   (Ä (á (Ð ï (pixT (K:=K) (pv 0) Á) å (Ò _)) (Å (É (yE7 (ο G__law_meant hr (by rfl) ρ (À (pixT (K:=K) (pv 0) Á) (À (pv 1) (À (pv 2) Â))) (by lia))))) Ó)
   (Ä (á (Ð ï (pixT (K:=K) (pv 0) Á) å (Ò _)) (Å (É (Τ (ο G__law_meant hr (by rfl) ρ (À (pixT (K:=K) (pv 0) Á) (À (pv 1) (À (pv 2) Â))) (by lia)) (Ο (ο G__law_meant hr (by rfl) ρ (À (pixT (K:=K) (pv 0) Á) (À (pv 1) (À (pv 2) Â))) (by lia)))))) Ó)
   (Å (É (xH4 (ο G__law_meant hr (by rfl) ρ (À (pixT (K:=K) (pv 0) Á) (À (pv 1) (À (pv 2) Â))) (by lia)) (Ο (ο G__law_meant hr (by rfl) ρ (À (pixT (K:=K) (pv 0) Á) (À (pv 1) (À (pv 2) Â))) (by lia))))))))))),?_⟩
  cases p with
  | name n =>
   obtain⟨a,rfl,ha⟩:=hp;refine(ex1 rfl ⟨a,_,_,_,rfl,rfl,SqT.of ha,rfl,rfl,ex1 rfl ?_⟩);refine ù rfl ?_;exact(ex1 rfl ⟨l,_,_,_,rfl,rfl,SqT.of hl,rfl,ex1 rfl ⟨a,_,_,_,rfl,rfl,SqT.of ha,rfl,rfl,k⟩⟩)
  | old i =>
   obtain⟨a,rfl,ha⟩:=hp;refine(ex1 rfl ⟨a,_,_,_,rfl,rfl,SqT.of ha,rfl,rfl,ex1 rfl ?_⟩);refine Ù (by decide +kernel) ?_;refine(ex1 rfl ⟨a,_,_,_,rfl,rfl,SqT.of ha,rfl,rfl,ex1 rfl ?_⟩);refine ù rfl ?_;exact(ex1 rfl (ex1 rfl ⟨l,_,_,_,rfl,rfl,SqT.of hl,rfl,_,_,rfl,rfl,ex1 rfl ⟨a,_,_,_,rfl,rfl,SqT.of ha,rfl,_,_,rfl,rfl,k⟩⟩))
  | years i j =>
   obtain⟨a,rfl,ha⟩:=hp;refine(ex1 rfl ⟨a,_,_,_,rfl,rfl,SqT.of ha,rfl,rfl,ex1 rfl ?_⟩);refine Ù (by decide +kernel) ?_;refine(ex1 rfl ⟨a,_,_,_,rfl,rfl,SqT.of ha,rfl,rfl,ex1 rfl ?_⟩);refine Ù (by decide +kernel) ?_;refine(ex1 rfl ⟨a,_,_,_,rfl,rfl,SqT.of ha,rfl,rfl,ex1 rfl ?_⟩);refine ù rfl ?_;refine(ex1 rfl ⟨a,_,_,_,rfl,rfl,SqT.of ha,rfl,ex1 rfl ⟨l,_,_,_,rfl,rfl,SqT.of hl,rfl,_,_,rfl,rfl,ex1 rfl ?_⟩⟩);have k:Q (.bl (decide (i<=y)&&decide (y<=j))) H:=k;refine ite2 (fun h1=>?_) (fun h1=>?_)
   ·have h1:decide (i<=y)=true:=h1;rw[h1,Bool.true_and]at k;exact(ex1 rfl ⟨a,_,_,_,rfl,rfl,SqT.of ha,rfl,_,_,rfl,rfl,k⟩)
   ·have h1:¬decide (i<=y)=true:=h1;rw[ŗ.mpr h1,Bool.false_and]at k;exact k
  | nay p =>
   obtain⟨a,x,rfl,ha,h1⟩:=hp;have hd:dp p+1<=d+1:=hd;refine(ex1 rfl ⟨a,_,_,_,rfl,rfl,SqT.of ha,rfl,rfl,ex1 rfl ?_⟩);refine Ù (by decide +kernel) ?_;refine(ex1 rfl ⟨a,_,_,_,rfl,rfl,SqT.of ha,rfl,rfl,ex1 rfl ?_⟩);refine Ù (by decide +kernel) ?_;refine(ex1 rfl ⟨a,_,_,_,rfl,rfl,SqT.of ha,rfl,rfl,ex1 rfl ?_⟩);refine Ù (by decide +kernel) ?_;refine(ex1 rfl ⟨a,_,_,_,rfl,rfl,SqT.of ha,rfl,rfl,ex1 rfl ?_⟩);refine ù rfl ?_;exact(ex1 rfl ⟨a,_,_,_,rfl,rfl,SqT.of ha,rfl,ex1 rfl (ex1 rfl ⟨x,l,z,y,now,p,rfl,hl,h1,by lia,ex1 rfl k⟩)⟩)
  | both p q =>
   obtain⟨a,x,w,rfl,ha,h1,h2⟩:=hp;have hd:max (dp p) (dp q)+1<=d+1:=hd;have k:Q (.bl (mean z y now p&&mean z y now q)) H:=k;refine(ex1 rfl ⟨a,_,_,_,rfl,rfl,SqT.of ha,rfl,rfl,ex1 rfl ?_⟩);refine Ù (by decide +kernel) ?_;refine(ex1 rfl ⟨a,_,_,_,rfl,rfl,SqT.of ha,rfl,rfl,ex1 rfl ?_⟩);refine Ù (by decide +kernel) ?_;refine(ex1 rfl ⟨a,_,_,_,rfl,rfl,SqT.of ha,rfl,rfl,ex1 rfl ?_⟩);refine Ù (by decide +kernel) ?_;refine(ex1 rfl ⟨a,_,_,_,rfl,rfl,SqT.of ha,rfl,rfl,ex1 rfl ?_⟩);refine Ù (by decide +kernel) ?_;refine(ex1 rfl ⟨a,_,_,_,rfl,rfl,SqT.of ha,rfl,rfl,ex1 rfl ?_⟩);refine ù rfl ?_;refine(ex1 rfl ⟨a,_,_,_,rfl,rfl,SqT.of ha,rfl,ex1 rfl (ex1 rfl ⟨x,l,z,y,now,p,rfl,hl,h1,by lia,ex1 rfl ?_⟩)⟩);refine ite2 (fun e=>?_) (fun e=>?_)
   ·have e:mean z y now p=true:=e;rw[e,Bool.true_and]at k;exact(ex1 rfl ⟨a,_,_,_,rfl,rfl,SqT.of ha,rfl,ex1 rfl (ex1 rfl ⟨w,l,z,y,now,q,rfl,hl,h2,by lia,k⟩)⟩)
   ·have e:¬mean z y now p=true:=e;rw[ŗ.mpr e,Bool.false_and]at k;exact k
  | one p q =>
   obtain⟨a,x,w,rfl,ha,h1,h2⟩:=hp;have hd:max (dp p) (dp q)+1<=d+1:=hd;have k:Q (.bl (mean z y now p||mean z y now q)) H:=k;refine(ex1 rfl ⟨a,_,_,_,rfl,rfl,SqT.of ha,rfl,rfl,ex1 rfl ?_⟩);refine Ù (by decide +kernel) ?_;refine(ex1 rfl ⟨a,_,_,_,rfl,rfl,SqT.of ha,rfl,rfl,ex1 rfl ?_⟩);refine Ù (by decide +kernel) ?_;refine(ex1 rfl ⟨a,_,_,_,rfl,rfl,SqT.of ha,rfl,rfl,ex1 rfl ?_⟩);refine Ù (by decide +kernel) ?_;refine(ex1 rfl ⟨a,_,_,_,rfl,rfl,SqT.of ha,rfl,rfl,ex1 rfl ?_⟩);refine Ù (by decide +kernel) ?_;refine(ex1 rfl ⟨a,_,_,_,rfl,rfl,SqT.of ha,rfl,rfl,ex1 rfl ?_⟩);refine Ù (by decide +kernel) ?_;refine(ex1 rfl ⟨a,_,_,_,rfl,rfl,SqT.of ha,rfl,ex1 rfl (ex1 rfl ⟨x,l,z,y,now,p,rfl,hl,h1,by lia,ex1 rfl ?_⟩)⟩);refine ite2 (fun e=>?_) (fun e=>?_)
   ·have e:mean z y now p=true:=e;rw[e,Bool.true_or]at k;exact k
   ·have e:¬mean z y now p=true:=e;rw[ŗ.mpr e,Bool.false_or]at k;exact(ex1 rfl ⟨a,_,_,_,rfl,rfl,SqT.of ha,rfl,ex1 rfl (ex1 rfl ⟨w,l,z,y,now,q,rfl,hl,h2,by lia,k⟩)⟩)
noncomputable abbrev zD4:Stmt:=top 62
theorem sc__law_factor:Ï ["_law_condition_here","_law_lot","_law_now","_law_top","_law_bottom","_law_found"] ["_law_condition_here","_law_lot","_law_now"] (Ç zD4):=scF
theorem zP8 {ca:Ca}(D:DefAt K mg "_law_factor" zD4)(T:Txt K mg ca)(G__law_meant:FnAt P w K mg base CX0 5 "_law_meant" ["_law_pick_here","_law_lot","_law_now"] (zR2 4)):FnAt P w K mg base CX0 6 "_law_factor" ["_law_condition_here","_law_lot","_law_now"] (yE1):=by
 refine D.ok sc__law_factor (fun vs H Q E h=>?_) (fun _ _ _ _ _ _ us hl=>match us,hl with | [_,_,_],_=>rfl) (fun f cdv A outer s H vs Q E hr h=>?_)
 all_goals obtain⟨v,l,z,y,now,c,rfl,hl,hc,hB,hn,k⟩:=h
 ·rfl
 ·have nd:=sc__law_factor.nd;refine⟨_,(Ä (Ν (pixT (K:=K) (pv 0) Á) (ì (K:=K) (n:=2) (by rfl) (by rfl) (Ñ (Ì (i:=3) nd rfl (Or.inl rfl)) (Ñ (Ì (i:=4) nd rfl (Or.inl rfl)) ë))))
   (Ä (á (Ð ï (pixT (K:=K) (pv 0) Á) å (Ò _)) (Å (É (Æ ô (Æ ß (Æ ô (pv 2) (pixT (K:=K) (pv 1) Á)) (pv 4)) (pv 3)))) Ó)
   (Ä (Í (i:=5) nd rfl (Or.inl rfl) (Æ ô Á (pv 3)))
   (Ä (á (ö (pfn G__law_meant hr (À (pixT (K:=K) (pv 0) Á) (À (pv 1) (À (pv 2) Â))))) (Å (Í (i:=5) nd rfl (Or.inl rfl) (Æ ô (pv 4) (pv 3)))) Ó)
   (Ä (á (Ð ï (pixT (K:=K) (pv 0) Á) å (Ò _)) (Å (É (Æ ô Á (pv 5)))) Ó)
   (Å (É (pv 5)))))))),?_⟩
  cases c with
  | mean r =>
   obtain⟨a,x,rfl,ha,⟨b,rfl,hb⟩⟩:=hc;refine(ex1 rfl ⟨a,_,_,_,rfl,rfl,SqT.of ha,rfl,b,ex1 rfl ⟨SqT.of hb,rfl,_,_,rfl,_,_,rfl,rfl,?_⟩⟩);refine(ex1 rfl ⟨a,_,_,_,rfl,rfl,SqT.of ha,rfl,rfl,ex1 rfl ?_⟩);refine ù rfl ?_;have bd:((r.den:Int)).natAbs<2^200:=hB.den;exact(ex1 rfl (ex1 rfl ⟨l,_,_,_,rfl,rfl,SqT.of hl,rfl,_,_,rfl,rfl,ex1 rfl ⟨_,_,rfl,rfl,Ü 200 (Ă hn (Þ (by decide))) bd (by decide),ex1 rfl ⟨_,_,rfl,rfl,k⟩⟩⟩))
  | least r p =>
   obtain⟨a,x,w1,rfl,ha,⟨b,rfl,hb⟩,hp,hd⟩:=hc;have k:Q (.int (if mean z y now p=true then r.den - r.num else 0 - r.num)) H:=k;refine(ex1 rfl ⟨a,_,_,_,rfl,rfl,SqT.of ha,rfl,b,ex1 rfl ⟨SqT.of hb,rfl,_,_,rfl,_,_,rfl,rfl,?_⟩⟩);refine(ex1 rfl ⟨a,_,_,_,rfl,rfl,SqT.of ha,rfl,rfl,ex1 rfl ?_⟩);refine Ù (by decide +kernel) ?_;refine(ex1 rfl ⟨_,_,rfl,rfl,?_⟩);refine(ex1 rfl ⟨a,_,_,_,rfl,rfl,SqT.of ha,rfl,ex1 rfl (ex1 rfl ⟨w1,l,z,y,now,p,rfl,hl,hp,hd,ex1 rfl ?_⟩)⟩);refine ite2 (fun e=>?_) (fun e=>?_)
   ·rw[if_pos e]at k;refine(ex1 rfl (ex1 rfl ⟨_,_,rfl,rfl,?_⟩));refine(ex1 rfl ⟨a,_,_,_,rfl,rfl,SqT.of ha,rfl,rfl,ex1 rfl ?_⟩);refine Ù (by decide +kernel) ?_;exact(ex1 rfl k)
   ·rw[if_neg e]at k;refine(ex1 rfl ⟨a,_,_,_,rfl,rfl,SqT.of ha,rfl,rfl,ex1 rfl ?_⟩);refine Ù (by decide +kernel) ?_;exact(ex1 rfl k)
  | most r p =>
   obtain⟨a,x,w1,rfl,ha,⟨b,rfl,hb⟩,hp,hd⟩:=hc;have k:Q (.int (0 - (if mean z y now p=true then r.den - r.num else 0 - r.num))) H:=k;refine(ex1 rfl ⟨a,_,_,_,rfl,rfl,SqT.of ha,rfl,b,ex1 rfl ⟨SqT.of hb,rfl,_,_,rfl,_,_,rfl,rfl,?_⟩⟩);refine(ex1 rfl ⟨a,_,_,_,rfl,rfl,SqT.of ha,rfl,rfl,ex1 rfl ?_⟩);refine Ù (by decide +kernel) ?_;refine(ex1 rfl ⟨_,_,rfl,rfl,?_⟩);refine(ex1 rfl ⟨a,_,_,_,rfl,rfl,SqT.of ha,rfl,ex1 rfl (ex1 rfl ⟨w1,l,z,y,now,p,rfl,hl,hp,hd,ex1 rfl ?_⟩)⟩);refine ite2 (fun e=>?_) (fun e=>?_)
   ·rw[if_pos e]at k;refine(ex1 rfl (ex1 rfl ⟨_,_,rfl,rfl,?_⟩));refine(ex1 rfl ⟨a,_,_,_,rfl,rfl,SqT.of ha,rfl,rfl,ex1 rfl ?_⟩);refine ù rfl ?_;exact(ex1 rfl ⟨_,_,rfl,rfl,k⟩)
   ·rw[if_neg e]at k;refine(ex1 rfl ⟨a,_,_,_,rfl,rfl,SqT.of ha,rfl,rfl,ex1 rfl ?_⟩);refine ù rfl ?_;exact(ex1 rfl ⟨_,_,rfl,rfl,k⟩)
noncomputable abbrev zB8:Stmt:=top 63
theorem sc__law_weighed:Ï ["_law_condition_here","_law_wine_here","_law_now"] ["_law_condition_here","_law_wine_here","_law_now"] (Ç zB8):=scF
theorem zN7 {ca:Ca}(D:DefAt K mg "_law_weighed" zB8)(T:Txt K mg ca)(G__law_units:FnAt P w K mg base CX0 1 "_law_units" ["_law_amount"] (spUnits))(G__law_factor:FnAt P w K mg base CX0 6 "_law_factor" ["_law_condition_here","_law_lot","_law_now"] (yE1)):FnAt P w K mg base CX0 7 "_law_weighed" ["_law_condition_here","_law_wine_here","_law_now"] (spWghd):=by
 refine D.ok sc__law_weighed (fun vs H Q E h=>?_) (fun _ _ _ _ _ _ us hl=>match us,hl with | [_,_,_],_=>rfl) (fun f cdv A outer s H vs Q E hr h=>?_)
 all_goals obtain⟨v,_,now,c,W,rfl,hc,bc,⟨d,kvs,rfl,hd,hE⟩,ok,k⟩:=h
 ·rfl
 ·have nd:=sc__law_weighed.nd;refine⟨_,(Å (É (Ë (zO7 (K:=K) rfl rfl) (by rfl) T.z_sum yQ3 (À (yL3 (ò ["_law_lot","_law_amount"] ["_law_condition_here","_law_now"] [0,2] rfl (by rfl) (zS0 (zS1 (K:=K) rfl PySem.F.plainAttrs_dict PySem.F.slot_dict_items PySem.F.type_dict_items zU4 (pv 1))) (fun _ _ _ _=>(ì (K:=K) (n:=2) (by rfl) (by rfl) (Ñ (Ì (i:=0) (show List.Nodup (["_law_lot","_law_amount","_law_condition_here","_law_now"]:List Str) from by decide) rfl (Or.inl rfl) (hf:=Or.inr (by rfl))) (Ñ (Ì (i:=1) (show List.Nodup (["_law_lot","_law_amount","_law_condition_here","_law_now"]:List Str) from by decide) rfl (Or.inl rfl) (hf:=Or.inr (by rfl))) ë)))) (fun _ _ _ _=>ã) (fun _ _ _ _=>(Æ ß (pfn G__law_units hr (À (pv 1) Â)) (pfn G__law_factor hr (À (pv 2) (À (pv 0) (À (pv 3) Â)))))))) Â)))),?_⟩;refine⟨d,_,hd,rfl,?_⟩;refine(ex1 rfl ⟨.inr (.inr (.inl ⟨rfl,.inr ⟨_,hd⟩⟩)),d,ex1 rfl ⟨rfl,hd,rfl,fun pv hpv=>?_⟩⟩);have t1:=Same.upd (o:=η pv d) hpv;refine⟨pv,d,ex1 rfl ⟨Ã,t1 _ _ hd,rfl,fun o ps hps D hD=>?_⟩⟩;have hps:Paired (fun kv p=>∃b,p=(V.ref b,kv.2) /\ upd H pv (η pv d) b=some (.tup (kv.1.map kV))) kvs ps:=hps;have lps:ps.length=W.length:=by rw[<- hps.length,hE.length]
  have hd1:=t1 _ _ hd;have hc1:=RepC.same t1 hc;have hE1:Paired (EnV (upd H pv (η pv d))) kvs W:=Paired.mapP hE fun _ _ f=>⟨f.1,f.2.same t1⟩;generalize upd H pv (η pv d)=H1 at *;have notd:∀{b:Addr} {zs:List V},H1 b=some (.tup zs)->b≠d:=fun e=>zU2 e hd1 (by intro z;cases z);have nDd:D≠d:=fun e=>by rw[e,Ã]at hD;cases hD
  have hD1:H1 D=none:=by rw[upd_ne nDd]at hD;exact hD
  refine zP1 (fun i σ' H2=>∃(v0 v1:Option V),σ'=[v0,v1,some v,some (.int now)] /\ H2 d=some (.frz o (.dT kvs)) /\ (∀b ob,H1 b=some ob->b≠d->H2 b=some ob) /\ H2 D=some (.lst (((W.take i).map fun e=>unZ e.2*fac e.1.1 e.1.2 now c).map V.int))) ?_ ?_ ?_ ?_
  ·refine⟨none,none,rfl,by rw[upd_ne nDd.symm];exact Ã,fun b ob e n=>?_,Ã⟩;rw[upd_ne (ê e hD1),upd_ne n];exact e
  ·rintro i σ' H2 ⟨_,_,_,h,_⟩;exact h
  ·rintro i k' a' T σ' H2 hk ⟨v0,v1,rfl,hfz,kp,hD2⟩ hT;obtain⟨b,e,rfl,hb,he,fa⟩:=yL0 hps hE1 hk;have ti:=Same.upd (o:=.tup [V.ref b,a']) hT;have kt:∀x zs,H1 x=some (.tup zs)->upd H2 T (.tup [V.ref b,a']) x=some (.tup zs):=fun x zs e=>ti _ _ (kp _ _ e (notd e));have oke:=ok.all e (đ he);have rc:RepC (upd H2 T (.tup [V.ref b,a'])) c v:=RepC.tup kt hc1;have hil:i<W.length:=(Ą.mp he).1;have l3:=ok.len;refine⟨T,ex1 rfl ⟨SqT.of Ã,rfl,_,_,rfl,_,_,rfl,rfl,?_⟩⟩;refine(ex1 rfl ⟨a',e.2,rfl,fa.tup kt,oke.bd,ex1 rfl (ex1 rfl (ex1 rfl ⟨v,b,e.1.1,e.1.2,now,c,rfl,kt _ _ hb,rc,bc,oke.yr,_,_,rfl,rfl,Ü 400 (Ă (yD6 oke.bd) (Þ (by decide))) (yO6 bc oke.yr) (by decide),?_⟩))⟩);have hD3:=ti _ _ hD2;refine⟨_,hD3,by rw[ą,ą,Ĥ];exact sz (by lia),_,_,rfl,by rw[upd_ne nDd.symm];exact ti _ _ hfz,fun x ob ex n=>?_,?_⟩
   ·rw[upd_ne (ê ex hD1)];exact ti _ _ (kp x ob ex n)
   ·have ew:W.take (i+1)=W.take i++[e]:=by rw[Ŋ,he];rfl
    rw[Ã,ew,ė,ė];rfl
  ·rintro σ' H2 ⟨v0,v1,rfl,hfz,kp,hD2⟩;rw[lps,ŏ]at hD2;have sH:Same H (upd H2 d (.dT kvs)):=fun x ob ex=>by
    by_cases z:x=d
    ·subst z;rw[Ã];rw[hd]at ex;exact ex
    ·rw[upd_ne z];exact kp _ _ (t1 _ _ ex) z
   refine⟨o,_,hfz,D,ex1 rfl ⟨SqL.of (by rw[upd_ne nDd];exact hD2),k _ sH⟩⟩
noncomputable abbrev zE9:Stmt:=top 64
theorem sc__law_whole:Ï ["_law_found"] ["_law_found"] (Ç zE9):=scF
theorem zT1 {ca:Ca}(D:DefAt K mg "_law_whole" zE9)(T:Txt K mg ca):FnAt P w K mg base CX0 1 "_law_whole" ["_law_found"] (zQ9):=by
 refine D.ok sc__law_whole (fun vs H Q E h=>?_) (fun _ _ _ _ _ _ us hl=>match us,hl with | [_],_=>rfl) (fun f cdv A outer s H vs Q E hr h=>?_)
 all_goals obtain⟨v,n,rfl,hv,k⟩:=h
 ·rfl
 ·have nd:=sc__law_whole.nd;refine⟨_,(Å (É (Τ (Ë (û (K:=K) rfl) (by rfl) T.z_isinstance â (À (pv 0) (À (Ż (v:=.ty "int") (by rfl) T.z_int yQ6 rfl) Â))) (Ο (yE7 (Ë (û (K:=K) rfl) (by rfl) T.z_isinstance â (À (pv 0) (À (Ż (v:=.ty "bool") (by rfl) T.z_bool zV4 rfl) Â)))))))),?_⟩;refine⟨_,rfl,_,_,_,_,rfl,þ hv,ŷ (zE0 hv) (by decide),_,rfl,?_⟩;refine ite2 (fun h1=>?_) (fun h1=>?_)
  ·refine⟨_,rfl,_,_,_,_,rfl,þ hv,ŷ (zE0 hv) (by decide),_,rfl,?_⟩;rw[sub_int]at h1;rw[yD9];have e:(!(n == "bool"))=(n == "int"):=by
    rcases Bool.or_eq_true_iff.mp h1 with z | z
    ·have z:=beq_iff_eq.mp z;subst z;decide
    ·have z:=beq_iff_eq.mp z;subst z;decide
   rw[e];exact k
  ·rw[sub_int]at h1;have e:(n == "int")=false:=by
    cases q:(n == "int") with
    | false=>rfl
    | true=>rw[q]at h1;exact absurd rfl h1
   rw[e]at k;exact k
noncomputable abbrev zA4:Stmt:=top 65
theorem sc__law_is_fraction:Ï ["_law_found"] ["_law_found"] (Ç zA4):=scF
theorem zH7 {ca:Ca}(D:DefAt K mg "_law_is_fraction" zA4)(T:Txt K mg ca)(G__law_whole:FnAt P w K mg base CX0 1 "_law_whole" ["_law_found"] (zQ9))(G__law_divisor:FnAt P w K mg base CX0 1 "_law_divisor" ["_law_one","_law_other"] (zM5)):FnAt P w K mg base CX0 2 "_law_is_fraction" ["_law_found"] (yJ4):=by
 refine D.ok sc__law_is_fraction (fun vs H Q E h=>?_) (fun _ _ _ _ _ _ us hl=>match us,hl with | [_],_=>rfl) (fun f cdv A outer s H vs Q E hr h=>?_)
 all_goals obtain⟨v,r,rfl,hv,k⟩:=h
 ·rfl
 ·have nd:=sc__law_is_fraction.nd;refine⟨_,(Ä (á (PW.pt (Ζ (ŭ (ö (Ë (û (K:=K) rfl) (by rfl) T.z_isinstance â (À (pv 0) (À (Ż (v:=.ty "tuple") (by rfl) T.z_tuple zD8 rfl) Â))))) (Ζ (Ð zS2 (Ë (Ö (K:=K) rfl) (by rfl) T.z_len PySem.boot_len (À (pv 0) Â)) Á (Ò _)) (Ζ (ŭ (ö (pfn G__law_whole hr (À (pixT (K:=K) (pv 0) Á) Â)))) (Γ (ŭ (ö (pfn G__law_whole hr (À (pixT (K:=K) (pv 0) Á) Â))))))))) (Å (É ž)) Ó)
   (Å (É (Τ (ø yH3 (pixT (K:=K) (pv 0) Á) Á (Ò _)) (Ο (ø ï (pfn G__law_divisor hr (À (pixT (K:=K) (pv 0) Á) (À (pixT (K:=K) (pv 0) Á) Â))) Á (Ò _))))))),?_⟩
  have tx:=hv.ty;have d:=Î r;have g:=zG0 r;obtain⟨a,rfl,ha⟩:=hv;refine⟨_,rfl,_,_,_,_,rfl,þ tx,ŷ (by decide) (by decide),_,rfl,?_⟩;refine iteF ?_;refine⟨_,rfl,_,_,rfl,.inr ⟨_,SqT.of ha,rfl⟩,rfl,_,rfl,?_⟩;refine iteF ?_;refine⟨_,rfl,a,_,_,_,rfl,rfl,SqT.of ha,rfl,_,_,rfl,rfl,_,rfl,?_⟩;refine iteF ?_;refine⟨_,rfl,a,_,_,_,rfl,rfl,SqT.of ha,rfl,_,_,rfl,rfl,_,rfl,?_⟩;refine iteF ?_;refine⟨_,rfl,a,_,_,_,rfl,rfl,SqT.of ha,rfl,_,_,rfl,rfl,_,rfl,?_⟩;refine ù d ?_;refine⟨_,rfl,a,_,_,_,rfl,rfl,SqT.of ha,rfl,_,rfl,a,_,_,_,rfl,rfl,SqT.of ha,rfl,_,_,rfl,rfl,?_⟩;have e:decide (V.int ((ħ r.num (r.den:Int):Nat):Int)=V.int 1)=true:=by rw[g];rfl
  have k:Q (.bl true) H:=k;rw[<- e]at k;exact k
noncomputable abbrev zJ6:Stmt:=top 66
theorem sc__law_sum:Ï ["_law_some","_law_top","_law_bottom","_law_one"] ["_law_some"] (Ç zJ6):=scF
theorem yB5 {ca:Ca}(D:DefAt K mg "_law_sum" zJ6)(T:Txt K mg ca)(G__law_lowest:FnAt P w K mg base CX0 2 "_law_lowest" ["_law_top","_law_bottom"] (spLowest2)):FnAt P w K mg base CX0 3 "_law_sum" ["_law_some"] (spLSum K):=by
 refine D.ok sc__law_sum (fun vs H Q E h=>?_) (fun _ _ _ _ _ _ us hl=>match us,hl with | [_],_=>rfl) (fun f cdv A outer s H vs Q E hr h=>?_)
 all_goals obtain⟨a,xs,ps,rfl,hA,hX,hB,hT,k⟩:=h
 ·rfl
 ·have nd:=sc__law_sum.nd;refine⟨_,(Ä (Í (i:=1) nd rfl (Or.inl rfl) Á)
   (Ä (Í (i:=2) nd rfl (Or.inl rfl) Á)
   (Ä (ů PassesOwn.never rfl (ç (K:=K) rfl (pv 0)) (Ì (i:=3) nd rfl (Or.inl rfl)) (Å (Ν (pfn G__law_lowest hr (À (Æ è (Æ ß (pv 1) (pixT (K:=K) (pv 3) Á)) (Æ ß (pixT (K:=K) (pv 3) Á) (pv 2))) (À (Æ ß (pv 2) (pixT (K:=K) (pv 3) Á)) Â))) (ì (K:=K) (n:=2) (by rfl) (by rfl) (Ñ (Ì (i:=1) nd rfl (Or.inl rfl)) (Ñ (Ì (i:=2) nd rfl (Or.inl rfl)) ë))))))
   (Å (É (Õ (À (pv 1) (À (pv 2) Â)))))))),?_⟩
  have lX:xs.length=ps.length:=hX.length;refine(ex1 rfl ⟨a,rfl,⟨_,hA⟩,?_⟩);refine zI6 (xs:=xs) (fun i σ H1=>∃(v3:Option V),σ=[some (.ref a),some (.int (sumL (ps.take i) quI).num),some (.int ((sumL (ps.take i) quI).den:Nat)),v3] /\ Same H H1) ⟨none,rfl,Same.refl _⟩ ?_ ?_ ?_
  ·rintro i σ H1 hi ⟨v3,rfl,s1⟩;exact s1.seq hA
  ·rintro i x σ H1 hx ⟨v3,rfl,s1⟩;obtain⟨p,hp,c,rfl,hc0⟩:=Ê hX hx;have hc:=s1 _ _ hc0;obtain⟨p0,p1,p2⟩:=hB p (đ hp);have hi:i<ps.length:=(Ą.mp hp).1;have bS:=hT i (by lia);have dS:=Î (sumL (ps.take i) quI);have bd:((sumL (ps.take i) quI).den:Int).natAbs<2^4000:=bS.den;refine(ex1 rfl (ex1 rfl ⟨c,_,_,_,rfl,rfl,SqT.of hc,rfl,_,_,rfl,rfl,Ü 4000 bS.num p2 (by decide),ex1 rfl ⟨c,_,_,_,rfl,rfl,SqT.of hc,rfl,ex1 rfl ⟨_,_,rfl,rfl,Ü 4000 p1 bd (by decide),_,_,rfl,rfl,ex1 rfl (ex1 rfl ⟨c,_,_,_,rfl,rfl,SqT.of hc,rfl,_,_,rfl,rfl,Ü 4000 bd p2 (by decide),È ?_⟩)⟩⟩⟩));refine spLowest2.mk (Ez:=E0) (Int.mul_pos (by lia) p0) (Ă (Û bd p2) (Þ (by decide))) (fun v2 H2 s2 f2=>?_);rw[xL8 _ p p0]at f2;obtain⟨b,rfl,hb⟩:=f2;refine⟨b,ex1 rfl ⟨SqT.of hb,rfl,_,_,rfl,_,_,rfl,rfl,?_⟩⟩;have ep:ps.take (i+1)=ps.take i++[p]:=by rw[Ŋ,hp];rfl
   refine⟨some (.ref c),?_,s1.trans s2⟩;rw[ep,zM4];rfl
  ·rintro σ H1 ⟨v3,rfl,s1⟩;refine(ex1 rfl (ex1 rfl ⟨szn,fun p hp=>?_⟩));rw[lX,ŏ];exact k _ _ (s1.trans (Same.upd hp)) (FrV.newOf rfl rfl)
noncomputable abbrev zH2:Stmt:=top 67
theorem sc__law_kept:Ï ["_law_offer_here","_law_label_here","_law_now","_law_amounts","_law_condition_here","_law_parts","_law_entry","_law_amount"] ["_law_offer_here","_law_label_here","_law_now","_law_amounts"] (Ç zH2):=scF
theorem zX0 {ca:Ca}(D:DefAt K mg "_law_kept" zH2)(T:Txt K mg ca)(G__law_total:FnAt P w K mg base CX0 2 "_law_total" ["_law_wine_here"] (spLTot))(G__law_weighed:FnAt P w K mg base CX0 7 "_law_weighed" ["_law_condition_here","_law_wine_here","_law_now"] (spWghd))(G__law_sum:FnAt P w K mg base CX0 3 "_law_sum" ["_law_some"] (spLSum K)):FnAt P w K mg base CX0 8 "_law_kept" ["_law_offer_here","_law_label_here","_law_now","_law_amounts"] (spKept2 K):=by
 refine D.ok sc__law_kept (fun vs H Q E h=>?_) (fun _ _ _ _ _ _ us hl=>match us,hl with | [_,_,_,_],_=>rfl) (fun f cdv A outer s H vs Q E hr h=>?_)
 all_goals obtain⟨ao,al,aa,now,os,ls,zs,cs,x,rfl,hO,hPo,okW,w8,hL,hPl,c8,hA,bx,bS,yes,no⟩:=h
 ·rfl
 ·have nd:=sc__law_kept.nd;refine⟨_,(Ä (ů PassesOwn.never rfl (ç (K:=K) rfl (pv 1)) (Ì (i:=4) nd rfl (Or.inl rfl)) (Ä (Í (i:=5) nd rfl (Or.inl rfl) (é Â))
   (Ä (ů PassesOwn.never rfl (zN3 (K:=K) rfl (by rfl) T.z_zip (À (pv 0) (À (pv 3) Â))) (ì (K:=K) (n:=2) (by rfl) (by rfl) (Ñ (Ì (i:=6) nd rfl (Or.inl rfl)) (Ñ (Ì (i:=7) nd rfl (Or.inl rfl)) ë))) (Å (Ű (Ž (K:=K) rfl PySem.F.plainAttrs_list PySem.F.slot_list_append PySem.F.type_list_append í (pv 5) (À (Õ (À (Æ ß (pixT (K:=K) (pv 7) Á) (pfn G__law_weighed hr (À (pv 4) (À (pixT (K:=K) (pv 6) Á) (À (pv 2) Â))))) (À (Æ ß (pixT (K:=K) (pv 7) Á) (pfn G__law_total hr (À (pixT (K:=K) (pv 6) Á) Â))) Â))) Â)))))
   (Å (á (Ð υ (pixT (K:=K) (pfn G__law_sum hr (À (pv 5) Â)) Á) Á (Ò _)) (Å (É ž)) Ó)))))
   (Å (É ž))),?_⟩
  have lO:os.length=zs.length:=hPo.length;have lL:ls.length=cs.length:=hPl.length;obtain⟨as,ha,pA⟩:=hA;have lA:as.length=zs.length:=pA.length.trans (Ý _ _);refine(ex1 rfl ⟨al,rfl,⟨_,SqL.of hL⟩,?_⟩);refine zI6 (xs:=ls) (fun i σ H1=>∃(v4 v5 v6 v7:Option V),σ=[some (.ref ao),some (.ref al),some (.int now),some (.ref aa),v4,v5,v6,v7] /\ Same H H1 /\ ∀c,c<i->0<=sN zs.length (fun j=>wtQ now cs zs c j*x j)) ⟨none,none,none,none,rfl,Same.refl _,fun c hc=>absurd hc (ņ _)⟩ ?_ ?_ ?_
  ·rintro i σ H1 hi ⟨v4,v5,v6,v7,rfl,s1,al1⟩;exact SqL.of (s1 _ _ hL)
  ·rintro i y σ H1 hy ⟨v4,v5,v6,v7,rfl,s1,al1⟩;obtain⟨c,hc,rc,bc⟩:=Ê hPl hy;have hcm:=đ hc;have hi:i<cs.length:=(Ą.mp hc).1;refine⟨szn,fun pp hpp=>?_⟩;have tp:=Same.upd (o:=.lst []) hpp;have s2:=s1.trans tp;refine(ex1 rfl (ex1 rfl ⟨ao,aa,os,as,rfl,SqL.of (s2 _ _ hO),SqL.of (s2 _ _ ha),?_⟩));refine zV1 (xs:=os) (ys:=as) (fun j σ H3=>∃(v6 v7:Option V) (ws:List V),σ=[some (.ref ao),some (.ref al),some (.int now),some (.ref aa),some y,some (.ref pp),v6,v7] /\ Same H1 H3 /\ H3 pp=some (.lst ws) /\ Paired (PrI H3) ws ((Đ j).map (kpI now c zs x))) (by lia) ⟨_,_,[],rfl,tp,Ã,.nil⟩ ?_ ?_ ?_
   ·rintro j σ H3 hj ⟨v6,v7,ws,rfl,s3,h3,hW⟩;exact⟨SqL.of ((s1.trans s3) _ _ hO),SqL.of ((s1.trans s3) _ _ ha)⟩
   ·rintro j u v T σ H3 hu hv ⟨v6,v7,ws,rfl,s3,h3,hW⟩ hT;obtain⟨z,hz,ox⟩:=Ê hPo hu;obtain⟨r,hr,fy⟩:=Ê pA hv;obtain⟨hj,rfl⟩:=Ÿ hr;have ok:=okW z (đ hz);have tT:=Same.upd (o:=.tup [u,v]) hT;have s4:=(s1.trans s3).trans tT;obtain⟨a,wn,pr,rfl,hoa,wv1,_⟩:=ox.same s4;obtain⟨b,rfl,hb⟩:=fy.same s4;have h34:=tT _ _ h3;have lW:ws.length=j:=by rw[hW.length,ą,ē]
    have bj:=bx j hj;have bw:(wghZ now c z.1).natAbs<2^2700:=ă (zQ7 ok bc) (ļ (by decide) (by decide));have bt:(totZ z.1).natAbs<2^2700:=ă (Λ ok) (ļ (by decide) (by decide));refine⟨T,ex1 rfl ⟨SqT.of Ã,rfl,_,_,rfl,_,_,rfl,rfl,?_⟩⟩;refine(ex1 rfl ⟨.inl ⟨rfl,_,SqL.of h34⟩,ex1 rfl ⟨b,_,_,_,rfl,rfl,SqT.of hb,rfl,ex1 rfl (ex1 rfl ⟨a,_,_,_,rfl,rfl,SqT.of hoa,rfl,ex1 rfl (È ?_)⟩)⟩⟩);refine spWghd.mk (Ez:=E0) (RepC.same s4 rc) bc wv1 ok (fun H5 s5=>?_);refine⟨_,_,rfl,rfl,Ü 2700 bj.num bw (by decide),ex1 rfl ⟨b,_,_,_,rfl,rfl,SqT.of (s5 _ _ hb),rfl,ex1 rfl ⟨a,_,_,_,rfl,rfl,SqT.of (s5 _ _ hoa),rfl,È ?_⟩⟩⟩;refine spLTot.mk (Ez:=E0) (wv1.same s5) ok (fun H6 s6=>?_);refine⟨_,_,rfl,rfl,Ü 2700 bj.den bt (by decide),szn,fun q hq=>?_⟩;have tq:=Same.upd (o:=.tup [.int ((x j).num*wghZ now c z.1),.int (((x j).den:Int)*totZ z.1)]) hq;have s47:=s5.trans (s6.trans tq);have h37:=s47 _ _ h34;refine⟨pp,_,_,rfl,rfl,h37,sz (by lia),?_⟩;have tu:=ð (o:=.lst (ws++[.ref q])) h37 (fun _ z=>nomatch z);refine⟨_,_,ws++[.ref q],rfl,(s3.trans (tT.trans s47)).updD hpp,Ã,?_⟩;rw[Ř,ė];refine Paired.snoc (Paired.mapP hW fun _ _ f=>(f.same (tT.trans s47)).tup tu) ⟨q,rfl,tu _ _ ?_⟩;unfold kpI;rw[hz];exact Ã
   ·rintro σ H3 ⟨v6,v7,ws,rfl,s3,h3,hW⟩;rw[lO]at hW;refine(ex1 rfl ⟨pp,ws,ex1 rfl ⟨SqL.of h3,hW,fun p hp=>?_,fun j hj=>?_,fun v4 H4 s4 f4=>?_⟩⟩)
    ·obtain⟨j,hj,rfl⟩:=ŀ.mp hp;have hj:=ğ.mp hj;have ok:=okW _ (ĥ hj);have bj:=bx j hj;unfold kpI;rw[ā hj];refine⟨Int.mul_pos (Î (x j)) (Θ ok),?_,?_⟩
     ·exact Ă (Û (n:=600) bj.num (ă (zQ7 ok bc) (ļ (by decide) (by decide)))) (Þ (by decide))
     ·exact Ă (Û (m:=2700) (n:=600) bj.den (ă (Λ ok) (ļ (by decide) (by decide)))) (Þ (by decide))
    ·rw[ą,ē]at hj;rw[<- Ţ,ũ,Ŝ hj];exact bS c hcm j hj
    have es:=yX7 (x:=x) okW hc (Ć _);have sg:=xC8 (d:=(c.rat.den:Rat)) (y:=sN zs.length (fun j=>wtQ now cs zs i j*x j)) (by exact_mod_cast c.rat.den_pos);rw[es]at f4;obtain⟨b,rfl,hb⟩:=f4;have s14:=s3.trans s4;refine⟨b,_,_,_,rfl,rfl,SqT.of hb,rfl,_,_,rfl,rfl,ex1 rfl ?_⟩;refine ite2 (fun hn=>?_) (fun hn=>?_)
    ·have hn:((c.rat.den:Rat)*sN zs.length (fun j=>wtQ now cs zs i j*x j)).num<0:=of_decide_eq_true hn;exact no (fun all=>by have:=Ļ.mpr (sg.mpr (all i hi));lia) _ (s1.trans s14)
    ·have hn:¬((c.rat.den:Rat)*sN zs.length (fun j=>wtQ now cs zs i j*x j)).num<0:=fun e=>hn (decide_eq_true e);refine⟨_,_,_,_,rfl,s1.trans s14,fun c' hc'=>?_⟩;rcases Ę (ĕ hc') with q | q
     ·exact al1 c' q
     ·rw[q];exact sg.mp (Ļ.mp (by lia))
  ·rintro σ H1 ⟨v4,v5,v6,v7,rfl,s1,al1⟩;rw[lL]at al1;exact yes al1 _ s1
noncomputable abbrev zB2:Stmt:=top 68
theorem sc__law_is_blend:Ï ["_law_offer_here","_law_wish","_law_now","_law_amounts","_law_entry","_law_amount"] ["_law_offer_here","_law_wish","_law_now","_law_amounts"] (Ç zB2):=scF
theorem zL5 {ca:Ca}(D:DefAt K mg "_law_is_blend" zB2)(T:Txt K mg ca)(G__law_total:FnAt P w K mg base CX0 2 "_law_total" ["_law_wine_here"] (spLTot))(G__law_kept:FnAt P w K mg base CX0 8 "_law_kept" ["_law_offer_here","_law_label_here","_law_now","_law_amounts"] (spKept2 K))(G__law_sum:FnAt P w K mg base CX0 3 "_law_sum" ["_law_some"] (spLSum K)):FnAt P w K mg base CX0 9 "_law_is_blend" ["_law_offer_here","_law_wish","_law_now","_law_amounts"] (spIsB2 K):=by
 refine D.ok sc__law_is_blend (fun vs H Q E h=>?_) (fun _ _ _ _ _ _ us hl=>match us,hl with | [_,_,_,_],_=>rfl) (fun f cdv A outer s H vs Q E hr h=>?_)
 all_goals obtain⟨ao,aw,al,aa,now,os,ls,zs,cs,wv,wd,x,rfl,hO,hPo,okW,w8,hw,fw0,hL,hPl,c8,hA,bx,bX,bS,yes,no⟩:=h
 ·rfl
 ·have nd:=sc__law_is_blend.nd;refine⟨_,(Ä (ů PassesOwn.never rfl (zN3 (K:=K) rfl (by rfl) T.z_zip (À (pv 0) (À (pv 3) Â))) (ì (K:=K) (n:=2) (by rfl) (by rfl) (Ñ (Ì (i:=4) nd rfl (Or.inl rfl)) (Ñ (Ì (i:=5) nd rfl (Or.inl rfl)) ë))) (Å (á (PW.pt (Ζ (Ð υ (pixT (K:=K) (pv 5) Á) Á (Ò _)) (Γ (Ð yH3 (Æ ß Á (pixT (K:=K) (pv 5) Á)) (Æ ß (pfn G__law_total hr (À (pixT (K:=K) (pv 4) Á) Â)) (pixT (K:=K) (pv 5) Á)) (Ò _))))) (Å (É ž)) Ó)))
   (Å (É (Τ (ø (zN4 (K:=K) rfl hr) (pfn G__law_sum hr (À (pv 3) Â)) (pixT (K:=K) (pv 1) Á) (Ò _)) (Ο (pfn G__law_kept hr (À (pv 0) (À (pixT (K:=K) (pv 1) Á) (À (pv 2) (À (pv 3) Â)))))))))),?_⟩
  have lO:os.length=zs.length:=hPo.length;obtain⟨as,ha,pA⟩:=id hA;have lA:as.length=zs.length:=pA.length.trans (Ý _ _);refine(ex1 rfl (ex1 rfl ⟨ao,aa,os,as,rfl,SqL.of hO,SqL.of ha,?_⟩));refine zV1 (xs:=os) (ys:=as) (fun j σ H1=>∃(v4 v5:Option V),σ=[some (.ref ao),some (.ref aw),some (.int now),some (.ref aa),v4,v5] /\ Same H H1 /\ ∀i,i<j->0<=x i /\ x i<=ttQ zs i) (by lia) ⟨none,none,rfl,Same.refl _,fun i hi=>absurd hi (ņ _)⟩ ?_ ?_ ?_
  ·rintro j σ H1 hj ⟨v4,v5,rfl,s1,al1⟩;exact⟨SqL.of (s1 _ _ hO),SqL.of (s1 _ _ ha)⟩
  ·rintro j u v T σ H1 hu hv ⟨v4,v5,rfl,s1,al1⟩ hT;obtain⟨z,hz,ox⟩:=Ê hPo hu;obtain⟨r,hr,fy⟩:=Ê pA hv;obtain⟨hj,rfl⟩:=Ÿ hr;have ok:=okW z (đ hz);have tT:=Same.upd (o:=.tup [u,v]) hT;have s2:=s1.trans tT;obtain⟨a,wn,pr,rfl,hoa,wv1,_⟩:=ox.same s2;obtain⟨b,rfl,hb⟩:=fy.same s2;have bj:=bx j hj;refine⟨T,ex1 rfl ⟨SqT.of Ã,rfl,_,_,rfl,_,_,rfl,rfl,?_⟩⟩;refine(ex1 rfl ⟨b,_,_,_,rfl,rfl,SqT.of hb,rfl,_,_,rfl,rfl,ex1 rfl ?_⟩);refine ite2 (fun hneg=>?_) (fun hneg=>?_)
   ·have hneg:(x j).num<0:=of_decide_eq_true hneg;exact no (fun f=>by have:=Ļ.mpr (f.low j hj).1;lia) _ s2
   have hnn:0<=x j:=Ļ.mp (by
    have h:¬(x j).num<0:=fun e=>hneg (decide_eq_true e);lia)
   have bt:(totZ z.1).natAbs<2^2700:=ă (Λ ok) (ļ (by decide) (by decide));refine(ex1 rfl ⟨b,_,_,_,rfl,rfl,SqT.of hb,rfl,_,_,rfl,rfl,Ü 2700 (Ă (show (27720:Int).natAbs<2^20 by decide) (Þ (by decide))) bj.num (by decide),ex1 rfl ⟨a,_,_,_,rfl,rfl,SqT.of hoa,rfl,È ?_⟩⟩);refine spLTot.mk (Ez:=E0) wv1 ok (fun H3 s3=>?_);refine(ex1 rfl ⟨b,_,_,_,rfl,rfl,SqT.of (s3 _ _ hb),rfl,_,_,rfl,rfl,Ü 2700 bt bj.den (by decide),_,_,rfl,rfl,ex1 rfl ?_⟩);refine ite2 (fun hlt=>?_) (fun hlt=>?_)
   ·have hlt:totZ z.1*((x j).den:Int)<27720*(x j).num:=of_decide_eq_true hlt;have hlt:totQ z.1<x j:=(yX6 ok (x j)).mp hlt;exact no (fun f=>by have:=(f.low j hj).2;rw[zK9 hz]at this;exact absurd hlt (ĵ.mpr this)) _ (s2.trans s3)
   ·have hle:x j<=totQ z.1:=ĵ.mp fun e=>hlt (decide_eq_true ((yX6 ok (x j)).mpr e));refine⟨_,_,rfl,s2.trans s3,fun i hi=>?_⟩;rcases Ę (ĕ hi) with q | q
    ·exact al1 i q
    ·rw[q,zK9 hz];exact⟨hnn,hle⟩
  ·rintro σ H1 ⟨v4,v5,rfl,s1,al1⟩;rw[lO]at al1;have pA1:Paired (FrV H1) as (nR zs.length x):=Paired.mapP pA fun _ _ f=>f.same s1;refine(ex1 rfl ⟨aa,as,ex1 rfl ⟨SqL.of (s1 _ _ ha),frI pA1,fun p hp=>?_,fun j hj=>?_,fun u2 H2 s2 f2=>?_⟩⟩)
   ·obtain⟨j,hj,rfl⟩:=ŀ.mp hp;have bj:=bx j (ğ.mp hj);exact⟨Î (x j),Ă bj.num (Þ (by decide)),Ă bj.den (Þ (by decide))⟩
   ·rw[ą,ē]at hj;rw[<- Ţ,ũ,Ŝ hj,yY0];exact bX j hj
   rw[yY0]at f2;have s02:=s1.trans s2;have hw2:=s02 _ _ hw;refine(ex1 rfl ⟨aw,_,_,_,rfl,rfl,SqT.of hw2,rfl,_,_,f2.rep,(fw0.same s02).rep,zB4 _ _,ex1 rfl ?_⟩);rw[zQ6,zQ4];refine ite2 (fun h=>?_) (fun h=>?_)
   ·have heq:sN zs.length x=wd:=of_decide_eq_true h;refine(ex1 rfl (ex1 rfl ⟨aw,_,_,_,rfl,rfl,SqT.of hw2,rfl,ex1 rfl (ex1 rfl (È ?_))⟩));exact spKept2.mk (Ez:=E0) (s02 _ _ hO) (Paired.mapP hPo (fun _ _ f=>f.same s02)) okW w8 (s02 _ _ hL) (Paired.mapP hPl (fun _ _ f=>⟨RepC.same s02 f.1,f.2⟩)) c8 (hA.same s02) bx bS (fun all H3 s3=>yes ⟨al1,heq,all⟩ _ (s02.trans s3)) (fun nall H3 s3=>no (fun f=>nall f.wts) _ (s02.trans s3))
   ·have hne:¬sN zs.length x=wd:=fun e=>h (decide_eq_true e);exact no (fun f=>hne f.sum) _ s02
noncomputable abbrev zH3:Stmt:=top 69
theorem sc__law_cost:Ï ["_law_offer_here","_law_amounts"] ["_law_offer_here","_law_amounts"] (Ç zH3):=scF
theorem zX1 {ca:Ca}(D:DefAt K mg "_law_cost" zH3)(T:Txt K mg ca)(G__law_sum:FnAt P w K mg base CX0 3 "_law_sum" ["_law_some"] (spLSum K)):FnAt P w K mg base CX0 4 "_law_cost" ["_law_offer_here","_law_amounts"] (spLCost K):=by
 refine D.ok sc__law_cost (fun vs H Q E h=>?_) (fun _ _ _ _ _ _ us hl=>match us,hl with | [_,_],_=>rfl) (fun f cdv A outer s H vs Q E hr h=>?_)
 all_goals obtain⟨ao,aa,os,zs,x,rfl,hO,hPo,hA,w4,okP,bx,bS,k⟩:=h
 ·rfl
 ·have nd:=sc__law_cost.nd;refine⟨_,(Å (É (pfn G__law_sum hr (À (ò ["_law_entry","_law_amount"] [] [] rfl (by rfl) (zN3 (K:=K) rfl (by rfl) T.z_zip (À (pv 0) (À (pv 1) Â))) (fun _ _ _ _=>(ì (K:=K) (n:=2) (by rfl) (by rfl) (Ñ (Ì (i:=0) (show List.Nodup (["_law_entry","_law_amount"]:List Str) from by decide) rfl (Or.inl rfl) (hf:=Or.inr (by rfl))) (Ñ (Ì (i:=1) (show List.Nodup (["_law_entry","_law_amount"]:List Str) from by decide) rfl (Or.inl rfl) (hf:=Or.inr (by rfl))) ë)))) (fun _ _ _ _=>ã) (fun _ _ _ _=>(Õ (À (Æ ß (pixT (K:=K) (pv 1) Á) (pixT (K:=K) (pixT (K:=K) (pv 0) Á) Á)) (À (Æ ß (pixT (K:=K) (pv 1) Á) (pixT (K:=K) (pixT (K:=K) (pv 0) Á) Á)) Â))))) Â)))),?_⟩;have lO:os.length=zs.length:=hPo.length;obtain⟨us,ha,pU⟩:=hA;have lU:us.length=zs.length:=pU.length.trans (Ý _ _);refine(ex1 rfl (ex1 rfl ⟨ao,aa,os,us,rfl,SqL.of hO,SqL.of ha,fun Dd hD=>?_⟩));refine zP0 (xs:=os) (ys:=us) (fun j σ' H'=>∃(v0 v1:Option V) (qs:List V),σ'=[v0,v1] /\ Same H H' /\ H' Dd=some (.lst qs) /\ Paired (PrI H') qs ((Đ j).map (cpI zs x))) (by lia) ⟨none,none,[],rfl,Same.upd hD,Ã,.nil⟩ ?_ ?_ ?_
  ·rintro j σ' H' hj ⟨v0,v1,qs,rfl,s1,hd,hF⟩;exact⟨SqL.of (s1 _ _ hO),SqL.of (s1 _ _ ha)⟩
  ·rintro j y u T' σ' H' hy hu ⟨v0,v1,qs,rfl,s1,hd,hF⟩ hT;obtain⟨z,hz,oz⟩:=Ê hPo hy;obtain⟨r1,hr1,fu⟩:=Ê pU hu;obtain⟨hj,rfl⟩:=Ÿ hr1;have tT:=Same.upd (o:=.tup [y,u]) hT;have s2:=s1.trans tT;have lQ:qs.length=j:=by rw[hF.length,ą,ē]
   refine⟨T',ex1 rfl ⟨SqT.of Ã,rfl,_,_,rfl,_,_,rfl,rfl,?_⟩⟩;have hd2:=tT _ _ hd;have hF2:Paired (PrI (upd H' T' (.tup [y,u]))) qs ((Đ j).map (cpI zs x)):=Paired.mapP hF fun _ _ ⟨c,e,h⟩=>⟨c,e,tT _ _ h⟩;generalize upd H' T' (.tup [y,u])=H2 at *;obtain⟨a,w1',pr,rfl,hoa,_,⟨b,rfl,hb⟩⟩:=oz.same s2;obtain⟨c,rfl,hc⟩:=fu.same s2;have bz:=(okP z (đ hz)).bd;have bj:=bx j hj;have b1:(x j).num.natAbs<2^2700:=bj.num;have b2:((x j).den:Int).natAbs<2^2700:=bj.den;have b3:z.2.num.natAbs<2^2700:=Ă bz.num (Þ (by decide));have b4:(z.2.den:Int).natAbs<2^2700:=Ă bz.den (Þ (by decide));refine(ex1 rfl ⟨c,_,_,_,rfl,rfl,SqT.of hc,rfl,ex1 rfl ⟨a,_,_,_,rfl,rfl,SqT.of hoa,rfl,b,_,_,_,rfl,rfl,SqT.of hb,rfl,_,_,rfl,rfl,Ü 2700 b1 b3 (by decide),ex1 rfl ⟨c,_,_,_,rfl,rfl,SqT.of hc,rfl,ex1 rfl ⟨a,_,_,_,rfl,rfl,SqT.of hoa,rfl,b,_,_,_,rfl,rfl,SqT.of hb,rfl,_,_,rfl,rfl,Ü 2700 b2 b4 (by decide),szn,fun p3 hp3=>?_⟩⟩⟩⟩);have t3:=Same.upd (o:=.tup [.int ((x j).num*z.2.num),.int ((x j).den*z.2.den)]) hp3;have hd3:=t3 _ _ hd2;refine⟨_,hd3,sz (by lia),_,_,qs++[.ref p3],rfl,(s2.trans t3).updD hD,Ã,?_⟩;rw[Ř,ė];have tu:=ð (o:=.lst (qs++[.ref p3])) hd3 (fun _ z=>nomatch z);refine Paired.snoc (Paired.mapP hF2 fun _ _ ⟨c,e,h⟩=>⟨c,e,tu _ _ (t3 _ _ h)⟩) ⟨p3,rfl,tu _ _ ?_⟩;unfold cpI;rw[zQ3 hz];exact Ã
  rintro σ' H1 ⟨v0,v1,qs,rfl,s1,hd,hF⟩;rw[lO]at hF;refine(È ?_);refine spLSum.mk (Ez:=E0) (SqL.of hd) hF (fun p hp=>?_) (fun k hk=>?_) (fun v H2 s2 f2=>k v H2 (s1.trans s2) (by rw[yY3]at f2;exact f2))
  ·obtain⟨j,hj,rfl⟩:=ŀ.mp hp;have hj:=ğ.mp hj;obtain⟨z,hz⟩:∃z,zs[j]?=some z:=⟨_,ā hj⟩;have bz:=(okP z (đ hz)).bd;have bj:=bx j hj;unfold cpI;rw[zQ3 hz];have d1:=Î (x j);have d2:=Î z.2;exact⟨Int.mul_pos d1 d2,Ă (Û bj.num bz.num) (Þ (by decide)),Ă (Û (m:=2700) (n:=9) bj.den bz.den) (Þ (by decide))⟩
  ·rw[ą,ē]at hk;rw[<- Ţ,ũ,Ŝ hk,yY3];exact bS k hk
noncomputable abbrev zA8:Stmt:=top 70
theorem sc__law_fractions:Ï ["_law_some","_law_many"] ["_law_some","_law_many"] (Ç zA8):=scF
theorem zK3 {ca:Ca}(D:DefAt K mg "_law_fractions" zA8)(T:Txt K mg ca)(G__law_is_fraction:FnAt P w K mg base CX0 2 "_law_is_fraction" ["_law_found"] (yJ4)):FnAt P w K mg base CX0 3 "_law_fractions" ["_law_some","_law_many"] (spFr2):=by
 refine D.ok sc__law_fractions (fun vs H Q E h=>?_) (fun _ _ _ _ _ _ us hl=>match us,hl with | [_,_],_=>rfl) (fun f cdv A outer s H vs Q E hr h=>?_)
 all_goals obtain⟨a,n,f,rfl,hA,n30,k⟩:=h
 ·rfl
 ·have nd:=sc__law_fractions.nd;refine⟨_,(Ä (á (PW.pt (Ζ (ŭ (ö (Ë (û (K:=K) rfl) (by rfl) T.z_isinstance â (À (pv 0) (À (Ż (v:=.ty "list") (by rfl) T.z_list Α rfl) Â))))) (Γ (Ð zS2 (Ë (Ö (K:=K) rfl) (by rfl) T.z_len PySem.boot_len (À (pv 0) Â)) (pv 1) (Ò _))))) (Å (É ž)) Ó)
   (Å (É (Ë (zI8 (K:=K) rfl rfl) (by rfl) T.z_all yG3 (À (ò ["_law_one"] [] [] rfl (by rfl) (ç (K:=K) rfl (pv 0)) (fun _ _ _ _=>(Ì (i:=0) (show List.Nodup (["_law_one"]:List Str) from by decide) rfl (Or.inl rfl))) (fun _ _ _ _=>ã) (fun _ _ _ _=>(Τ (pfn G__law_is_fraction hr (À (pv 0) Â)) (Ο (ø yL7 (pixT (K:=K) (pv 0) Á) Á (Ò _)))))) Â))))),?_⟩
  obtain⟨vs,ha,pV⟩:=hA;have lV:vs.length=n:=pV.length.trans (Ý _ _);refine(ex1 rfl ⟨_,_,_,_,rfl,þ (tyL ha),ŷ (by decide) (by decide),ex1 rfl ?_⟩);refine iteF ?_;refine(ex1 rfl ⟨_,_,rfl,.inl ⟨_,SqL.of ha,rfl⟩,ex1 rfl ⟨rfl,ex1 rfl ?_⟩⟩);rw[show decide (V.int ((vs.length:Nat):Int)=V.int ((n:Nat):Int))=true from decide_eq_true (by rw[lV])];refine iteF ?_;refine(ex1 rfl ⟨a,rfl,⟨_,SqL.of ha⟩,fun Dd hD=>?_⟩);refine æ (xs:=vs) (fun j σ' H'=>∃(v:Option V),σ'=[v] /\ Same H H' /\ H' Dd=some (.lst (((Đ j).map fun j=>decide (0<=f j)).map V.bl))) ⟨none,rfl,Same.upd hD,Ã⟩ ?_ ?_ ?_
  ·rintro j σ' H' hj ⟨v,rfl,s1,hd⟩;exact SqL.of (s1 _ _ ha)
  ·rintro j y σ' H' hy ⟨v,rfl,s1,hd⟩;obtain⟨r,hr,fy⟩:=Ê pV hy;obtain⟨hj,rfl⟩:=Ÿ hr;have fy1:=fy.same s1;obtain⟨c,rfl,hc⟩:=id fy1;refine(ex1 rfl ⟨_,f j,rfl,fy1,ex1 rfl (iteT ?_)⟩);refine(ex1 rfl ⟨c,_,_,_,rfl,rfl,SqT.of hc,rfl,_,_,rfl,rfl,?_⟩);refine⟨_,hd,by rw[ą,ą,ē];exact sz (by lia),ex1 rfl ⟨s1.updD hD,?_⟩⟩;rw[Ã,Ř,ė,ė];show some (HO.lst (_++[V.bl (decide ((0:Int)<=(f j).num))]))=_;rw[decide_eq_decide.mpr Ļ];rfl
  rintro σ' H1 ⟨v,rfl,s1,hd⟩;rw[lV]at hd;exact⟨Dd,ex1 rfl ⟨SqL.of hd,k _ H1 s1 all_rng⟩⟩
noncomputable abbrev zE8:Stmt:=top 71
theorem sc__law_worth:Ï ["_law_paper","_law_entry","_law_label_here","_law_now","_law_k","_law_parts","_law_condition_here","_law_price","_law_bottom"] ["_law_paper","_law_entry","_law_label_here","_law_now","_law_k"] (Ç zE8):=scF
theorem zT0 {ca:Ca}(D:DefAt K mg "_law_worth" zE8)(T:Txt K mg ca)(G__law_total:FnAt P w K mg base CX0 2 "_law_total" ["_law_wine_here"] (spLTot))(G__law_weighed:FnAt P w K mg base CX0 7 "_law_weighed" ["_law_condition_here","_law_wine_here","_law_now"] (spWghd))(G__law_sum:FnAt P w K mg base CX0 3 "_law_sum" ["_law_some"] (spLSum K)):FnAt P w K mg base CX0 8 "_law_worth" ["_law_paper","_law_entry","_law_label_here","_law_now","_law_k"] (xF4 K):=by
 refine D.ok sc__law_worth (fun vs H Q E h=>?_) (fun _ _ _ _ _ _ us hl=>match us,hl with | [_,_,_,_,_],_=>rfl) (fun f cdv A outer s H vs Q E hr h=>?_)
 all_goals obtain⟨ao,aw,al,now,os,ls,zs,cs,wv,wd,pt,u,vq,wq,ae,k,rfl,o,hos,hP,ps,fin⟩:=h
 ·rfl
 ·have nd:=sc__law_worth.nd;refine⟨_,(Ä (Í (i:=5) nd rfl (Or.inl rfl) (é (À (pixT (K:=K) (pv 0) Á) (À (Õ (À (Æ ô Á (pixT (K:=K) (pixL (K:=K) (pixT (K:=K) (pv 0) Á) (pv 4)) Á)) (À (pixT (K:=K) (pixL (K:=K) (pixT (K:=K) (pv 0) Á) (pv 4)) Á) Â))) Â))))
   (Ä (ů PassesOwn.never rfl (zN3 (K:=K) rfl (by rfl) T.z_zip (À (pv 2) (À (pixT (K:=K) (pv 0) Á) Â))) (ì (K:=K) (n:=2) (by rfl) (by rfl) (Ñ (Ì (i:=6) nd rfl (Or.inl rfl)) (Ñ (Ì (i:=7) nd rfl (Or.inl rfl)) ë))) (Ä (Í (i:=8) nd rfl (Or.inl rfl) (Æ ß (Æ ß (pixT (K:=K) (pv 7) Á) (pfn G__law_total hr (À (pixT (K:=K) (pv 1) Á) Â))) (pixT (K:=K) (pixT (K:=K) (pv 6) Á) Á)))
   (Å (Ű (Ž (K:=K) rfl PySem.F.plainAttrs_list PySem.F.slot_list_append PySem.F.type_list_append í (pv 5) (À (Õ (À (Æ ß (pixT (K:=K) (pv 7) Á) (pfn G__law_weighed hr (À (pv 6) (À (pixT (K:=K) (pv 1) Á) (À (pv 3) Â))))) (À (pv 8) Â))) Â))))))
   (Å (É (pfn G__law_sum hr (À (pv 5) Â)))))),?_⟩
  obtain⟨t,uv,pv1,pw1,rfl,ht,fu,lv,lw⟩:=hP;have hL:=o.hL;have hPl:=o.hC;have okc:=o.okc;have c8:=o.c8;have w8:=o.w4;obtain⟨z,hk,hE⟩:=Ê o.hP hos;have ok:=o.okW z (đ hk);have kw:k<zs.length:=(Ą.mp hk).1;obtain⟨w1,pr0,hae,wn⟩:∃w1 pr,H ae=some (.tup [w1,pr]) /\ WnV H w1 z.1:=by
   obtain⟨a,w1,pr,e,h1,h2,_⟩:=hE;cases e;exact⟨w1,pr,h1,h2⟩
  obtain⟨us,vk,hus,lus,hak,fk⟩:=lw.at kw;obtain⟨cw,rfl,hcw⟩:=fk;obtain⟨vs,hvs,pV⟩:=id lv;have lV:vs.length=cs.length:=pV.length.trans (Ý _ _);have lL:ls.length=cs.length:=hPl.length;obtain⟨cu,rfl,hcu⟩:=id fu;refine(ex1 rfl ⟨t,_,_,_,rfl,rfl,SqT.of ht,rfl,ex1 rfl ⟨t,_,_,_,rfl,rfl,SqT.of ht,rfl,ex1 rfl ⟨pw1,_,_,_,rfl,rfl,SqL.of hus,hak,cw,_,_,_,rfl,rfl,SqT.of hcw,rfl,_,_,rfl,rfl,ex1 rfl ⟨t,_,_,_,rfl,rfl,SqT.of ht,rfl,ex1 rfl ⟨pw1,_,_,_,rfl,rfl,SqL.of hus,hak,cw,_,_,_,rfl,rfl,SqT.of hcw,rfl,szn,fun p1 hp1=>⟨szn,fun p2 hp2=>?_⟩⟩⟩⟩⟩⟩);let wk:Rat:=wq k;let uu:Rat:=u;have t1:=Same.upd (o:=.tup [.int (0 - wk.num),.int (wk.den:Int)]) hp1;have e1:upd H p1 (.tup [.int (0 - wk.num),.int (wk.den:Int)]) p1=some (.tup [.int (0 - wk.num),.int (wk.den:Int)]):=Ã;have t2:=Same.upd (o:=.lst [V.ref cu,V.ref p1]) hp2;have e2:upd (upd H p1 (.tup [.int (0 - wk.num),.int (wk.den:Int)])) p2 (.lst [V.ref cu,V.ref p1]) p2=some (.lst [V.ref cu,V.ref p1]):=Ã;have e1:=t2 _ _ e1;have s2:=t1.trans t2;have hp20:=t1.free hp2;show Ends.nx _ [some (.ref t),some (.ref ae),some (.ref al),some (.int now),some (.int (k:Nat)),some (.ref p2),none,none,none] _;have pr2:Paired (PrI (upd (upd H p1 (.tup [.int (0 - wk.num),.int (wk.den:Int)])) p2 (.lst [V.ref cu,V.ref p1]))) [V.ref cu,V.ref p1] ((uu.num,(uu.den:Int))::(0 - wk.num,(wk.den:Int))::(Đ 0).map (wpI now cs z vq)):=.cons ⟨cu,rfl,s2 _ _ hcu⟩ (.cons ⟨p1,rfl,e1⟩ .nil);generalize upd (upd H p1 (.tup [.int (0 - wk.num),.int (wk.den:Int)])) p2 (.lst [V.ref cu,V.ref p1])=H2 at *;refine(ex1 rfl (ex1 rfl ⟨t,_,_,_,rfl,rfl,SqT.of (s2 _ _ ht),rfl,al,pv1,ls,vs,rfl,SqL.of (s2 _ _ hL),SqL.of (s2 _ _ hvs),?_⟩));refine zV1 (xs:=ls) (ys:=vs) (fun i σ H3=>∃(v6 v7 v8:Option V) (xs:List V),σ=[some (.ref t),some (.ref ae),some (.ref al),some (.int now),some (.int (k:Nat)),some (.ref p2),v6,v7,v8] /\ Same H H3 /\ H3 p2=some (.lst xs) /\ Paired (PrI H3) xs ((uu.num,(uu.den:Int))::(0 - wk.num,(wk.den:Int))::(Đ i).map (wpI now cs z vq))) (by lia) ⟨none,none,none,ex1 rfl ⟨s2,e2,pr2⟩⟩ ?_ ?_ ?_
  ·rintro i σ H3 hi ⟨v6,v7,v8,xs,rfl,s3,h3,hX⟩;exact⟨SqL.of (s3 _ _ hL),SqL.of (s3 _ _ hvs)⟩
  ·rintro i y v T σ H3 hy hv ⟨v6,v7,v8,xs,rfl,s3,h3,hX⟩ hT;obtain⟨cc,hc,rc,bc⟩:=Ê hPl hy;obtain⟨r,hr,fv⟩:=Ê pV hv;obtain⟨hi,rfl⟩:=Ÿ hr;have tT:=Same.upd (o:=.tup [y,v]) hT;refine⟨T,ex1 rfl ⟨SqT.of Ã,rfl,_,_,rfl,_,_,rfl,rfl,?_⟩⟩;have s4:=s3.trans tT;have h4:=tT _ _ h3;have hX4:Paired (PrI (upd H3 T (.tup [y,v]))) xs ((uu.num,(uu.den:Int))::(0 - wk.num,(wk.den:Int))::(Đ i).map (wpI now cs z vq)):=Paired.mapP hX fun _ _ f=>f.same tT;generalize upd H3 T (.tup [y,v])=H4 at *;have rc4:=RepC.same s4 rc;obtain⟨ca,cb,xs',rfl,hca,hat1,hcb⟩:=rc4.snd;obtain⟨b,rfl,hb⟩:=fv.same s4;have lX:xs.length=i+2:=by rw[hX4.length];simp
   have bi:=ps.bv i (by lia);have oc:=okc cc (đ hc);have bw:(wghZ now cc z.1).natAbs<2^2700:=ă (zQ7 ok bc) (ļ (by decide) (by decide));have bt:(totZ z.1).natAbs<2^2700:=ă (Λ ok) (ļ (by decide) (by decide));have btt:(((vq i).den:Int)*totZ z.1).natAbs<2^2900:=Ă (Û (m:=2700) (n:=130) bi.den (ă (Λ ok) (by decide))) (Þ (by decide));have bdc:(cc.rat.den:Int).natAbs<2^2900:=Ă bc.den (Þ (by decide));refine(ex1 rfl ⟨b,_,_,_,rfl,rfl,SqT.of hb,rfl,ex1 rfl ⟨ae,_,_,_,rfl,rfl,SqT.of (s4 _ _ hae),rfl,È ?_⟩⟩);refine spLTot.mk (Ez:=E0) (wn.same s4) ok (fun H5 s5=>?_);refine⟨_,_,rfl,rfl,Ü 2700 bi.den bt (by decide),ex1 rfl ⟨ca,_,_,_,rfl,rfl,SqT.of (s5 _ _ hca),hat1,cb,_,_,_,rfl,rfl,SqT.of (s5 _ _ hcb),rfl,_,_,rfl,rfl,Ü 2900 btt bdc (by decide),?_⟩⟩;have s45:=s4.trans s5;have h5:=s5 _ _ h4;refine(ex1 rfl ⟨.inl ⟨rfl,_,SqL.of h5⟩,ex1 rfl ⟨b,_,_,_,rfl,rfl,SqT.of (s5 _ _ hb),rfl,ex1 rfl (ex1 rfl ⟨ae,_,_,_,rfl,rfl,SqT.of (s45 _ _ hae),rfl,ex1 rfl ⟨_,w1,now,cc,z.1,rfl,RepC.same s5 rc4,bc,wn.same s45,ok,fun H6 s6=>?_⟩⟩)⟩⟩);refine⟨_,_,rfl,rfl,Ü 2700 bi.num bw (by decide),ex1 rfl ⟨szn,fun q hq=>?_⟩⟩;have tq:=Same.upd (o:=.tup [.int ((vq i).num*wghZ now cc z.1),.int (((vq i).den:Int)*totZ z.1*(cc.rat.den:Int))]) hq;have s57:=s6.trans tq;have h7:=s57 _ _ h5;refine⟨p2,_,_,rfl,rfl,h7,sz (by lia),?_⟩;have tu:=ð (o:=.lst (xs++[.ref q])) h7 (fun _ z=>nomatch z);refine⟨_,_,_,xs++[.ref q],rfl,(s45.trans s57).updD hp20,Ã,?_⟩;rw[Ř,ė,<- List.cons_append,<- List.cons_append];refine Paired.snoc (Paired.mapP hX4 fun _ _ f=>(f.same (s5.trans s57)).tup tu) ⟨q,rfl,tu _ _ ?_⟩;unfold wpI;rw[hc];exact Ã
  ·rintro σ H3 ⟨v6,v7,v8,xs,rfl,s3,h3,hX⟩;rw[lL]at hX;have qa:quI (uu.num,(uu.den:Int))=uu:=yA5 uu;have qb:quI (0 - wk.num,(wk.den:Int)) = -wk:=(yW7 _ _).trans (by rw[yA5]);have tk:∀i,i<=cs.length->sumL ((uu.num,(uu.den:Int))::(0 - wk.num,(wk.den:Int))::(Đ i).map (wpI now cs z vq)) quI=uu - wk+sN i (fun i=>vq i*wtQ now cs zs i k):=fun i hi=>by
    rw[ä,ä,qa,qb,xE4 (zs:=zs) (k:=k) hk ok hi];grind
   refine(ex1 rfl ⟨p2,xs,ex1 rfl ⟨SqL.of h3,hX,fun p hp=>?_,fun j hj=>?_,fun v4 H4 s4 f4=>fin v4 H4 (s3.trans s4) (by rw[tk _ (Ć _)]at f4;exact f4)⟩⟩)
   ·have bk:=ps.bw k kw;rcases Ė.mp hp with e | e
    ·rw[e];exact⟨Î uu,Ă ps.bu.num (Þ (by decide)),Ă ps.bu.den (Þ (by decide))⟩
    rcases Ė.mp e with e | e
    ·rw[e];refine⟨Î wk,?_,Ă bk.den (Þ (by decide))⟩;show (0 - wk.num).natAbs<_;rw[Int.zero_sub,Int.natAbs_neg];exact Ă bk.num (Þ (by decide))
    ·obtain⟨i,hi,rfl⟩:=ŀ.mp e;have hi:=ğ.mp hi;have bi:=ps.bv i (by lia);obtain⟨y,_,rc,bc⟩:=zI3 hPl (ā hi);unfold wpI;rw[ā hi];refine⟨Int.mul_pos (Int.mul_pos (Î _) (Θ ok)) (Î _),?_,?_⟩
     ·exact Ă (Û (n:=600) bi.num (ă (zQ7 ok bc) (ļ (by decide) (by decide)))) (Þ (by decide))
     ·exact Ă (Û (m:=2830) (n:=200) (Û (m:=2700) (n:=130) bi.den (ă (Λ ok) (by decide))) bc.den) (Þ (by decide))
   ·match j,hj with
    | 0,_ =>
     show Bd 4000 (0:Rat);exact⟨by decide,by decide⟩
    | 1,_ =>
     show Bd 4000 (sumL [(uu.num,(uu.den:Int))] quI);rw[ä,qa];show Bd 4000 (uu+0);rw[Rat.add_zero];exact ps.bu.mono (by decide)
    | i+2,hj =>
     have hi:i<=cs.length:=by simp at hj;lia
     show Bd 4000 (sumL ((uu.num,(uu.den:Int))::(0 - wk.num,(wk.den:Int))::((Đ cs.length).map (wpI now cs z vq)).take i) quI);rw[<- Ţ,ũ,Ŝ hi,tk i hi];exact ps.b2 k kw i hi
noncomputable abbrev zF3:Stmt:=top 72
theorem sc__law_shows:Ï ["_law_offer_here","_law_wish","_law_now","_law_paper","_law_prices","_law_parts","_law_k","_law_value"] ["_law_offer_here","_law_wish","_law_now","_law_paper","_law_prices"] (Ç zF3):=scF
theorem zT5 {ca:Ca}(D:DefAt K mg "_law_shows" zF3)(T:Txt K mg ca)(G__law_is_fraction:FnAt P w K mg base CX0 2 "_law_is_fraction" ["_law_found"] (yJ4))(G__law_fractions:FnAt P w K mg base CX0 3 "_law_fractions" ["_law_some","_law_many"] (spFr2))(G__law_worth:FnAt P w K mg base CX0 8 "_law_worth" ["_law_paper","_law_entry","_law_label_here","_law_now","_law_k"] (xF4 K))(G__law_total:FnAt P w K mg base CX0 2 "_law_total" ["_law_wine_here"] (spLTot))(G__law_sum:FnAt P w K mg base CX0 3 "_law_sum" ["_law_some"] (spLSum K)):FnAt P w K mg base CX0 9 "_law_shows" ["_law_offer_here","_law_wish","_law_now","_law_paper","_law_prices"] (spShw K):=by
 refine D.ok sc__law_shows (fun vs H Q E h=>?_) (fun _ _ _ _ _ _ us hl=>match us,hl with | [_,_,_,_,_],_=>rfl) (fun f cdv A outer s H vs Q E hr h=>?_)
 all_goals obtain⟨ao,aw,al,now,os,ls,zs,cs,wv,wd,pt,u,vq,wq,ap,f,rfl,o,hP,pc,hF,bf,fin,no⟩:=h
 ·rfl
 ·have nd:=sc__law_shows.nd;refine⟨_,(Ä (á (PW.pt (Ζ (ŭ (ö (Ë (û (K:=K) rfl) (by rfl) T.z_isinstance â (À (pv 3) (À (Ż (v:=.ty "tuple") (by rfl) T.z_tuple zD8 rfl) Â))))) (Ζ (Ð zS2 (Ë (Ö (K:=K) rfl) (by rfl) T.z_len PySem.boot_len (À (pv 3) Â)) Á (Ò _)) (Γ (ŭ (ö (pfn G__law_is_fraction hr (À (pixT (K:=K) (pv 3) Á) Â)))))))) (Å (É ζ)) Ó)
   (Ä (á (PW.pt (Ζ (ŭ (ö (pfn G__law_fractions hr (À (pixT (K:=K) (pv 3) Á) (À (Ë (Ö (K:=K) rfl) (by rfl) T.z_len PySem.boot_len (À (pixT (K:=K) (pv 1) Á) Â)) Â))))) (Γ (ŭ (ö (pfn G__law_fractions hr (À (pixT (K:=K) (pv 3) Á) (À (Ë (Ö (K:=K) rfl) (by rfl) T.z_len PySem.boot_len (À (pv 0) Â)) Â)))))))) (Å (É ζ)) Ó)
   (Ä (Í (i:=5) nd rfl (Or.inl rfl) (é (À (Õ (À (Æ ß (pixT (K:=K) (pixT (K:=K) (pv 3) Á) Á) (pixT (K:=K) (pixT (K:=K) (pv 1) Á) Á)) (À (Æ ß (pixT (K:=K) (pixT (K:=K) (pv 3) Á) Á) (pixT (K:=K) (pixT (K:=K) (pv 1) Á) Á)) Â))) Â)))
   (Ä (ů PassesOwn.never rfl (ź (by rfl) T.z_range (À (Ë (Ö (K:=K) rfl) (by rfl) T.z_len PySem.boot_len (À (pv 0) Â)) Â)) (Ì (i:=6) nd rfl (Or.inl rfl)) (Ä (Í (i:=7) nd rfl (Or.inl rfl) (pfn G__law_worth hr (À (pv 3) (À (pixL (K:=K) (pv 0) (pv 6)) (À (pixT (K:=K) (pv 1) Á) (À (pv 2) (À (pv 6) Â)))))))
   (Ä (á (Ð yH3 (Æ ß (pixT (K:=K) (pv 7) Á) (pixT (K:=K) (pixL (K:=K) (pv 4) (pv 6)) Á)) (Æ ß (pixT (K:=K) (pixL (K:=K) (pv 4) (pv 6)) Á) (pixT (K:=K) (pv 7) Á)) (Ò _)) (Å (É ζ)) Ó)
   (Å (Ű (Ž (K:=K) rfl PySem.F.plainAttrs_list PySem.F.slot_list_append PySem.F.type_list_append í (pv 5) (À (Õ (À (Æ ô Á (Æ ß (pixT (K:=K) (pixL (K:=K) (pixT (K:=K) (pv 3) Á) (pv 6)) Á) (pfn G__law_total hr (À (pixT (K:=K) (pixL (K:=K) (pv 0) (pv 6)) Á) Â)))) (À (Æ ß Á (pixT (K:=K) (pixL (K:=K) (pixT (K:=K) (pv 3) Á) (pv 6)) Á)) Â))) Â)))))))
   (Å (É (pfn G__law_sum hr (À (pv 5) Â)))))))),?_⟩
  obtain⟨t,uv,pv1,pw1,rfl,ht,fu,lv,lw⟩:=id hP;have ps:=o.pps pc;have okW:=o.okW;have bw:=o.bw;have hO:=o.hO;have hW:=o.hW;have hL:=o.hL;have c8:=o.c8;have w4:=o.w4;have lO:=o.lO;have lL:=o.lL;obtain⟨us,hus,pU⟩:=id lw;have lU:us.length=zs.length:=pU.length.trans (Ý _ _);obtain⟨gs,hgs,pG⟩:=id hF;obtain⟨cu,rfl,hcu⟩:=id fu;obtain⟨bwv,ebwv,hbwv⟩:=o.fw;subst ebwv;refine(ex1 rfl ⟨_,_,_,_,rfl,þ (tyT ht),ŷ (by decide) (by decide),ex1 rfl ?_⟩);refine iteF ?_;refine(ex1 rfl ⟨_,_,rfl,.inr ⟨_,SqT.of ht,rfl⟩,rfl,ex1 rfl ?_⟩);refine iteF ?_;refine(ex1 rfl ⟨t,_,_,_,rfl,rfl,SqT.of ht,rfl,_,_,rfl,fu,ex1 rfl ?_⟩);refine iteF ?_;refine(ex1 rfl ⟨t,_,_,_,rfl,rfl,SqT.of ht,rfl,ex1 rfl ⟨aw,_,_,_,rfl,rfl,SqT.of hW,rfl,_,_,rfl,.inl ⟨_,SqL.of hL,rfl⟩,È ?_⟩⟩);refine spFr2.mk (Ez:=E0) (lL▸lv) (by lia) (fun b1 H1 s1 h1=>(ex1 rfl (iteB h1 (fun n=>no (fun y=>n (lL▸y.1.1)) _ s1) fun nv=>?_)));refine(ex1 rfl ⟨t,_,_,_,rfl,rfl,SqT.of (s1 _ _ ht),rfl,ex1 rfl ⟨_,_,rfl,.inl ⟨_,SqL.of (s1 _ _ hO),rfl⟩,È ?_⟩⟩);refine spFr2.mk (Ez:=E0) (lO▸lw.same s1) (by lia) (fun b2 H2 s2 h2=>(ex1 rfl (iteB h2 (fun n=>no (fun y=>n (lO▸y.1.2)) _ (s1.trans s2)) fun nw=>?_)));have ng:Nng zs.length cs.length vq wq:=⟨lL▸nv,lO▸nw⟩;have s02:=s1.trans s2;let uu:Rat:=u;have hcu2:=s02 _ _ hcu;have hbw2:=s02 _ _ hbwv;have bw2:wd.num.natAbs<2^2700:=Ă bw.num (Þ (by decide));have bw3:(wd.den:Int).natAbs<2^2700:=Ă bw.den (Þ (by decide));refine(ex1 rfl ⟨t,_,_,_,rfl,rfl,SqT.of (s02 _ _ ht),rfl,cu,_,_,_,rfl,rfl,SqT.of hcu2,rfl,ex1 rfl ⟨aw,_,_,_,rfl,rfl,SqT.of (s02 _ _ hW),rfl,bwv,_,_,_,rfl,rfl,SqT.of hbw2,rfl,_,_,rfl,rfl,Ü 2700 ps.bu.num bw2 (by decide),ex1 rfl ⟨t,_,_,_,rfl,rfl,SqT.of (s02 _ _ ht),rfl,cu,_,_,_,rfl,rfl,SqT.of hcu2,rfl,ex1 rfl ⟨aw,_,_,_,rfl,rfl,SqT.of (s02 _ _ hW),rfl,bwv,_,_,_,rfl,rfl,SqT.of hbw2,rfl,_,_,rfl,rfl,Ü 2700 ps.bu.den bw3 (by decide),szn,fun p1 hp1=>⟨szn,fun p2 hp2=>?_⟩⟩⟩⟩⟩);have t1:=Same.upd (o:=.tup [.int (uu.num*wd.num),.int ((uu.den:Int)*(wd.den:Int))]) hp1;have e1:upd H2 p1 (.tup [.int (uu.num*wd.num),.int ((uu.den:Int)*(wd.den:Int))]) p1=some (.tup [.int (uu.num*wd.num),.int ((uu.den:Int)*(wd.den:Int))]):=Ã;have t2:=Same.upd (o:=.lst [V.ref p1]) hp2;have e2:upd (upd H2 p1 (.tup [.int (uu.num*wd.num),.int ((uu.den:Int)*(wd.den:Int))])) p2 (.lst [V.ref p1]) p2=some (.lst [V.ref p1]):=Ã;have e1:=t2 _ _ e1;have s3:=s02.trans (t1.trans t2);have hp20:=(s02.trans t1).free hp2;show Ends.nx _ [some (.ref ao),some (.ref aw),some (.int now),some (.ref t),some (.ref ap),some (.ref p2),none,none] _;have pr2:Paired (PrI (upd (upd H2 p1 (.tup [.int (uu.num*wd.num),.int ((uu.den:Int)*(wd.den:Int))])) p2 (.lst [V.ref p1]))) [V.ref p1] ((uu.num*wd.num,(uu.den:Int)*(wd.den:Int))::(Đ 0).map (spI2 zs wq)):=.cons ⟨p1,rfl,e1⟩ .nil;generalize upd (upd H2 p1 (.tup [.int (uu.num*wd.num),.int ((uu.den:Int)*(wd.den:Int))])) p2 (.lst [V.ref p1])=H3 at *;refine(ex1 rfl ⟨_,_,rfl,.inl ⟨_,SqL.of (s3 _ _ hO),rfl⟩,ex1 rfl ⟨by lia,by lia,?_⟩⟩);refine zG3 (fun i σ H4=>∃(v6 v7:Option V) (xs:List V),σ=[some (.ref ao),some (.ref aw),some (.int now),some (.ref t),some (.ref ap),some (.ref p2),v6,v7] /\ Same H H4 /\ (∀k,k<i->worQ now cs zs u vq wq k<=f k) /\ H4 p2=some (.lst xs) /\ Paired (PrI H4) xs ((uu.num*wd.num,(uu.den:Int)*(wd.den:Int))::(Đ i).map (spI2 zs wq))) ⟨none,none,ex1 rfl ⟨s3,fun k hk=>absurd hk (ņ _),e2,pr2⟩⟩ ?_ ?_
  ·rintro i σ H4 hi ⟨v6,v7,xs,rfl,s4,al4,h4,hX⟩;have hi:i<zs.length:=by
    have hi:i<((os.length:Nat):Int).toNat:=hi;lia
   have ei:(0:Int)+(i:Int)=((i:Nat):Int):=by lia
   obtain⟨v,hv⟩:∃v,os[i]?=some v:=⟨_,ā (by lia)⟩;obtain⟨z,hz,oz⟩:=Ê o.hP hv;have ok:=okW z (đ hz);have oz4:=oz.same s4;obtain⟨ae,w1,pr,rfl,hae,wn,_⟩:=id oz4;have hat:atI os (0+(i:Int))=some (.ref ae):=by rw[ei];exact Ŭ hv
   refine(ex1 rfl (ex1 rfl (ex1 rfl ⟨ao,_,_,_,rfl,rfl,SqL.of (s4 _ _ hO),hat,ex1 rfl ⟨aw,_,_,_,rfl,rfl,SqT.of (s4 _ _ hW),rfl,ex1 rfl (ex1 rfl ⟨ao,aw,al,now,os,ls,zs,cs,.ref bwv,wd,.ref t,u,vq,wq,ae,i,(show [V.ref t,V.ref ae,V.ref al,V.int now,V.int (0+(i:Int))]=[V.ref t,V.ref ae,V.ref al,V.int now,V.int ((i:Nat):Int)] by rw[ei]),o.same s4,hv,hP.same s4,ps,fun v5 H5 s5 f5=>?_⟩)⟩⟩)));have s45:=s4.trans s5;have bv:Bd 4000 (worQ now cs zs u vq wq i):=ps.b2 i hi cs.length (Ć _);generalize hval:worQ now cs zs u vq wq i=val at *;obtain⟨cv,rfl,hcv⟩:=f5;obtain⟨gs',vg,hgs',lgs,hag,fg⟩:=(hF.same s45).at hi;obtain⟨cg,rfl,hcg⟩:=fg;have hag':atI gs' (0+(i:Int))=some (.ref cg):=by rw[ei];exact hag
   have bg:=bf i hi;have bgn:(f i).num.natAbs<2^4000:=Ă bg.num (Þ (by decide));have bgd:((f i).den:Int).natAbs<2^4000:=Ă bg.den (Þ (by decide));refine(ex1 rfl ⟨cv,_,_,_,rfl,rfl,SqT.of hcv,rfl,ex1 rfl (ex1 rfl ⟨ap,_,_,_,rfl,rfl,SqL.of hgs',hag',cg,_,_,_,rfl,rfl,SqT.of hcg,rfl,_,_,rfl,rfl,Ü 4000 bv.num bgd (by decide),ex1 rfl (ex1 rfl ⟨ap,_,_,_,rfl,rfl,SqL.of hgs',hag',cg,_,_,_,rfl,rfl,SqT.of hcg,rfl,ex1 rfl ⟨cv,_,_,_,rfl,rfl,SqT.of hcv,rfl,_,_,rfl,rfl,Ü 4000 bgn bv.den (by decide),_,_,rfl,rfl,ex1 rfl ?_⟩⟩)⟩)⟩);refine ite2 (fun q=>no (fun y=>absurd ((Rat.lt_iff (f i) val).mpr (of_decide_eq_true q)) (ĵ.mpr (hval▸y.2 i hi))) _ s45) (fun q=>?_);have hle:val<=f i:=ĵ.mp fun e=>q (decide_eq_true ((Rat.lt_iff (f i) val).mp e));obtain⟨us',vk,hus',lus',hak,fk⟩:=(lw.same s45).at hi;obtain⟨ck,rfl,hck⟩:=fk;have hak':atI us' (0+(i:Int))=some (.ref ck):=by rw[ei];exact hak
   have bk:=ps.bw i hi;have bt:(totZ z.1).natAbs<2^2700:=ă (Λ ok) (ļ (by decide) (by decide));have h5:=s5 _ _ h4;refine(ex1 rfl ⟨.inl ⟨rfl,_,SqL.of h5⟩,ex1 rfl ⟨t,_,_,_,rfl,rfl,SqT.of (s45 _ _ ht),rfl,ex1 rfl ⟨pw1,_,_,_,rfl,rfl,SqL.of hus',hak',ck,_,_,_,rfl,rfl,SqT.of hck,rfl,ex1 rfl (ex1 rfl ⟨ao,_,_,_,rfl,rfl,SqL.of (s45 _ _ hO),hat,ae,_,_,_,rfl,rfl,SqT.of (s5 _ _ hae),rfl,È ?_⟩)⟩⟩⟩);refine spLTot.mk (Ez:=E0) (wn.same s5) ok (fun H6 s6=>?_);refine⟨_,_,rfl,rfl,Ü 2700 bk.num bt (by decide),_,_,rfl,rfl,ex1 rfl ⟨t,_,_,_,rfl,rfl,SqT.of ((s45.trans s6) _ _ ht),rfl,ex1 rfl ⟨pw1,_,_,_,rfl,rfl,SqL.of (s6 _ _ hus'),hak',ck,_,_,_,rfl,rfl,SqT.of (s6 _ _ hck),rfl,_,_,rfl,rfl,Ü 2700 (Ă (show (27720:Int).natAbs<2^20 by decide) (Þ (by decide))) bk.den (by decide),szn,fun q hq=>?_⟩⟩⟩;have tq:=Same.upd (o:=.tup [.int (0 - (wq i).num*totZ z.1),.int (27720*((wq i).den:Int))]) hq;have s57:=s6.trans tq;have h7:=s57 _ _ h5;have lX:xs.length=i+1:=by rw[hX.length];simp
   refine⟨p2,_,_,rfl,rfl,h7,sz (by lia),?_⟩;have tu:=ð (o:=.lst (xs++[.ref q])) h7 (fun _ z=>nomatch z);refine⟨_,_,xs++[.ref q],rfl,(s45.trans s57).updD hp20,fun k hk=>(Ę (ĕ hk)).elim (al4 k) (fun e=>by rw[e,hval];exact hle),Ã,?_⟩;rw[Ř,ė,<- List.cons_append];refine Paired.snoc (Paired.mapP hX fun _ _ f=>(f.same (s5.trans s57)).tup tu) ⟨q,rfl,tu _ _ ?_⟩;unfold spI2;rw[hz];exact Ã
  rintro σ H4 ⟨v6,v7,xs,rfl,s4,al4,h4,hX⟩;rw[show ((os.length:Nat):Int).toNat=zs.length by lia]at hX al4;have tk:∀i,i<=zs.length->sumL ((uu.num*wd.num,(uu.den:Int)*(wd.den:Int))::(Đ i).map (spI2 zs wq)) quI=uu*wd - sN i (fun j=>wq j*ttQ zs j):=fun i hi=>by
   rw[ä,yZ8 okW hi,xI8]
   grind
  refine(ex1 rfl ⟨p2,xs,ex1 rfl ⟨SqL.of h4,hX,fun p hp=>?_,fun j hj=>?_,fun v5 H5 s5 f5=>fin ⟨ng,al4⟩ v5 H5 (s4.trans s5) (by rw[tk _ (Ć _)]at f5;exact f5)⟩⟩)
  ·rcases Ė.mp hp with e | e
   ·rw[e];exact⟨Int.mul_pos (Î uu) (Î wd),Ă (Û ps.bu.num bw.num) (Þ (by decide)),Ă (Û (m:=2700) (n:=200) ps.bu.den bw.den) (Þ (by decide))⟩
   ·obtain⟨i,hi,rfl⟩:=ŀ.mp e;have hi:=ğ.mp hi;have bk:=ps.bw i hi;have ok:=okW _ (ĥ hi);have d:=Î (wq i);unfold spI2;rw[ā hi];refine⟨by show 0<27720*((wq i).den:Int);lia,?_,?_⟩
    ·show (0 - (wq i).num*totZ zs[i].1).natAbs<_;rw[Int.zero_sub,Int.natAbs_neg];exact Ă (Û (n:=130) bk.num (ă (Λ ok) (by decide))) (Þ (by decide))
    ·exact Ă (Û (m:=20) (n:=2700) (show (27720:Int).natAbs<2^20 by decide) bk.den) (Þ (by decide))
  ·match j,hj with
   | 0,_ =>
    show Bd 4000 (0:Rat);exact⟨by decide,by decide⟩
   | i+1,hj =>
    have hi:i<=zs.length:=by simp at hj;lia
    show Bd 4000 (sumL ((uu.num*wd.num,(uu.den:Int)*(wd.den:Int))::((Đ zs.length).map (spI2 zs wq)).take i) quI);rw[<- Ţ,ũ,Ŝ hi,tk i hi];exact ps.b3 i hi
noncomputable abbrev zF4:Stmt:=top 73
theorem sc__law_right:Ï ["_law_found","_law_offer_here","_law_wish","_law_now","_law_says"] ["_law_found","_law_offer_here","_law_wish","_law_now"] (Ç zF4):=scF
theorem zT6 {ca:Ca}(D:DefAt K mg "_law_right" zF4)(T:Txt K mg ca)(G__law_shows:FnAt P w K mg base CX0 9 "_law_shows" ["_law_offer_here","_law_wish","_law_now","_law_paper","_law_prices"] (spShw K))(G__law_is_blend:FnAt P w K mg base CX0 9 "_law_is_blend" ["_law_offer_here","_law_wish","_law_now","_law_amounts"] (spIsB2 K))(G__law_fractions:FnAt P w K mg base CX0 3 "_law_fractions" ["_law_some","_law_many"] (spFr2))(G__law_cost:FnAt P w K mg base CX0 4 "_law_cost" ["_law_offer_here","_law_amounts"] (spLCost K)):FnAt P w K mg base CX0 10 "_law_right" ["_law_found","_law_offer_here","_law_wish","_law_now"] (spRt K):=by
 refine D.ok sc__law_right (fun vs H Q E h=>?_) (fun _ _ _ _ _ _ us hl=>match us,hl with | [_,_,_,_],_=>rfl) (fun f cdv A outer s H vs Q E hr h=>?_)
 all_goals obtain⟨ao,aw,al,now,os,ls,zs,cs,wv,wd,tf,P,rfl,o,rg,k⟩:=h
 ·rfl
 ·have nd:=sc__law_right.nd;refine⟨_,(Ä (á (Ð ï (Ë (Ö (K:=K) rfl) (by rfl) T.z_len PySem.boot_len (À (pv 0) Â)) Á (Ò _)) (Ä (Í (i:=4) nd rfl (Or.inl rfl) (pfn G__law_shows hr (À (pv 1) (À (pv 2) (À (pv 3) (À (pixT (K:=K) (pv 0) Á) (À (ò ["_law_entry"] [] [] rfl (by rfl) (ç (K:=K) rfl (pv 1)) (fun _ _ _ _=>(Ì (i:=0) (show List.Nodup (["_law_entry"]:List Str) from by decide) rfl (Or.inl rfl))) (fun _ _ _ _=>ã) (fun _ _ _ _=>(Õ (À Á (À Á Â))))) Â)))))))
   (Å (É (Τ (ø xB8 (pv 4) ζ (Ò _)) (Ο (ø yH3 (pixT (K:=K) (pv 4) Á) Á (Ò _))))))) Ó)
   (Ä (á (PW.pt (Ζ (ŭ (ö (pfn G__law_fractions hr (À (pixT (K:=K) (pv 0) Á) (À (Ë (Ö (K:=K) rfl) (by rfl) T.z_len PySem.boot_len (À (pv 1) Â)) Â))))) (Γ (ŭ (ö (pfn G__law_is_blend hr (À (pv 1) (À (pv 2) (À (pv 3) (À (pixT (K:=K) (pv 0) Á) Â)))))))))) (Å (É ž)) Ó)
   (Å (É (ø (zN4 (K:=K) rfl hr) (pfn G__law_shows hr (À (pv 1) (À (pv 2) (À (pv 3) (À (pixT (K:=K) (pv 0) Á) (À (ò ["_law_entry"] [] [] rfl (by rfl) (ç (K:=K) rfl (pv 1)) (fun _ _ _ _=>(Ì (i:=0) (show List.Nodup (["_law_entry"]:List Str) from by decide) rfl (Or.inl rfl))) (fun _ _ _ _=>ã) (fun _ _ _ _=>(pixT (K:=K) (pv 0) Á))) Â)))))) (pfn G__law_cost hr (À (pv 1) (À (pixT (K:=K) (pv 0) Á) Â))) (Ò _)))))),?_⟩
  have lO:=o.lO;have w4:=o.w4;rcases rg with⟨pt,u,vq,wq,h1,hP,pc,hl⟩ | ⟨pa,pt,x,u,vq,wq,h1,hA,xc,hP,pc,hl⟩
  ·refine(ex1 rfl ⟨_,_,rfl,.inr ⟨_,SqT.of h1,rfl⟩,rfl,ex1 rfl ?_⟩);refine iteT ?_;refine(ex1 rfl (ex1 rfl (ex1 rfl (ex1 rfl ⟨tf,_,_,_,rfl,rfl,SqT.of h1,rfl,ex1 rfl ⟨ao,rfl,⟨_,SqL.of o.hO⟩,fun Dd hD=>?_⟩⟩))));refine æ (xs:=os) (fun j σ' H'=>∃(v:Option V) (qs:List V),σ'=[v] /\ Same H H' /\ H' Dd=some (.lst qs) /\ Paired (FrV H') qs (nR j fun _=>0)) ⟨none,[],rfl,Same.upd hD,Ã,.nil⟩ ?_ ?_ ?_
   ·rintro j σ' H' hj ⟨v,qs,rfl,s1,hd,hF⟩;exact SqL.of (s1 _ _ o.hO)
   ·rintro j y σ' H' hy ⟨v,qs,rfl,s1,hd,hF⟩;have hj:j<os.length:=(Ą.mp hy).1;have lQ:qs.length=j:=hF.length.trans (Ý j _);refine⟨szn,fun p1 hp1=>?_⟩;have t1:=Same.upd (o:=.tup [.int 0,.int 1]) hp1;have hd1:=t1 _ _ hd;refine⟨_,hd1,sz (by lia),_,qs++[.ref p1],rfl,(s1.trans t1).updD hD,Ã,?_⟩;rw[Ŵ];have tu:=ð (o:=.lst (qs++[.ref p1])) hd1 (fun _ z=>nomatch z);have f1:FrV (upd H' p1 (.tup [.int 0,.int 1])) (.ref p1) 0:=FrV.newOf rfl rfl;exact Paired.snoc (Paired.mapP hF fun _ _ f=>(f.same t1).tup tu) (f1.tup tu)
   rintro σ' H1 ⟨v,qs,rfl,s1,hd,hF⟩;rw[lO]at hF;refine(È ?_);refine spShw.mk (Ez:=E0) (o.same s1) (hP.same s1) pc ⟨qs,hd,hF⟩ (fun _ _=>(show Bd 200 (0:Rat) from⟨by decide,by decide⟩)) (fun ok v2 H2 s2 f2=>?_) (fun nok H2 s2=>?_)
   ·obtain⟨cv,rfl,hcv⟩:=f2;refine(ex1 rfl ⟨rfl,ex1 rfl ?_⟩);rw[show decide (V.ref cv=V.non)=false from decide_eq_false fun z=>nomatch z];refine iteT ?_;refine(ex1 rfl ⟨cv,_,_,_,rfl,rfl,SqT.of hcv,rfl,_,_,rfl,rfl,?_⟩);refine k _ H2 (s1.trans s2) ?_;rw[decide_eq_true_iff,hl];exact⟨fun e=>⟨ok.1,ok.2,numpos.mp e⟩,fun l=>numpos.mpr l.2.2⟩
   ·exact(ex1 rfl ⟨rfl,ex1 rfl (iteF (k false H2 (s1.trans s2) (nof fun p=>nok ⟨(hl.mp p).1,(hl.mp p).2.1⟩)))⟩)
  ·refine(ex1 rfl ⟨_,_,rfl,.inr ⟨_,SqT.of h1,rfl⟩,rfl,ex1 rfl ?_⟩);refine iteF ?_;have xs:=o.xs xc;refine(ex1 rfl ⟨tf,_,_,_,rfl,rfl,SqT.of h1,rfl,ex1 rfl ⟨_,_,rfl,.inl ⟨_,SqL.of o.hO,rfl⟩,È ?_⟩⟩);refine spFr2.mk (Ez:=E0) (lO▸hA) (by lia) (fun b1 H1 s1 hb=>(ex1 rfl (iteB hb (fun n=>k false H1 s1 (nof fun p=>n fun j hj=>((hl.mp p).1.low j (lO▸hj)).1)) fun _=>?_)));have o1:=o.same s1;refine(ex1 rfl (ex1 rfl (ex1 rfl (ex1 rfl ⟨tf,_,_,_,rfl,rfl,SqT.of (s1 _ _ h1),rfl,È ?_⟩))));refine spIsB2.mk (Ez:=E0) o1.hO o1.hP o.okW (by lia) o1.hW o1.fw o1.hL o1.hC o.c8 (hA.same s1) xs.bx xs.bX xs.bS (fun fx H2 s2=>(ex1 rfl (iteF ?_))) (fun nf H2 s2=>(ex1 rfl (iteT (k false H2 (s1.trans s2) (nof fun p=>nf (hl.mp p).1)))));have s02:=s1.trans s2;have o2:=o.same s02;refine(ex1 rfl (ex1 rfl (ex1 rfl (ex1 rfl ⟨tf,_,_,_,rfl,rfl,SqT.of (s02 _ _ h1),rfl,ex1 rfl ⟨ao,rfl,⟨_,SqL.of o2.hO⟩,fun Dd hD=>?_⟩⟩))));refine æ (xs:=os) (fun j σ' H'=>∃(v:Option V) (qs:List V),σ'=[v] /\ Same H2 H' /\ H' Dd=some (.lst qs) /\ Paired (FrV H') qs (nR j (prQ zs))) ⟨none,[],rfl,Same.upd hD,Ã,.nil⟩ ?_ ?_ ?_
   ·rintro j σ' H' hj ⟨v,qs,rfl,s3,hd,hF⟩;exact SqL.of (s3 _ _ o2.hO)
   ·rintro j y σ' H' hy ⟨v,qs,rfl,s3,hd,hF⟩;obtain⟨z,hz,oz⟩:=Ê o2.hP hy;obtain⟨a,w1,pr,rfl,ha,_,fp⟩:=oz.same s3;have hj:j<zs.length:=(Ą.mp hz).1;have lQ:qs.length=j:=hF.length.trans (Ý j _);refine(ex1 rfl ⟨a,_,_,_,rfl,rfl,SqT.of ha,rfl,_,hd,sz (by lia),_,qs++[pr],rfl,s3.updD hD,Ã,?_⟩);rw[Ŵ,zQ3 hz];have tu:=ð (o:=.lst (qs++[pr])) hd (fun _ z=>nomatch z);exact Paired.snoc (Paired.mapP hF fun _ _ f=>f.tup tu) (fp.tup tu)
   rintro σ' H3 ⟨v,qs,rfl,s3,hd,hF⟩;rw[lO]at hF;have s03:=s02.trans s3;refine(È ?_);refine spShw.mk (Ez:=E0) (o.same s03) (hP.same s03) pc ⟨qs,hd,hF⟩ (fun j hj=>(o.prb hj).mono (by decide)) (fun ok v4 H4 s4 f4=>?_) (fun nok H4 s4=>?_)
   all_goals
    have s04:=s03.trans s4;have o4:=o.same s04;refine(ex1 rfl (ex1 rfl ⟨tf,_,_,_,rfl,rfl,SqT.of (s04 _ _ h1),rfl,È ?_⟩));refine spLCost.mk (Ez:=E0) o4.hO o4.hP (hA.same s04) w4 (fun z hz=>(o.ok z hz).2) xs.bx xs.bC (fun v5 H5 s5 f5=>?_)
   ·refine⟨_,_,(f4.same s5).rep,f5.rep,zB4 _ _,?_⟩;rw[zQ6,zQ4];refine k _ H5 (s04.trans s5) ?_;rw[decide_eq_true_iff,hl];exact⟨fun e=>⟨fx,ok.1,ok.2,e⟩,fun l=>l.2.2.2⟩
   ·exact⟨.none,_,by simp only[RepD],f5.rep,by simp[PyData.depth],k _ H5 (s04.trans s5) (nof fun p=>nok ⟨(hl.mp p).2.1,(hl.mp p).2.2.1⟩)⟩
noncomputable abbrev zB9:Stmt:=top 74
theorem sc__law_shifted:Ï ["_law_amounts","_law_one","_law_other","_law_share","_law_found","_law_part"] ["_law_amounts","_law_one","_law_other","_law_share"] (Ç zB9):=scF
theorem zN8 {ca:Ca}(D:DefAt K mg "_law_shifted" zB9)(T:Txt K mg ca)(G__law_lowest:FnAt P w K mg base CX0 2 "_law_lowest" ["_law_top","_law_bottom"] (spLowest2))(G__law_sum:FnAt P w K mg base CX0 3 "_law_sum" ["_law_some"] (spLSum K)):FnAt P w K mg base CX0 4 "_law_shifted" ["_law_amounts","_law_one","_law_other","_law_share"] (xF5 K):=by
 refine D.ok sc__law_shifted (fun vs H Q E h=>?_) (fun _ _ _ _ _ _ us hl=>match us,hl with | [_,_,_,_],_=>rfl) (fun f cdv A outer s H vs Q E hr h=>?_)
 all_goals obtain⟨aa,m,x,one,oth,sh,rfl,h1,h2,m8,s1',s4',hA,xc,k⟩:=h
 ·rfl
 ·have nd:=sc__law_shifted.nd;refine⟨_,(Ä (Í (i:=4) nd rfl (Or.inl rfl) (ÿ (ó (K:=K) rfl) (by rfl) T.z_list Α (À (pv 0) Â)))
   (Ä (Í (i:=5) nd rfl (Or.inl rfl) (pfn G__law_lowest hr (À (Æ ß (pixT (K:=K) (pixL (K:=K) (pv 0) (pv 1)) Á) (pv 3)) (À (Æ ß (pixT (K:=K) (pixL (K:=K) (pv 0) (pv 1)) Á) Á) Â))))
   (Ä (Ν (pfn G__law_sum hr (À (é (À (pixL (K:=K) (pv 4) (pv 1)) (À (Õ (À (Æ ô Á (pixT (K:=K) (pv 5) Á)) (À (pixT (K:=K) (pv 5) Á) Â))) Â))) Â)) (ξ (pv 4) (pv 1) Ι))
   (Ä (Ν (pfn G__law_sum hr (À (é (À (pixL (K:=K) (pv 4) (pv 2)) (À (pv 5) Â))) Â)) (ξ (pv 4) (pv 2) Ι))
   (Å (É (pv 4))))))),?_⟩
  obtain⟨us,ha,pU⟩:=id hA;have lU:us.length=m:=pU.length.trans (Ý _ _);obtain⟨E',X,e0,eX,hX,cx⟩:=xc;have x16:X*16<=2^2604:=ĉ (Ĭ 16 hX) (by rw[show (2:Nat)^2604=2^2600*2^4 from Ľ 2 2600 4];exact Ō _ (by decide));have x30:X*8<=2^3000:=ĉ (by lia) (ĉ x16 (Þ (by decide)));have b1:Bd 2601 (x one):=(cx one h1).bd e0 eX hX;have sm:∀{t:Int},t.natAbs<=4->t.natAbs<2^2601:=fun h=>Ă (ă h (show 4<2^20 by decide)) (Þ (by decide));have d1:=Î (x one);have n1:((x one).den:Int).natAbs<2^2601:=b1.den;refine(ex1 rfl ⟨aa,us,rfl,.inl (SqL.of ha),fun l hl=>?_⟩);have tl:=Same.upd (o:=.lst us) hl;have el:upd H l (.lst us) l=some (.lst us):=Ã;generalize upd H l (.lst us)=H1 at *;obtain⟨us',v1,hus,_,hat,f1⟩:=(hA.same tl).at h1;obtain⟨c1,rfl,hc1⟩:=id f1;refine(ex1 rfl (ex1 rfl ⟨aa,_,_,_,rfl,rfl,SqL.of hus,hat,c1,_,_,_,rfl,rfl,SqT.of hc1,rfl,ex1 rfl ⟨_,_,rfl,rfl,Ü 2601 b1.num (sm (by lia)) (by decide),ex1 rfl (ex1 rfl ⟨aa,_,_,_,rfl,rfl,SqL.of hus,hat,c1,_,_,_,rfl,rfl,SqT.of hc1,rfl,_,_,rfl,rfl,Ü 2601 n1 (sm (by decide)) (by decide),È ?_⟩)⟩⟩));refine spLowest2.mk (Ez:=E0) (by lia) (Ă (Û n1 (sm (t:=4) (by decide))) (Þ (by decide))) (fun v2 H2 s2 f2=>?_);rw[yR7]at f2;have cp:Cd (E'*4) (X*4) (x one*Ċ sh 4):=(cx one h1).mul (cd4 s1' s4');generalize x one*Ċ sh 4=pr at *;obtain⟨c2,rfl,hc2⟩:=id f2;have el2:=s2 _ _ el;have pU2:Paired (FrV H2) us (nR m x):=î (tl.trans s2) pU;obtain⟨v1',hv1,f1'⟩:∃v,us[one]?=some v /\ FrV H2 v (x one):=by
   obtain⟨v,hv⟩:∃v,us[one]?=some v:=⟨_,ā (by lia)⟩;obtain⟨r,hr,fv⟩:=Ê pU2 hv;obtain⟨_,rfl⟩:=Ÿ hr;exact⟨v,hv,fv⟩
  refine(ex1 rfl (ex1 rfl ⟨l,_,_,_,rfl,rfl,SqL.of el2,Ŭ hv1,ex1 rfl ⟨c2,_,_,_,rfl,rfl,SqT.of hc2,rfl,_,_,rfl,rfl,ex1 rfl ⟨c2,_,_,_,rfl,rfl,SqT.of hc2,rfl,szn,fun p3 hp3=>⟨szn,fun p4 hp4=>È ?_⟩⟩⟩⟩));have t3:=Same.upd (o:=.tup [.int (0 - pr.num),.int (pr.den:Int)]) hp3;have f3:FrV (upd H2 p3 (.tup [.int (0 - pr.num),.int (pr.den:Int)])) (.ref p3) (-pr):=FrV.newOf (yF2 pr).1 (yF2 pr).2;have t4:=Same.upd (o:=.lst [v1',.ref p3]) hp4;have t24:=t3.trans t4;refine xC6 (E:=E0) Ã (f1'.same t24) (f3.same t4) (D:=E'*4) (N:=X*8) (by lia) (by lia) x30 (((cx one h1).up 4).mono (by lia)) (cp.neg.mono (by lia)) fun v5 H5 s5 f5=>?_;have s25:=t24.trans s5;have el5:=s25 _ _ el2;refine(ex1 rfl (ex1 rfl ⟨l,_,_,one,rfl,rfl,el5,Ψ (by lia),?_⟩));have tu:=ð (o:=.lst (us.set one v5)) el5 (fun _ z=>nomatch z);let x1:Nat->Rat:=fun j=>if j=one then x one + -pr else x j;have cx1:∀j,j<m->Cd (E'*4) (X*8) (x1 j):=fun j hj=>by
   show Cd _ _ (if j=one then x one + -pr else x j)
   split
   ·exact(((cx one h1).up 4).add cp.neg).mono (by lia)
   ·exact((cx j hj).up 4).mono (by lia)
  have pU6:Paired (FrV (upd H5 l (.lst (us.set one v5)))) (us.set one v5) (nR m x1):=Paired.mapP (zA6 (î s25 pU2) f5) fun _ _ f=>f.tup tu;have f26:=(f2.same s25).tup tu;have s06:Same H (upd H5 l (.lst (us.set one v5))):=(tl.trans (s2.trans s25)).updD hl;have el6:upd H5 l (.lst (us.set one v5)) l=some (.lst (us.set one v5)):=Ã;generalize upd H5 l (.lst (us.set one v5))=H6 at *;have l6:(us.set one v5).length=m:=by rw[List.length_set];exact lU
  obtain⟨v7,hv7,f7⟩:∃v,(us.set one v5)[oth]?=some v /\ FrV H6 v (x1 oth):=by
   obtain⟨v,hv⟩:∃v,(us.set one v5)[oth]?=some v:=⟨_,ā (by lia)⟩;obtain⟨r,hr,fv⟩:=Ê pU6 hv;obtain⟨_,rfl⟩:=Ÿ hr;exact⟨v,hv,fv⟩
  refine(ex1 rfl (ex1 rfl ⟨l,_,_,_,rfl,rfl,SqL.of el6,Ŭ hv7,ex1 rfl ⟨szn,fun p7 hp7=>È ?_⟩⟩));have t7:=Same.upd (o:=.lst [v7,.ref c2]) hp7;refine xC6 (E:=E0) Ã (f7.same t7) (f26.same t7) (D:=E'*4) (N:=X*8) (by lia) (by lia) x30 (cx1 oth h2) (cp.mono (by lia)) fun v8 H8 s8 f8=>?_;have s68:=t7.trans s8;have el8:=s68 _ _ el6;refine(ex1 rfl (ex1 rfl ⟨l,_,_,oth,rfl,rfl,el8,Ψ (by lia),ex1 rfl ?_⟩));have tu8:=ð (o:=.lst ((us.set one v5).set oth v8)) el8 (fun _ z=>nomatch z);refine k l _ (fun j=>if j=oth then x1 oth+pr else x1 j) ((s06.trans s68).updD hl) ⟨_,Ã,Paired.mapP (zA6 (î s68 pU6) f8) fun _ _ f=>f.tup tu8⟩ ⟨E'*4,X*12,by lia,by lia,ĉ (by lia) (ĉ x16 (Þ (by decide))),fun j hj=>?_⟩;show Cd _ _ (if j=oth then x1 oth+pr else x1 j)
  split
  ·exact((cx1 oth h2).add cp).mono (by lia)
  ·exact(cx1 j hj).mono (by lia)
noncomputable abbrev zD2:Stmt:=top 75
theorem sc__law_number:Ï ["_law_cell","_law_near","_law_some"] ["_law_cell","_law_near"] (Ç zD2):=scF
theorem zP6 {ca:Ca}(D:DefAt K mg "_law_number" zD2)(T:Txt K mg ca)(G__law_lowest:FnAt P w K mg base CX0 2 "_law_lowest" ["_law_top","_law_bottom"] (spLowest2))(G__law_sum:FnAt P w K mg base CX0 3 "_law_sum" ["_law_some"] (spLSum K)):FnAt P w K mg base CX0 4 "_law_number" ["_law_cell","_law_near"] (spNum K):=by
 refine D.ok sc__law_number (fun vs H Q E h=>?_) (fun _ _ _ _ _ _ us hl=>match us,hl with | [_,_],_=>rfl) (fun f cdv A outer s H vs Q E hr h=>?_)
 all_goals obtain⟨c,nv,r,E',Y,rfl,fn,e0,eY,y2,cr,k⟩:=h
 ·rfl
 ·have nd:=sc__law_number.nd;refine⟨_,(Ä (Í (i:=2) nd rfl (Or.inl rfl) (é (À (pfn G__law_lowest hr (À (Æ ô (Æ Ø (Æ Ú (pv 0) Á) Á) Á) (À (Æ è Á (Æ Ø (Æ Ú (pv 0) Á) Á)) Â))) (À (pfn G__law_lowest hr (À (Æ ô Á (pixT (K:=K) (pv 1) Á)) (À (pixT (K:=K) (pv 1) Á) Â))) (À (Õ (À Á (À Á Â))) Â)))))
   (Ä (Ű (Ž (K:=K) rfl PySem.F.plainAttrs_list PySem.F.slot_list_append PySem.F.type_list_append í (pv 2) (À (pfn G__law_sum hr (À (é (À (pv 1) (À (pfn G__law_lowest hr (À (Æ ô (Æ Ø (Æ Ú (pv 0) Á) Á) Á) (À (Æ è Á (Æ Ø (Æ Ú (pv 0) Á) Á)) Â))) Â))) Â)) Â)))
   (Å (É (pixL (K:=K) (Æ Ρ (pv 2) (é (À (pv 1) Â))) (Æ Ø (pv 0) Á)))))),?_⟩
  have dd:∀{i d:Int},0<d->d<=1000000->ε i d:=fun h1 h2=>ű (by lia) (ă (m:=1000000) (by lia) (by decide));have sm:∀{t:Int},t.natAbs<=1000->t.natAbs<2^9000:=fun h=>Ă (ă h (show 1000<2^20 by decide)) (Þ (by decide));have br:=cr.bd e0 eY y2;have dr:=Î r;have c6:Cd (6*E') (6*Y) r:=by
   have:=cr.up 6;rw[ť E' 6,ť Y 6]at this;exact this
  have q40:=à (c:=c.fdiv 5) (m:=40) (by decide);have q3:=à (c:=c.fdiv 200) (m:=3) (by decide);have q7:=à (c:=c.fdiv 5) (m:=7) (by decide);have q2:=à (c:=c.fdiv 35) (m:=2) (by decide);have q5:=à (c:=c) (m:=5) (by decide);refine(ex1 rfl ⟨_,_,rfl,rfl,dd (by decide) (by decide),_,_,rfl,rfl,(show (40:Int)≠0 by decide),_,_,rfl,rfl,ex1 rfl ⟨_,_,rfl,rfl,dd (by decide) (by decide),_,_,rfl,rfl,(show (3:Int)≠0 by decide),_,_,rfl,rfl,È ?_⟩⟩);refine spLowest2.mk (Ez:=E0) (by lia) (sm (by lia)) (fun v1 H1 s1 f1=>?_);have g1:Cd (6*E') (246*Y) (Ċ ((c.fdiv 5).fmod 40 - 10) (1+(c.fdiv 200).fmod 3)):=(yG1 (by lia) (by lia) (by lia) e0).mono (by lia);have fn1:=fn.same s1;obtain⟨cn,rfl,hcn⟩:=id fn;have hcn1:=s1 _ _ hcn;refine(ex1 rfl ⟨cn,_,_,_,rfl,rfl,SqT.of hcn1,rfl,_,_,rfl,rfl,ex1 rfl ⟨cn,_,_,_,rfl,rfl,SqT.of hcn1,rfl,È ?_⟩⟩);refine spLowest2.mk (Ez:=E0) dr (Ă br.den (Þ (by decide))) (fun v2 H2 s2 f2=>?_);have e2:Ċ (0 - r.num) (r.den:Int) = -r:=(yW7 _ _).trans (by rw[yA5]);rw[e2]at f2;have s02:=s1.trans s2;refine⟨szn,fun p0 hp0=>⟨szn,fun p1 hp1=>?_⟩⟩;have t0:=Same.upd (o:=.tup [V.int 0,.int 1]) hp0;have f0:FrV (upd H2 p0 (.tup [V.int 0,.int 1])) (.ref p0) 0:=FrV.newOf rfl rfl;have t1:=Same.upd (o:=.lst [v1,v2,.ref p0]) hp1;have e1:upd (upd H2 p0 (.tup [V.int 0,.int 1])) p1 (.lst [v1,v2,.ref p0]) p1=some (.lst [v1,v2,.ref p0]):=Ã;have t01:=t0.trans t1;have f1:=f1.same (s2.trans t01);have f2:=f2.same t01;have f0:=f0.same t1;have s03:=s02.trans t01;have hp10:=(s02.trans t0).free hp1;have fn3:=fn.same s03;generalize upd (upd H2 p0 (.tup [V.int 0,.int 1])) p1 (.lst [v1,v2,.ref p0])=H3 at *;refine(ex1 rfl ⟨.inl ⟨rfl,_,SqL.of e1⟩,ex1 rfl (ex1 rfl ⟨_,_,rfl,rfl,dd (by decide) (by decide),_,_,rfl,rfl,(show (7:Int)≠0 by decide),_,_,rfl,rfl,ex1 rfl ⟨_,_,rfl,rfl,dd (by decide) (by decide),_,_,rfl,rfl,(show (2:Int)≠0 by decide),_,_,rfl,rfl,È ?_⟩⟩)⟩);refine spLowest2.mk (Ez:=E0) (by lia) (sm (by lia)) (fun v4 H4 s4 f4=>⟨szn,fun p5 hp5=>È ?_⟩);have g4:Cd (6*E') (240*Y) (Ċ ((c.fdiv 5).fmod 7 - 3) (1+(c.fdiv 35).fmod 2)):=(yG1 (by lia) (by lia) (by lia) e0).mono (by lia);generalize Ċ ((c.fdiv 5).fmod 7 - 3) (1+(c.fdiv 35).fmod 2)=sq at *;have t5:=Same.upd (o:=.lst [.ref cn,v4]) hp5;have y240:240*Y<=2^3000:=ĉ (Ě (show 240<=2^8 by decide) y2) (by rw[<- Ľ];exact Þ (by decide));refine xC6 (E:=E0) Ã ((fn3.same s4).same t5) (f4.same t5) (D:=6*E') (N:=240*Y) (by lia) (by lia) y240 (c6.mono (by lia)) g4 fun v6 H6 s6 f6=>?_;have s36:=s4.trans (t5.trans s6);have e16:=s36 _ _ e1;refine⟨p1,_,_,rfl,rfl,e16,szn,?_⟩;have tu:=ð (o:=.lst ([v1,v2,.ref p0]++[v6])) e16 (fun _ z=>nomatch z);have F1:=(f1.same s36).tup tu;have F2:=(f2.same s36).tup tu;have F0:=(f0.same s36).tup tu;have F6:=f6.tup tu;have Fn:=(fn3.same s36).tup tu;have s07:Same H (upd H6 p1 (.lst ([v1,v2,.ref p0]++[v6]))):=(s03.trans s36).updD hp10;have e7:upd H6 p1 (.lst ([v1,v2,.ref p0]++[v6])) p1=some (.lst ([v1,v2,.ref p0]++[v6])):=Ã;generalize upd H6 p1 (.lst ([v1,v2,.ref p0]++[v6]))=H7 at *;refine(ex1 rfl (ex1 rfl ⟨szn,fun p8 hp8=>?_⟩));have t8:=Same.upd (o:=.lst [V.ref cn]) hp8;refine⟨p1,p8,_,_,rfl,rfl,t8 _ _ e7,Ã,szn,fun p9 hp9=>?_⟩;have t9:=t8.trans (Same.upd (o:=.lst (([v1,v2,.ref p0]++[v6])++[V.ref cn])) hp9);obtain⟨v,hv,hat⟩:=yR1 (xs:=([v1,v2,.ref p0]++[v6])++[V.ref cn]) (j:=c.fmod 5) q5.1 q5.2;refine(ex1 rfl ⟨_,_,rfl,rfl,(show (5:Int)≠0 by decide),p9,_,_,v,rfl,rfl,SqL.of Ã,hat,?_⟩);obtain⟨r',fr,cr'⟩:∃r',FrV H7 v r' /\ Cd (6*E') (246*Y) r':=by
   simp only[List.cons_append,List.nil_append,Ė,Ő,or_false]at hv;rcases hv with rfl | rfl | rfl | rfl | rfl
   ·exact⟨_,F1,g1⟩
   ·exact⟨_,F2,c6.neg.mono (by lia)⟩
   ·exact⟨_,F0,Cd.zero _ _⟩
   ·exact⟨_,F6,(c6.add g4).mono (by lia)⟩
   ·exact⟨_,Fn,c6.mono (by lia)⟩
  exact k v _ r' (s07.trans t9) (fr.same t9) cr'
noncomputable abbrev zA3:Stmt:=top 76
theorem sc__law_other_paper:Ï ["_law_paper","_law_cells","_law_u","_law_v","_law_w"] ["_law_paper","_law_cells"] (Ç zA3):=scF
theorem zH6 {ca:Ca}(D:DefAt K mg "_law_other_paper" zA3)(T:Txt K mg ca)(G__law_number:FnAt P w K mg base CX0 4 "_law_number" ["_law_cell","_law_near"] (spNum K)):FnAt P w K mg base CX0 5 "_law_other_paper" ["_law_paper","_law_cells"] (spOp K):=by
 refine D.ok sc__law_other_paper (fun vs H Q E h=>?_) (fun _ _ _ _ _ _ us hl=>match us,hl with | [_,_],_=>rfl) (fun f cdv A outer s H vs Q E hr h=>?_)
 all_goals obtain⟨pt,m,n,u,vq,wq,ac,c0,c1,c2,c3,rfl,hP,pc,m1,m8,n8,hac,k⟩:=h
 ·rfl
 ·have nd:=sc__law_other_paper.nd;refine⟨_,(Ä (Ν (pv 0) (ì (K:=K) (n:=3) (by rfl) (by rfl) (Ñ (Ì (i:=2) nd rfl (Or.inl rfl)) (Ñ (Ì (i:=3) nd rfl (Or.inl rfl)) (Ñ (Ì (i:=4) nd rfl (Or.inl rfl)) ë)))))
   (Ä (Í (i:=3) nd rfl (Or.inl rfl) (ÿ (ó (K:=K) rfl) (by rfl) T.z_list Α (À (pv 3) Â)))
   (Ä (Í (i:=4) nd rfl (Or.inl rfl) (ÿ (ó (K:=K) rfl) (by rfl) T.z_list Α (À (pv 4) Â)))
   (Ä (á (Ð ï (Æ Ø (pixL (K:=K) (pv 1) Á) Á) Á (Ò _)) (Å (Í (i:=2) nd rfl (Or.inl rfl) (pfn G__law_number hr (À (pixL (K:=K) (pv 1) Á) (À (pv 2) Â))))) Ó)
   (Ä (á (PW.pt (yE5 (Ð ï (Æ Ø (Æ Ú (pixL (K:=K) (pv 1) Á) Á) Á) Á (Ò _)) (zR8 (Ð (xB9 (K:=K) rfl hr) (pv 3) (é Â) (Ò _))))) (Å (Ν (pfn G__law_number hr (À (Æ Ú (pixL (K:=K) (pv 1) Á) Á) (À (pixL (K:=K) (pv 3) (Æ Ø (pixL (K:=K) (pv 1) Á) (Ë (Ö (K:=K) rfl) (by rfl) T.z_len PySem.boot_len (À (pv 3) Â)))) Â))) (ξ (pv 3) (Æ Ø (pixL (K:=K) (pv 1) Á) (Ë (Ö (K:=K) rfl) (by rfl) T.z_len PySem.boot_len (À (pv 3) Â))) Ι))) Ó)
   (Ä (á (Ð ï (Æ Ø (Æ Ú (pixL (K:=K) (pv 1) Á) Á) Á) Á (Ò _)) (Å (Ν (pfn G__law_number hr (À (Æ Ú (pixL (K:=K) (pv 1) Á) Á) (À (pixL (K:=K) (pv 4) (Æ Ø (pixL (K:=K) (pv 1) Á) (Ë (Ö (K:=K) rfl) (by rfl) T.z_len PySem.boot_len (À (pv 4) Â)))) Â))) (ξ (pv 4) (Æ Ø (pixL (K:=K) (pv 1) Á) (Ë (Ö (K:=K) rfl) (by rfl) T.z_len PySem.boot_len (À (pv 4) Â))) Ι))) Ó)
   (Å (É (Õ (À (pv 2) (À (pv 3) (À (pv 4) Â)))))))))))),?_⟩
  obtain⟨t,uv,pv1,pw1,rfl,ht,fu,lv,lw⟩:=hP;obtain⟨E',Y,e0,eY,y2,cu,cv,cw⟩:=pc;have dd:∀{i d:Int},0<d->d<=1000000->ε i d:=fun h1 h2=>ű (by lia) (ă (m:=1000000) (by lia) (by decide));have up:∀{r:Rat},Cd E' Y r->Cd (6*E') (246*Y) r:=fun h=>by
   have:=h.up 6;rw[ť E' 6,ť Y 6]at this;exact this.mono (by lia)
  obtain⟨vs,hv,pV⟩:=id lv;obtain⟨us,hu,pU⟩:=id lw;have lV:vs.length=n:=pV.length.trans (Ý _ _);have lU:us.length=m:=pU.length.trans (Ý _ _);refine(ex1 rfl ⟨t,ex1 rfl ⟨SqT.of ht,rfl,_,_,rfl,_,_,rfl,_,_,rfl,rfl,?_⟩⟩);refine(ex1 rfl ⟨pv1,vs,rfl,.inl (SqL.of hv),fun l1 hl1=>?_⟩);have a1:=Same.upd (o:=.lst vs) hl1;have e1:=Ã (H:=H) (a:=l1) (o:=.lst vs);generalize upd H l1 (.lst vs)=H1 at *;refine(ex1 rfl ⟨pw1,us,rfl,.inl (SqL.of (a1 _ _ hu)),fun l2 hl2=>?_⟩);have n12:l1≠l2:=ê e1 hl2;have a2:=Same.upd (o:=.lst us) hl2;have e2:=Ã (H:=H1) (a:=l2) (o:=.lst us);generalize upd H1 l2 (.lst us)=H2 at *;have s2:=a1.trans a2;have hl20:=a1.free hl2;have e1:=a2 _ _ e1;have L1:LsF H2 l1 (nR n vq):=⟨vs,e1,î s2 pV⟩;have L2:LsF H2 l2 (nR m wq):=⟨us,e2,î s2 pU⟩;show Ends.nx _ [some (.ref t),some (.ref ac),some uv,some (.ref l1),some (.ref l2)] _;refine' zK8 (C:=fun (uv':V) (Hx:Hp)=>Same H2 Hx /\ FrL Hx (6*E') (246*Y) uv') (fun key=>?go) ?body
  case go =>
   have hc:=s2 _ _ hac;refine(ex1 rfl ⟨ac,_,_,_,rfl,rfl,SqL.of hc,rfl,_,_,rfl,rfl,(show (3:Int)≠0 by decide),rfl,ex1 rfl ?_⟩);refine ite2 (fun _=>?_) (fun _=>?_)
   ·refine(ex1 rfl ⟨ac,_,_,_,rfl,rfl,SqL.of hc,rfl,ex1 rfl (È ?_)⟩);refine spNum.mk (Ez:=E0) (fu.same s2) e0 eY y2 cu (fun v3 H3 r3 s3 f3 g3=>?_);exact key v3 H3 ⟨s3,r3,f3,g3⟩
   ·exact key uv H2 ⟨Same.refl _,u,fu.same s2,up cu⟩
  case body =>
  rintro uv' H3 ⟨s3,fu3⟩;have s03:=s2.trans s3;refine' yQ2 (C:=fun (Hx:Hp)=>Same H Hx /\ FrL Hx (6*E') (246*Y) uv' /\ PpL Hx (6*E') (246*Y) n l1 /\ LsF Hx l2 (nR m wq)) (fun key=>?go2) ?body2
  case go2 =>
   have hc:=s03 _ _ hac;obtain⟨ws,hws,pW⟩:=id (L1.same s3);have lW:ws.length=n:=pW.length.trans (Ý _ _);refine(ex1 rfl ⟨ac,_,_,_,rfl,rfl,SqL.of hc,rfl,_,_,rfl,rfl,dd (by decide) (by decide),_,_,rfl,rfl,(show (3:Int)≠0 by decide),rfl,ex1 rfl ?_⟩);refine ite2 (fun _=>?_) (fun _=>?_)
   ·refine(ex1 rfl ⟨szn,fun p hp=>?_⟩);have ap:=Same.upd (o:=.lst []) hp;have ep:=Ã (H:=H3) (a:=p) (o:=.lst []);have hc:=ap _ _ hc;have hws:=ap _ _ hws;have pW:=î ap pW;have fu4:=fu3.same ap;have s04:=s03.trans ap;have L2':=(L2.same s3).same ap;refine⟨l1,p,ws,rfl,rfl,SqL.of hws,SqL.of ep,ex1 rfl ?_⟩;generalize upd H3 p (.lst [])=H3' at *;refine ite2 (fun ne=>?_) (fun _=>?_)
    ·have wn:ws.length≠0:=fun z=>by
      rw[List.length_eq_zero_iff.mp z]at ne;cases ne
     have w0:((ws.length:Nat):Int)≠0:=by lia
     have q0:=à (c:=c2) (m:=((ws.length:Nat):Int)) (by lia);obtain⟨j,ej⟩:=Ī q0.1;have hj:j<ws.length:=by lia
     obtain⟨vj,hvj⟩:∃v,ws[j]?=some v:=⟨_,ā hj⟩;obtain⟨r,hr,fj⟩:=Ê pW hvj;obtain⟨hjn,rfl⟩:=Ÿ hr;have hat:atI ws (c2.fmod ((ws.length:Nat):Int))=some vj:=by rw[ej];exact Ŭ hvj
     have hix:ixN ws.length (c2.fmod ((ws.length:Nat):Int))=some j:=by rw[ej];exact Ψ hj
     refine(ex1 rfl ⟨ac,_,_,_,rfl,rfl,SqL.of hc,rfl,_,_,rfl,rfl,dd (by decide) (by decide),ex1 rfl (ex1 rfl ⟨ac,_,_,_,rfl,rfl,SqL.of hc,rfl,ex1 rfl ⟨_,_,rfl,.inl ⟨_,SqL.of hws,rfl⟩,_,_,rfl,rfl,w0,l1,_,_,_,rfl,rfl,SqL.of hws,hat,È ?_⟩⟩)⟩);refine spNum.mk (Ez:=E0) fj e0 eY y2 (cv j hjn) (fun v4 H4 r4 s4 f4 g4=>?_);have hws4:=s4 _ _ hws;refine(ex1 rfl (ex1 rfl ⟨ac,_,_,_,rfl,rfl,SqL.of (s4 _ _ hc),rfl,ex1 rfl ⟨_,_,rfl,.inl ⟨_,SqL.of hws4,rfl⟩,_,_,rfl,rfl,w0,l1,_,_,j,rfl,rfl,hws4,hix,?_⟩⟩));have tu:=ð (o:=.lst (ws.set j v4)) hws4 (fun _ z=>nomatch z);have F1:FrL (upd H4 l1 (.lst (ws.set j v4))) (6*E') (246*Y) uv':=let ⟨r,f,g⟩:=fu4.same s4;⟨r,f.tup tu,g⟩;have F2:PpL (upd H4 l1 (.lst (ws.set j v4))) (6*E') (246*Y) n l1:=⟨_,⟨_,Ã,Paired.mapP (zA6 (î s4 pW) f4) fun _ _ f=>f.tup tu⟩,fun i hi=>by
      show Cd _ _ (if i=j then r4 else vq i)
      split
      ·exact g4
      ·exact up (cv i hi)⟩
     have F3:LsF (upd H4 l1 (.lst (ws.set j v4))) l2 (nR m wq):=(L2'.same s4).keep tu (fun _ h=>by rw[upd_ne n12.symm];exact h);have F4:Same H (upd H4 l1 (.lst (ws.set j v4))):=(s04.trans s4).updD hl1;generalize upd H4 l1 (.lst (ws.set j v4))=H5 at *;exact key H5 ⟨F4,F1,F2,F3⟩
    ·exact key H3' ⟨s04,fu4,⟨vq,(L1.same s3).same ap,fun i hi=>up (cv i hi)⟩,L2'⟩
   ·exact key H3 ⟨s03,fu3,⟨vq,L1.same s3,fun i hi=>up (cv i hi)⟩,L2.same s3⟩
  case body2 =>
  rintro H6 ⟨s06,fu6,L16,L26⟩;refine' yQ2 (C:=fun (Hx:Hp)=>Same H Hx /\ FrL Hx (6*E') (246*Y) uv' /\ PpL Hx (6*E') (246*Y) n l1 /\ PpL Hx (6*E') (246*Y) m l2) (fun key=>?go3) ?body3
  case go3 =>
   have hc:=s06 _ _ hac;obtain⟨ws,hws,pW⟩:=id L26;have lW:ws.length=m:=pW.length.trans (Ý _ _);refine(ex1 rfl ⟨ac,_,_,_,rfl,rfl,SqL.of hc,rfl,_,_,rfl,rfl,dd (by decide) (by decide),_,_,rfl,rfl,(show (3:Int)≠0 by decide),rfl,ex1 rfl ?_⟩);refine ite2 (fun _=>?_) (fun _=>?_)
   ·have wn:ws.length≠0:=by lia
    have w0:((ws.length:Nat):Int)≠0:=by lia
    have q0:=à (c:=c2) (m:=((ws.length:Nat):Int)) (by lia);obtain⟨j,ej⟩:=Ī q0.1;have hj:j<ws.length:=by lia
    obtain⟨vj,hvj⟩:∃v,ws[j]?=some v:=⟨_,ā hj⟩;obtain⟨r,hr,fj⟩:=Ê pW hvj;obtain⟨hjn,rfl⟩:=Ÿ hr;have hat:atI ws (c2.fmod ((ws.length:Nat):Int))=some vj:=by rw[ej];exact Ŭ hvj
    have hix:ixN ws.length (c2.fmod ((ws.length:Nat):Int))=some j:=by rw[ej];exact Ψ hj
    refine(ex1 rfl ⟨ac,_,_,_,rfl,rfl,SqL.of hc,rfl,_,_,rfl,rfl,dd (by decide) (by decide),ex1 rfl (ex1 rfl ⟨ac,_,_,_,rfl,rfl,SqL.of hc,rfl,ex1 rfl ⟨_,_,rfl,.inl ⟨_,SqL.of hws,rfl⟩,_,_,rfl,rfl,w0,l2,_,_,_,rfl,rfl,SqL.of hws,hat,È ?_⟩⟩)⟩);refine spNum.mk (Ez:=E0) fj e0 eY y2 (cw j hjn) (fun v4 H4 r4 s4 f4 g4=>?_);have hws4:=s4 _ _ hws;refine(ex1 rfl (ex1 rfl ⟨ac,_,_,_,rfl,rfl,SqL.of (s4 _ _ hc),rfl,ex1 rfl ⟨_,_,rfl,.inl ⟨_,SqL.of hws4,rfl⟩,_,_,rfl,rfl,w0,l2,_,_,j,rfl,rfl,hws4,hix,?_⟩⟩));have tu:=ð (o:=.lst (ws.set j v4)) hws4 (fun _ z=>nomatch z);have F1:FrL (upd H4 l2 (.lst (ws.set j v4))) (6*E') (246*Y) uv':=let ⟨r,f,g⟩:=fu6.same s4;⟨r,f.tup tu,g⟩;have F2:PpL (upd H4 l2 (.lst (ws.set j v4))) (6*E') (246*Y) m l2:=⟨_,⟨_,Ã,Paired.mapP (zA6 (î s4 pW) f4) fun _ _ f=>f.tup tu⟩,fun i hi=>by
     show Cd _ _ (if i=j then r4 else wq i)
     split
     ·exact g4
     ·exact up (cw i hi)⟩
    have F3:PpL (upd H4 l2 (.lst (ws.set j v4))) (6*E') (246*Y) n l1:=let ⟨f,h1,h2⟩:=L16.same s4;⟨f,h1.keep tu (fun _ h=>by rw[upd_ne n12];exact h),h2⟩;have F4:Same H (upd H4 l2 (.lst (ws.set j v4))):=(s06.trans s4).updD hl20;generalize upd H4 l2 (.lst (ws.set j v4))=H5 at *;exact key H5 ⟨F4,F1,F3,F2⟩
   ·exact key H6 ⟨s06,fu6,L16,wq,L26,fun i hi=>up (cw i hi)⟩
  case body3 =>
  rintro H9 ⟨s9,⟨u',fu9,gu⟩,⟨vq',lv',gv⟩,⟨wq',lw',gw⟩⟩;refine(ex1 rfl (ex1 rfl (ex1 rfl ⟨szn,fun p hp=>?_⟩)));have ap:=Same.upd (o:=.tup [uv',.ref l1,.ref l2]) hp;exact k p _ u' vq' wq' (s9.trans ap) ⟨p,uv',l1,l2,rfl,Ã,fu9.same ap,lv'.same ap,lw'.same ap⟩ ⟨6*E',246*Y,by lia,by lia,ĉ (Ě (show 246<=2^8 by decide) y2) (by rw[<- Ľ];exact Þ (by decide)),gu,gv,gw⟩
noncomputable abbrev zA5:Stmt:=top 77
theorem sc__law_other_word:Ï ["_law_said","_law_offer_here","_law_cells","_law_paper","_law_amounts"] ["_law_said","_law_offer_here","_law_cells"] (Ç zA5):=scF
theorem zI4 {ca:Ca}(D:DefAt K mg "_law_other_word" zA5)(T:Txt K mg ca)(G__law_other_paper:FnAt P w K mg base CX0 5 "_law_other_paper" ["_law_paper","_law_cells"] (spOp K))(G__law_shifted:FnAt P w K mg base CX0 4 "_law_shifted" ["_law_amounts","_law_one","_law_other","_law_share"] (xF5 K)):FnAt P w K mg base CX0 6 "_law_other_word" ["_law_said","_law_offer_here","_law_cells"] (spOw K):=by
 refine D.ok sc__law_other_word (fun vs H Q E h=>?_) (fun _ _ _ _ _ _ us hl=>match us,hl with | [_,_,_],_=>rfl) (fun f cdv A outer s H vs Q E hr h=>?_)
 all_goals obtain⟨t,ao,os,now,cs,zs,wd,ac,c0,c1,c2,c3,rfl,hO,lO,w1,w4,c8,sd,hac,k⟩:=h
 ·rfl
 ·have nd:=sc__law_other_word.nd;refine⟨_,(Ä (Í (i:=3) nd rfl (Or.inl rfl) (pfn G__law_other_paper hr (À (pixT (K:=K) (pv 0) (xH3 yV8 Á)) (À (pv 2) Â))))
   (Ä (zC3 ["_law_entry"] [] [] (i:=4) nd rfl rfl rfl (by rfl) (ç (K:=K) rfl (pv 1)) (fun _ _ _ _=>(Ì (i:=0) (show List.Nodup (["_law_entry"]:List Str) from by decide) rfl (Or.inl rfl))) (fun _ _ _ _=>ã) (fun _ _ _ _=>(Õ (À Á (À Á Â)))))
   (Ä (á (Ð ï (pixT (K:=K) (pv 0) Á) å (Ò _)) (Å (Í (i:=4) nd rfl (Or.inl rfl) (pixT (K:=K) (pv 0) Á))) Ó)
   (Ä (á (Ð ï (Æ Ø (pixL (K:=K) (pv 2) Á) Á) Á (Ò _)) (Å (Í (i:=4) nd rfl (Or.inl rfl) (pfn G__law_shifted hr (À (pv 4) (À (Æ Ø (Æ Ú (pixL (K:=K) (pv 2) Á) Á) (Ë (Ö (K:=K) rfl) (by rfl) T.z_len PySem.boot_len (À (pv 1) Â))) (À (Æ Ø (Æ Ú (pixL (K:=K) (pv 2) Á) Á) (Ë (Ö (K:=K) rfl) (by rfl) T.z_len PySem.boot_len (À (pv 1) Â))) (À (Æ è Á (Æ Ø (Æ Ú (pixL (K:=K) (pv 2) Á) Á) Á)) Â))))))) Ó)
   (Ä (á (Ð ï (ø ï (Æ Ø (Æ Ú (pixL (K:=K) (pv 2) Á) Á) Á) Á (Ò _)) (ø ï (pixT (K:=K) (pv 0) Á) å (Ò _)) (Ò _)) (Å (É (Õ (À å (À (pv 3) Â))))) Ó)
   (Å (É (Õ (À å (À (pv 4) (À (pv 3) Â))))))))))),?_⟩
  obtain⟨s,rest,pt,u,vq,wq,h1,hfst,hlast,hP,pc,hbl⟩:∃(s:Str) (rest:List V) (pt:V) (u:Rat) (vq wq:Nat->Rat),H t=some (.tup (.str s::rest)) /\ atI (V.str s::rest) 0=some (V.str s) /\ atI (V.str s::rest) (-1)=some pt /\ PpV H zs.length cs.length pt u vq wq /\ PpC 2600 zs.length cs.length u vq wq /\ (s = "blend"->∃pa x,atI (V.str s::rest) 1=some (.ref pa) /\ LsF H pa (nR zs.length x) /\ XC 2600 zs.length x):=by
   rcases sd with⟨pt,u,vq,wq,h1,h2,h3,_⟩ | ⟨pa,pt,x,u,vq,wq,h1,h2,h3,h4,h5,_⟩
   ·exact⟨"none",[pt],pt,u,vq,wq,h1,rfl,rfl,h2,h3,fun e=>absurd e (by decide +kernel)⟩
   ·exact⟨"blend",[.ref pa,pt],pt,u,vq,wq,h1,rfl,rfl,h4,h5,fun _=>⟨pa,x,rfl,h2,h3⟩⟩
  have dd:∀{i d:Int},0<d->d<=1000000->ε i d:=fun h1 h2=>ű (by lia) (ă (m:=1000000) (by lia) (by decide));refine(ex1 rfl (ex1 rfl ⟨t,_,_,_,rfl,rfl,SqT.of h1,hlast,ex1 rfl (È ?_)⟩));refine spOp.mk (Ez:=E0) hP pc w1 (by lia) c8 hac (fun tp H1 u' vq' wq' s1 hP1 pc1=>?_);refine(ex1 rfl ⟨ao,rfl,⟨_,SqL.of (s1 _ _ hO)⟩,fun D hD=>?_⟩);refine æ (xs:=os) (fun j σ' H'=>∃(v:Option V) (qs:List V),σ'=[v] /\ Same H1 H' /\ H' D=some (.lst qs) /\ Paired (FrV H') qs (nR j fun _=>0)) ⟨none,[],rfl,Same.upd hD,Ã,.nil⟩ ?_ ?_ ?_
  ·rintro j σ' H' hj ⟨v,qs,rfl,s2,hd,hF⟩;exact SqL.of (s2 _ _ (s1 _ _ hO))
  ·rintro j y σ' H' hy ⟨v,qs,rfl,s2,hd,hF⟩;have hj:j<os.length:=(Ą.mp hy).1;have lQ:qs.length=j:=hF.length.trans (Ý j _);refine⟨szn,fun p1 hp1=>?_⟩;have t1:=Same.upd (o:=.tup [.int 0,.int 1]) hp1;have hd1:=t1 _ _ hd;refine⟨_,hd1,sz (by lia),_,qs++[.ref p1],rfl,(s2.trans t1).updD hD,Ã,?_⟩;rw[Ŵ];have tu:=ð (o:=.lst (qs++[.ref p1])) hd1 (fun _ z=>nomatch z);have f1:FrV (upd H' p1 (.tup [.int 0,.int 1])) (.ref p1) 0:=FrV.newOf rfl rfl;exact Paired.snoc (Paired.mapP hF fun _ _ f=>(f.same t1).tup tu) (f1.tup tu)
  rintro σ' H2 ⟨v,qs,rfl,s2,hd,hF⟩;rw[lO]at hF;have s02:=s1.trans s2;have hO2:=s02 _ _ hO;have hc2:=s02 _ _ hac;have h12:=s02 _ _ h1;show Ends.nx _ [some (.ref t),some (.ref ao),some (.ref ac),some (.ref tp),some (.ref D)] _;refine' zK8 (C:=fun (aa:Addr) (Hx:Hp)=>Same H2 Hx /\ ∃x,LsF Hx aa (nR zs.length x) /\ XC 2600 zs.length x) (fun key=>?go) ?body
  case go =>
   refine(ex1 rfl ⟨t,_,_,_,rfl,rfl,SqT.of h12,hfst,rfl,ex1 rfl ?_⟩);refine ite2 (fun hb=>?_) (fun _=>?_)
   ·obtain⟨pa,x,hat,lx,xc⟩:=hbl (V.str.inj (of_decide_eq_true hb));refine(ex1 rfl ⟨t,_,_,_,rfl,rfl,SqT.of h12,hat,?_⟩);show Ends.nx _ [some (.ref t),some (.ref ao),some (.ref ac),some (.ref tp),some (.ref pa)] _;refine xN0 (F:=fun Hx=>Same H2 Hx) (Same.refl _) fun Hx sx=>?_;exact key pa Hx ⟨sx,x,(lx.same s02).same sx,xc⟩
   ·exact key D H2 ⟨Same.refl _,_,⟨qs,hd,hF⟩,1,1,by decide,by decide,ś _,fun _ _=>Cd.zero _ _⟩
  case body =>
  rintro aa H3 ⟨s3,x,lx,xc⟩;refine' zK8 (C:=fun (aa:Addr) (Hx:Hp)=>Same H2 Hx /\ ∃x,LsF Hx aa (nR zs.length x) /\ XC 2610 zs.length x) (fun key=>?go2) ?body2
  case go2 =>
   have hc:=s3 _ _ hc2;have hO3:=s3 _ _ hO2;have w0:((os.length:Nat):Int)≠0:=by lia
   have q1:=à (c:=c3.fdiv 2) (m:=((os.length:Nat):Int)) (by lia);have q2:=à (c:=c3.fdiv 8) (m:=((os.length:Nat):Int)) (by lia);have q4:=à (c:=c3.fdiv 32) (m:=4) (by decide);obtain⟨j1,e1⟩:=Ī q1.1;obtain⟨j2,e2⟩:=Ī q2.1;refine(ex1 rfl ⟨ac,_,_,_,rfl,rfl,SqL.of hc,rfl,_,_,rfl,rfl,(show (2:Int)≠0 by decide),rfl,ex1 rfl ?_⟩);refine ite2 (fun _=>?_) (fun _=>?_)
   ·refine(ex1 rfl (ex1 rfl ⟨ac,_,_,_,rfl,rfl,SqL.of hc,rfl,_,_,rfl,rfl,dd (by decide) (by decide),ex1 rfl ⟨_,_,rfl,.inl ⟨_,SqL.of hO3,rfl⟩,_,_,rfl,rfl,w0,ex1 rfl ⟨ac,_,_,_,rfl,rfl,SqL.of hc,rfl,_,_,rfl,rfl,dd (by decide) (by decide),ex1 rfl ⟨_,_,rfl,.inl ⟨_,SqL.of hO3,rfl⟩,_,_,rfl,rfl,w0,ex1 rfl ⟨ac,_,_,_,rfl,rfl,SqL.of hc,rfl,_,_,rfl,rfl,dd (by decide) (by decide),_,_,rfl,rfl,(show (4:Int)≠0 by decide),_,_,rfl,rfl,aa,zs.length,x,j1,j2,1+(c3.fdiv 32).fmod 4,(show [V.ref aa,V.int ((c3.fdiv 2).fmod ((os.length:Nat):Int)),V.int ((c3.fdiv 8).fmod ((os.length:Nat):Int)),V.int (1+(c3.fdiv 32).fmod 4)]=_ by rw[e1,e2]),by lia,by lia,by lia,by lia,by lia,lx,xc,fun p4 H4 x4 s4 l4 xc4=>?_⟩⟩⟩⟩⟩));exact key p4 H4 ⟨s3.trans s4,x4,l4,xc4⟩
   ·exact key aa H3 ⟨s3,x,lx,xc.mono (by decide)⟩
  case body2 =>
  rintro ab H5 ⟨s5,x5,l5,xc5⟩;have s15:=s2.trans s5;have s05:=s1.trans s15;refine(ex1 rfl ⟨ac,_,_,_,rfl,rfl,SqL.of (s5 _ _ hc2),rfl,_,_,rfl,rfl,dd (by decide) (by decide),_,_,rfl,rfl,(show (4:Int)≠0 by decide),rfl,ex1 rfl ⟨t,_,_,_,rfl,rfl,SqT.of (s5 _ _ h12),hfst,rfl,rfl,ex1 rfl ?_⟩⟩);refine ite2 (fun _=>?_) (fun _=>?_)
  ·refine(ex1 rfl ⟨szn,fun p hp=>?_⟩);have ap:=Same.upd (o:=.tup [.str "none",.ref tp]) hp;exact k p _ _ (s05.trans ap) (.inl ⟨.ref tp,u',vq',wq',Ã,(hP1.same s15).same ap,pc1,Iff.rfl⟩)
  ·refine(ex1 rfl (ex1 rfl ⟨szn,fun p hp=>?_⟩));have ap:=Same.upd (o:=.tup [.str "blend",.ref ab,.ref tp]) hp;exact k p _ _ (s05.trans ap) (.inr ⟨ab,.ref tp,x5,u',vq',wq',Ã,l5.same ap,xc5,(hP1.same s15).same ap,pc1,Iff.rfl⟩)
noncomputable abbrev zA2:Stmt:=top 78
theorem sc__law_others_right:Ï ["_law_offer_here","_law_wish","_law_now","_law_said","_law_script","_law_cells","_law_k","_law_word","_law_found"] ["_law_offer_here","_law_wish","_law_now","_law_said","_law_script"] (Ç zA2):=scF
theorem zG7 {ca:Ca}(D:DefAt K mg "_law_others_right" zA2)(T:Txt K mg ca)(G__law_other_word:FnAt P w K mg base CX0 6 "_law_other_word" ["_law_said","_law_offer_here","_law_cells"] (spOw K))(G_lets_by:FnAt P w K mg base CX0 11 "lets_by" ["offer","wish","now","some"] (spLets K))(G__law_right:FnAt P w K mg base CX0 10 "_law_right" ["_law_found","_law_offer_here","_law_wish","_law_now"] (spRt K)):FnAt P w K mg base CX0 12 "_law_others_right" ["_law_offer_here","_law_wish","_law_now","_law_said","_law_script"] (spOr K):=by
 refine D.ok sc__law_others_right (fun vs H Q E h=>?_) (fun _ _ _ _ _ _ us hl=>match us,hl with | [_,_,_,_,_],_=>rfl) (fun f cdv A outer s H vs Q E hr h=>?_)
 all_goals obtain⟨ao,aw,al,now,os,ls,zs,cs,wv,wd,t,a,ns,rfl,o,sd,hS,k⟩:=h
 ·rfl
 ·have nd:=sc__law_others_right.nd;refine⟨_,(Ä (Í (i:=5) nd rfl (Or.inl rfl) (zD5 (zC7 (K:=K) rfl) (pv 4) (Ξ Á) (Ξ Á)))
   (Ä (ů PassesOwn.never rfl (yL2 (by rfl) T.z_range (À Á (À (Æ ô (Ë (Ö (K:=K) rfl) (by rfl) T.z_len PySem.boot_len (À (pv 5) Â)) Á) (À Á Â)))) (Ì (i:=6) nd rfl (Or.inl rfl)) (Ä (Í (i:=7) nd rfl (Or.inl rfl) (pfn G__law_other_word hr (À (pv 3) (À (pv 0) (À (zD5 (zC7 (K:=K) rfl) (pv 5) (Ξ (pv 6)) (Ξ (Æ è (pv 6) Á))) Â)))))
   (Ä (Í (i:=8) nd rfl (Or.inl rfl) (pfn G_lets_by hr (À (pv 0) (À (pv 1) (À (pv 2) (À (pv 7) Â))))))
   (Å (á (PW.pt (Ζ (ŭ (ö (Ë (û (K:=K) rfl) (by rfl) T.z_isinstance â (À (pv 8) (À (Ż (v:=.ty "bool") (by rfl) T.z_bool zV4 rfl) Â))))) (Γ (Ð zS2 (pv 8) (pfn G__law_right hr (À (pv 7) (À (pv 0) (À (pv 1) (À (pv 2) Â))))) (Ò _))))) (Å (É ž)) Ó)))))
   (Å (É ž)))),?_⟩
  obtain⟨ms,ems,hms⟩:=xP1 ns;refine(ex1 rfl ⟨15,rfl,40,rfl,a,ex1 rfl ⟨hS,fun q hq=>?_⟩⟩);have aq:=Same.upd (o:=.lst (cutV (ns.map V.int) (some 15) (some 40))) hq;have eq:upd H q (.lst (cutV (ns.map V.int) (some 15) (some 40))) q=some (.lst (ms.map V.int)):=by rw[Ã,ems]
  generalize upd H q (.lst (cutV (ns.map V.int) (some 15) (some 40)))=H1 at *;have lM:(ms.map V.int).length=ms.length:=ą ..;refine(ex1 rfl ⟨_,_,rfl,.inl ⟨_,SqL.of eq,rfl⟩,_,_,rfl,rfl,0,(((ms.map V.int).length:Nat):Int) - 3,4,rfl,⟨by decide,by decide,by lia,by lia,by decide,by decide⟩,?_⟩);refine yI1 (fun i σ H2=>∃(v6 v7 v8:Option V),σ=[some (.ref ao),some (.ref aw),some (.int now),some (.ref t),some (.ref a),some (.ref q),v6,v7,v8] /\ Same H1 H2) ⟨none,none,none,rfl,Same.refl _⟩ ?_ ?_
  ·rintro i σ H2 hi ⟨v6,v7,v8,rfl,s2⟩;have hi':=yS0 (show (0:Int)<4 by decide) hi;obtain⟨c0,c1,c2,c3,ec⟩:=cut4 (ms:=ms) (k:=i*4) (by lia);have ek:(0:Int)+(i:Int)*4=((i*4:Nat):Int):=by lia
   rw[<- ek]at ec;have s02:=aq.trans s2;refine(ex1 rfl (ex1 rfl (ex1 rfl (ex1 rfl (ex1 rfl (ex1 rfl ⟨_,_,rfl,rfl,ex1 rfl ⟨q,ex1 rfl ⟨SqL.of (s2 _ _ eq),fun p hp=>?_⟩⟩⟩))))));rw[ec]at *;have ap:=Same.upd (o:=.lst [.int c0,.int c1,.int c2,.int c3]) hp;have o3:=o.same (s02.trans ap);refine(È ?_);refine spOw.mk (Ez:=E0) o3.hO o.lO o.w1 o.w4 o.c8 (sd.same (s02.trans ap)) Ã (fun t' H4 P s4 rt=>?_);have s04:=s02.trans (ap.trans s4);refine(ex1 rfl (ex1 rfl (ex1 rfl (ex1 rfl (È ?_)))));refine spLets.mk (Ez:=E0) (o.same s04) rt.wd (fun b5 H5 s5 h5=>?_);refine(ex1 rfl ⟨_,_,_,_,rfl,þ (n:="bool") rfl,ŷ (by decide) (by decide),ex1 rfl (iteF ?_)⟩);refine(ex1 rfl (ex1 rfl (ex1 rfl (ex1 rfl (ex1 rfl (È ?_))))));refine spRt.mk (Ez:=E0) (o.same (s04.trans s5)) (rt.same s5) (fun b6 H6 s6 h6=>⟨rfl,ex1 rfl ?_⟩);have e56:b5=b6:=Ŧ.mpr (h5.trans h6.symm);rw[show decide (V.bl b5=V.bl b6)=true from decide_eq_true (by rw[e56])];exact iteF ⟨_,_,_,rfl,s2.trans (ap.trans (s4.trans (s5.trans s6)))⟩
  ·rintro σ H2 ⟨v6,v7,v8,rfl,s2⟩;exact k H2 (aq.trans s2)
noncomputable abbrev zC1:Stmt:=top 79
theorem sc__law_changed:Ï ["_law_some","_law_at","_law_change","_law_found"] ["_law_some","_law_at","_law_change"] (Ç zC1):=scF
theorem zO0 {ca:Ca}(D:DefAt K mg "_law_changed" zC1)(T:Txt K mg ca):FnAt P w K mg base CX0 1 "_law_changed" ["_law_some","_law_at","_law_change"] (spChg K):=by
 refine D.ok sc__law_changed (fun vs H Q E h=>?_) (fun _ _ _ _ _ _ us hl=>match us,hl with | [_,_,_],_=>rfl) (fun f cdv A outer s H vs Q E hr h=>?_)
 all_goals obtain⟨a,m,f,at',ch,rfl,am,m8,hA,bf,bc,k⟩:=h
 ·rfl
 ·have nd:=sc__law_changed.nd;refine⟨_,(Ä (Í (i:=3) nd rfl (Or.inl rfl) (ÿ (ó (K:=K) rfl) (by rfl) T.z_list Α (À (pv 0) Â)))
   (Ä (Ν (Õ (À (Æ è (pixT (K:=K) (pixL (K:=K) (pv 3) (pv 1)) Á) (Æ ß (pv 2) (pixT (K:=K) (pixL (K:=K) (pv 3) (pv 1)) Á))) (À (pixT (K:=K) (pixL (K:=K) (pv 3) (pv 1)) Á) Â))) (ξ (pv 3) (pv 1) Ι))
   (Å (É (pv 3))))),?_⟩
  obtain⟨us,ha,pU⟩:=id hA;have lU:us.length=m:=pU.length.trans (Ý _ _);refine⟨_,rfl,a,us,rfl,.inl (SqL.of ha),fun l hl=>?_⟩;have tl:=Same.upd (o:=.lst us) hl;have el:upd H l (.lst us) l=some (.lst us):=Ã;generalize upd H l (.lst us)=H1 at *;have pU1:=î tl pU;obtain⟨v1,hv1,f1⟩:∃v,us[at']?=some v /\ FrV H1 v (f at'):=by
   obtain⟨v,hv⟩:∃v,us[at']?=some v:=⟨_,ā (by lia)⟩;obtain⟨r,hr,fv⟩:=Ê pU1 hv;obtain⟨_,rfl⟩:=Ÿ hr;exact⟨v,hv,fv⟩
  obtain⟨c,rfl,hc⟩:=id f1;refine⟨_,rfl,_,rfl,l,_,_,_,rfl,rfl,SqL.of el,Ŭ hv1,c,_,_,_,rfl,rfl,SqT.of hc,rfl,_,rfl,_,rfl,_,rfl,l,_,_,_,rfl,rfl,SqL.of el,Ŭ hv1,c,_,_,_,rfl,rfl,SqT.of hc,rfl,_,_,rfl,rfl,Ü 2701 bc (Ă bf.den (Þ (by decide))) (by decide),_,_,rfl,rfl,_,rfl,_,rfl,l,_,_,_,rfl,rfl,SqL.of el,Ŭ hv1,c,_,_,_,rfl,rfl,SqT.of hc,rfl,szn,fun p hp=>?_⟩;have tp:=Same.upd (o:=.tup [.int ((f at').num+ch*((f at').den:Int)),.int ((f at').den:Int)]) hp;have fp:FrV (upd H1 p (.tup [.int ((f at').num+ch*((f at').den:Int)),.int ((f at').den:Int)])) (.ref p) (f at'+(ch:Rat)):=FrV.newOf (yY1 _ _).1 (yY1 _ _).2;have el2:=tp _ _ el;refine⟨_,rfl,_,rfl,l,_,_,at',rfl,rfl,el2,Ψ (by lia),_,rfl,?_⟩;have tu:=ð (o:=.lst (us.set at' (.ref p))) el2 (fun _ z=>nomatch z);exact k l _ ((tl.trans tp).updD hl) ⟨_,Ã,Paired.mapP (zA6 (î tp pU1) fp) fun _ _ f=>f.tup tu⟩
noncomputable abbrev zF1:Stmt:=top 80
theorem sc__law_twice:Ï ["_law_number_here"] ["_law_number_here"] (Ç zF1):=scF
theorem zT3 {ca:Ca}(D:DefAt K mg "_law_twice" zF1)(T:Txt K mg ca):FnAt P w K mg base CX0 1 "_law_twice" ["_law_number_here"] (spTwc):=by
 refine D.ok sc__law_twice (fun vs H Q E h=>?_) (fun _ _ _ _ _ _ us hl=>match us,hl with | [_],_=>rfl) (fun f cdv A outer s H vs Q E hr h=>?_)
 all_goals obtain⟨v,r,rfl,fv,br,k⟩:=h
 ·rfl
 ·have nd:=sc__law_twice.nd;refine⟨_,(Å (É (Õ (À (Æ ß Á (pixT (K:=K) (pv 0) Á)) (À (Æ ß Á (pixT (K:=K) (pv 0) Á)) Â))))),?_⟩;obtain⟨c,rfl,hc⟩:=fv;have b2:(2:Int).natAbs<2^2700:=Ă (show (2:Int).natAbs<2^20 by decide) (Þ (by decide));refine⟨_,rfl,c,_,_,_,rfl,rfl,SqT.of hc,rfl,_,_,rfl,rfl,Ü 2700 b2 br.num (by decide),_,rfl,c,_,_,_,rfl,rfl,SqT.of hc,rfl,_,_,rfl,rfl,Ü 2700 b2 br.den (by decide),szn,fun p hp=>?_⟩;exact k p _ (Same.upd hp) (yO2 Ã)
noncomputable abbrev zA0:Stmt:=top 81
theorem sc__law_spoiled_blend:Ï ["_law_said","_law_way","_law_at","_law_word","_law_amounts","_law_paper","_law_u","_law_v","_law_w"] ["_law_said","_law_way","_law_at"] (Ç zA0):=scF
theorem zG1 {ca:Ca}(D:DefAt K mg "_law_spoiled_blend" zA0)(T:Txt K mg ca)(G__law_changed:FnAt P w K mg base CX0 1 "_law_changed" ["_law_some","_law_at","_law_change"] (spChg K))(G__law_twice:FnAt P w K mg base CX0 1 "_law_twice" ["_law_number_here"] (spTwc)):FnAt P w K mg base CX0 2 "_law_spoiled_blend" ["_law_said","_law_way","_law_at"] (spSpB K):=by
 refine D.ok sc__law_spoiled_blend (fun vs H Q E h=>?_) (fun _ _ _ _ _ _ us hl=>match us,hl with | [_,_,_],_=>rfl) (fun f cdv A outer s H vs Q E hr h=>?_)
 all_goals obtain⟨ao,aw,al,now,os,ls,zs,cs,wv,wd,t,way,at',pa,pt,x,u,vq,wq,rfl,o,h1,hA,xc,hP,pc,lb,k⟩:=h
 ·rfl
 ·have nd:=sc__law_spoiled_blend.nd;refine⟨_,(Ä (Ν (pv 0) (ì (K:=K) (n:=3) (by rfl) (by rfl) (Ñ (Ì (i:=3) nd rfl (Or.inl rfl)) (Ñ (Ì (i:=4) nd rfl (Or.inl rfl)) (Ñ (Ì (i:=5) nd rfl (Or.inl rfl)) ë)))))
   (Ä (Ν (pv 5) (ì (K:=K) (n:=3) (by rfl) (by rfl) (Ñ (Ì (i:=6) nd rfl (Or.inl rfl)) (Ñ (Ì (i:=7) nd rfl (Or.inl rfl)) (Ñ (Ì (i:=8) nd rfl (Or.inl rfl)) ë)))))
   (Ä (Í (i:=2) nd rfl (Or.inl rfl) (Æ Ø (pv 2) (Ë (Ö (K:=K) rfl) (by rfl) T.z_len PySem.boot_len (À (pv 4) Â))))
   (Ä (á (Ð ï (pv 1) Á (Ò _)) (Å (É (Õ (À (pv 3) (À (pfn G__law_changed hr (À (pv 4) (À (pv 2) (À Á Â)))) (À (pv 5) Â)))))) Ó)
   (Ä (á (Ð ï (pv 1) Á (Ò _)) (Å (É (Õ (À (pv 3) (À (Æ Ρ (pv 4) (é (À (Õ (À Á (À Á Â))) Â))) (À (pv 5) Â)))))) Ó)
   (Ä (á (Ð ï (pv 1) Á (Ò _)) (Å (É (Õ (À (pv 3) (À (ÿ (zG9 (K:=K) rfl) (by rfl) T.z_tuple zD8 (À (pv 4) Â)) (À (pv 5) Â)))))) Ó)
   (Ä (á (Ð ï (pv 1) Á (Ò _)) (Å (É (Õ (À (pv 3) (À (pv 4) (À (Õ (À (pixL (K:=K) (pfn G__law_changed hr (À (é (À (pv 6) Â)) (À Á (À Á Â)))) Á) (À (pv 7) (À (pv 8) Â)))) Â)))))) Ó)
   (Ä (á (Ð ï (pv 1) Á (Ò _)) (Å (É (Õ (À (pv 3) (À (pv 4) (À (Õ (À (pv 6) (À (pv 7) (À (pfn G__law_changed hr (À (pv 8) (À (pv 2) (À Á Â)))) Â)))) Â)))))) Ó)
   (Ä (á (Ð ï (pv 1) Á (Ò _)) (Å (É (Õ (À (pv 3) (À (pv 4) (À (Õ (À (pv 6) (À (pv 7) (À (zD5 (zC7 (K:=K) rfl) (pv 8) yA7 (Ξ (xH3 yV8 Á))) Â)))) Â)))))) Ó)
   (Ä (á (Ð ï (pv 1) Á (Ò _)) (Å (É (Õ (À (pv 3) (À (pv 4) (À (é (À (pv 6) (À (pv 7) (À (pv 8) Â)))) Â)))))) Ó)
   (Ä (á (Ð ï (pv 1) Á (Ò _)) (Å (É (Õ (À å (À (pv 5) Â))))) Ó)
   (Ä (á (Ð ï (pv 1) Á (Ò _)) (Å (É (Õ (À (pv 3) (À (ò ["_law_amount"] [] [] rfl (by rfl) (ç (K:=K) rfl (pv 4)) (fun _ _ _ _=>(Ì (i:=0) (show List.Nodup (["_law_amount"]:List Str) from by decide) rfl (Or.inl rfl))) (fun _ _ _ _=>ã) (fun _ _ _ _=>(pfn G__law_twice hr (À (pv 0) Â)))) (À (pv 5) Â)))))) Ó)
   (Å (É (Õ (À (pv 3) (À (pv 4) (À (Õ (À (pv 6) (À (Æ Ρ (pv 7) (é (À (Õ (À Á (À Á Â))) Â))) (À (pv 8) Â)))) Â)))))))))))))))))),?_⟩
  obtain⟨tp,uv,pv1,pw1,rfl,ht,fu,lv,lw⟩:=id hP;obtain⟨as,ha,pA⟩:=id hA;obtain⟨vs,hv,pV⟩:=id lv;obtain⟨us,hu,pU⟩:=id lw;have lA:as.length=zs.length:=pA.length.trans (Ý _ _);have lV:vs.length=cs.length:=pV.length.trans (Ý _ _);have lU:us.length=zs.length:=pU.length.trans (Ý _ _);have w1:=o.w1;have w4:=o.w4;have c8:=o.c8;have ps:=o.pps (pc.mono (by decide));have xs:=o.xs (xc.mono (by decide));obtain⟨E',X,e0,eX,hX,cx⟩:=id xc;obtain⟨F',Y,f0,fY,y2,cu,cv,cw⟩:=id pc;have two:∀{X:Nat},X<=2^2600->X+X<=2^2610:=fun {X} h=>ĉ (show X+X<=2^2601 by rw[ł];lia) (Þ (by decide));have sm:(1:Int).natAbs<2^2701:=Ă (show (1:Int).natAbs<2^20 by decide) (Þ (by decide));have o1:((1:Int):Rat)=1:=rfl;have c1:∀{E X:Nat} {r:Rat},Cd E X r->E<=X->Cd E (X+X) (r+((1:Int):Rat)):=fun {E X r} h l=>(h.add (xL2 E 1)).mono (by simp;lia);refine(ex1 rfl ⟨t,ex1 rfl ⟨SqT.of h1,rfl,_,_,rfl,_,_,rfl,_,_,rfl,rfl,?_⟩⟩);refine(ex1 rfl ⟨tp,ex1 rfl ⟨SqT.of ht,rfl,_,_,rfl,_,_,rfl,_,_,rfl,rfl,?_⟩⟩);have q0:=à (c:=at') (m:=((as.length:Nat):Int)) (by lia);obtain⟨j,ej⟩:=Ī q0.1;have hj:j<zs.length:=by lia
  refine(ex1 rfl (ex1 rfl ⟨_,_,rfl,.inl ⟨_,SqL.of ha,rfl⟩,_,_,rfl,rfl,(show ((as.length:Nat):Int)≠0 by lia),?_⟩));show Ends.nx _ [some (.ref t),some (.int way),some (.int (at'.fmod ((as.length:Nat):Int))),some (.str "blend"),some (.ref pa),some (.ref tp),some uv,some (.ref pv1),some (.ref pw1)] _;rw[ej];refine(ex1 rfl ⟨rfl,ex1 rfl ?_⟩);refine ite2 (fun _=>?_) (fun _=>?_)
  ·refine(ex1 rfl (ex1 rfl (ex1 rfl ⟨pa,zs.length,x,j,1,rfl,hj,by lia,hA,xs.bx j hj,sm,fun p2 H2 s2 l2=>(ex1 rfl ⟨szn,fun p3 hp3=>?_⟩)⟩)));have a3:=Same.upd (o:=.tup [.str "blend",.ref p2,.ref tp]) hp3;refine k _ _ (s2.trans a3) (wdb Ã (.inr ⟨p2,ex1 rfl ⟨l2.same a3,.inr ⟨u,vq,wq,(hP.same s2).same a3,pc.mono (by decide),⟨E',X+X,e0,by lia,two hX,fun i hi=>?_⟩,⟨False.elim,fun l=>?_⟩⟩⟩⟩))
   ·show Cd _ _ (if i=j then x j+((1:Int):Rat) else x i)
    split
    ·exact c1 (cx j hj) eX
    ·exact(cx i hi).mono (by lia)
   ·have e:=l.1.sum;rw[xA3 hj,lb.1.sum]at e
    grind
  refine(ex1 rfl ⟨rfl,ex1 rfl ?_⟩);refine ite2 (fun _=>?_) (fun _=>?_)
  ·refine(ex1 rfl (ex1 rfl ⟨szn,fun p1 hp1=>⟨szn,fun p2 hp2=>?_⟩⟩));have b1:=Same.upd (o:=.tup [.int 0,.int 1]) hp1;have b2:=Same.upd (o:=.lst [V.ref p1]) hp2;have s2:=b1.trans b2;refine⟨pa,p2,_,_,rfl,rfl,s2 _ _ ha,Ã,sz (by simp;lia),fun p3 hp3=>(ex1 rfl ⟨szn,fun p4 hp4=>?_⟩)⟩;have b3:=Same.upd (o:=.lst (as++[V.ref p1])) hp3;have b4:=Same.upd (o:=.tup [.str "blend",.ref p3,.ref tp]) hp4;exact k _ _ (s2.trans (b3.trans b4)) (wdb Ã (.inl ⟨.inr ⟨p3,ex1 rfl ⟨b4 _ _ Ã,.inl ⟨by simp;lia,rfl⟩⟩⟩,id⟩))
  refine(ex1 rfl ⟨rfl,ex1 rfl ?_⟩);refine ite2 (fun _=>?_) (fun _=>?_)
  ·refine(ex1 rfl (ex1 rfl ⟨pa,as,rfl,.inl ⟨SqL.of ha,fun p1 hp1=>(ex1 rfl ⟨szn,fun p2 hp2=>?_⟩)⟩⟩));have b1:=Same.upd (o:=.tup as) hp1;have b2:=Same.upd (o:=.tup [.str "blend",.ref p1,.ref tp]) hp2;exact k _ _ (b1.trans b2) (wdb Ã (.inl ⟨.inl ⟨"tuple",tyT (b2 _ _ Ã),by decide,rfl⟩,id⟩))
  refine(ex1 rfl ⟨rfl,ex1 rfl ?_⟩);refine ite2 (fun _=>?_) (fun _=>?_)
  ·refine(ex1 rfl (ex1 rfl (ex1 rfl ⟨szn,fun p1 hp1=>?_⟩)));have b1:=Same.upd (o:=.lst [uv]) hp1;have l1:LsF (upd H p1 (.lst [uv])) p1 (nR 1 fun _=>u):=LsF.new hp1 (.cons fu .nil);refine⟨p1,1,(fun _=>u),0,1,rfl,by decide,by decide,l1,ps.bu,sm,fun p2 H2 s2 l2=>?_⟩;obtain⟨ws,v0,hws,_,hat,fv⟩:=l2.at (j:=0) (by decide);have fv:FrV H2 v0 (u+((1:Int):Rat)):=fv;refine⟨p2,_,_,_,rfl,rfl,SqL.of hws,hat,ex1 rfl (ex1 rfl ⟨szn,fun p3 hp3=>⟨szn,fun p4 hp4=>?_⟩⟩)⟩;have b3:=Same.upd (o:=.tup [v0,.ref pv1,.ref pw1]) hp3;have b4:=Same.upd (o:=.tup [.str "blend",.ref pa,.ref p3]) hp4;have s04:=b1.trans (s2.trans (b3.trans b4));refine k _ _ s04 (wdb Ã (.inr ⟨pa,x,rfl,hA.same s04,.inr ⟨u+((1:Int):Rat),vq,wq,⟨p3,v0,pv1,pw1,rfl,b4 _ _ Ã,(fv.same b3).same b4,lv.same s04,lw.same s04⟩,⟨F',Y+Y,f0,by lia,two y2,c1 cu fY,fun i hi=>(cv i hi).mono (by lia),fun i hi=>(cw i hi).mono (by lia)⟩,xc.mono (by decide),⟨False.elim,fun l=>?_⟩⟩⟩));have e:=l.2.2.2;have e':=lb.2.2.2;have w0:=o.w0;unfold shwQ at e e'
   grind
  refine(ex1 rfl ⟨rfl,ex1 rfl ?_⟩);refine ite2 (fun _=>?_) (fun _=>?_)
  ·refine(ex1 rfl (ex1 rfl (ex1 rfl (ex1 rfl (ex1 rfl (ex1 rfl ⟨pw1,zs.length,wq,j,1,rfl,hj,by lia,lw,ps.bw j hj,sm,fun p2 H2 s2 l2=>⟨szn,fun p3 hp3=>⟨szn,fun p4 hp4=>?_⟩⟩⟩))))));have b3:=Same.upd (o:=.tup [uv,.ref pv1,.ref p2]) hp3;have b4:=Same.upd (o:=.tup [.str "blend",.ref pa,.ref p3]) hp4;have s24:=b3.trans b4;have s04:=s2.trans s24;refine k _ _ s04 (wdb Ã (.inr ⟨pa,x,rfl,hA.same s04,.inr ⟨u,vq,_,⟨p3,uv,pv1,p2,rfl,b4 _ _ Ã,fu.same s04,lv.same s04,l2.same s24⟩,⟨F',Y+Y,f0,by lia,two y2,cu.mono (by lia),fun i hi=>(cv i hi).mono (by lia),fun i hi=>?_⟩,xc.mono (by decide),⟨False.elim,fun l=>?_⟩⟩⟩))
   ·show Cd _ _ (if i=j then wq j+((1:Int):Rat) else wq i)
    split
    ·exact c1 (cw j hj) fY
    ·exact(cw i hi).mono (by lia)
   ·have e:=l.2.2.2;have e':=lb.2.2.2;have t0:=o.tt hj;unfold shwQ at e e';have es:sN zs.length (fun i=>(if i=j then wq j+((1:Int):Rat) else wq i)*ttQ zs i)=sN zs.length (fun i=>wq i*ttQ zs i)+ttQ zs j:=by
     rw[Ô (g:=fun i=>ttQ zs i*(if i=j then wq j+((1:Int):Rat) else wq i)) (fun i _=>ŕ _ _),yW4 hj,Ô (g:=fun i=>wq i*ttQ zs i) (fun i _=>ŕ _ _)]
     grind
    rw[es]at e
    grind
  refine(ex1 rfl ⟨rfl,ex1 rfl ?_⟩);refine ite2 (fun _=>?_) (fun _=>?_)
  ·refine(ex1 rfl (ex1 rfl (ex1 rfl (ex1 rfl (ex1 rfl (ex1 rfl (ex1 rfl ⟨pw1,us,rfl,SqL.of hu,fun p1 hp1=>⟨szn,fun p2 hp2=>⟨szn,fun p3 hp3=>?_⟩⟩⟩)))))));have b1:=Same.upd (o:=.lst (cutV us none (some (-1)))) hp1;have b2:=Same.upd (o:=.tup [uv,.ref pv1,.ref p1]) hp2;have b3:=Same.upd (o:=.tup [.str "blend",.ref pa,.ref p2]) hp3;have s03:=b1.trans (b2.trans b3);exact k _ _ s03 (wdb Ã (.inr ⟨pa,x,rfl,hA.same s03,.inl ⟨.inr ⟨p2,uv,_,_,true,true,false,rfl,b3 _ _ Ã,(fu.same s03).fra,fun _=>⟨.inr ⟨pv1,vq,rfl,lv.same s03,fun _=>lb.2.1.1,fun _=>rfl⟩,fun _=>.inl ⟨.inr ⟨p1,ex1 rfl ⟨(b2.trans b3) _ _ Ã,.inl ⟨by rw[yU8];lia,rfl⟩⟩⟩,rfl⟩⟩,rfl⟩,id⟩⟩))
  refine(ex1 rfl ⟨rfl,ex1 rfl ?_⟩);refine ite2 (fun _=>?_) (fun _=>?_)
  ·refine(ex1 rfl (ex1 rfl (ex1 rfl (ex1 rfl (ex1 rfl ⟨szn,fun p1 hp1=>⟨szn,fun p2 hp2=>?_⟩⟩)))));have b1:=Same.upd (o:=.lst [uv,.ref pv1,.ref pw1]) hp1;have b2:=Same.upd (o:=.tup [.str "blend",.ref pa,.ref p1]) hp2;have s02:=b1.trans b2;exact k _ _ s02 (wdb Ã (.inr ⟨pa,x,rfl,hA.same s02,.inl ⟨.inl ⟨"list",tyL (b2 _ _ Ã),by decide,rfl⟩,id⟩⟩))
  refine(ex1 rfl ⟨rfl,ex1 rfl ?_⟩);refine ite2 (fun _=>?_) (fun _=>?_)
  ·refine(ex1 rfl ⟨szn,fun p1 hp1=>?_⟩);have b1:=Same.upd (o:=.tup [.str "none",.ref tp]) hp1;refine k _ _ b1 (wdno Ã (.inr ⟨u,vq,wq,hP.same b1,pc.mono (by decide),⟨False.elim,fun l=>?_⟩⟩));have wk:=weak (g:=fun _=>0) lb.1 l.1 l.2.1;rw[Ů fun i _=>Ğ _]at wk;exact absurd l.2.2 (ĵ.mpr wk)
  refine(ex1 rfl ⟨rfl,ex1 rfl ?_⟩);refine ite2 (fun _=>?_) (fun _=>?_)
  ·refine(ex1 rfl (ex1 rfl ⟨pa,rfl,⟨_,SqL.of ha⟩,fun D hD=>?_⟩));refine æ (xs:=as) (fun i σ' H'=>∃(v:Option V) (ws:List V),σ'=[v] /\ Same H H' /\ H' D=some (.lst ws) /\ ws.length=i /\ ∀y∈ws,TwA H' y) ⟨none,[],rfl,Same.upd hD,Ã,rfl,fun _ z=>nomatch z⟩ ?_ ?_ ?_
   ·rintro i σ' H' hi ⟨v,ws,rfl,s1,hd,lw',tw⟩;exact SqL.of (s1 _ _ ha)
   ·rintro i y σ' H' hy ⟨v,ws,rfl,s1,hd,lw',tw⟩;obtain⟨r,hr,fy⟩:=Ê pA hy;obtain⟨hi,rfl⟩:=Ÿ hr;refine(ex1 rfl (È ?_));refine spTwc.mk (Ez:=E0) (fy.same s1) (xs.bx i hi) (fun p1 H2 s2 tp1=>?_);have hd2:=s2 _ _ hd;have tu:=ð (o:=.lst (ws++[.ref p1])) hd2 (fun _ z=>nomatch z);refine⟨_,hd2,sz (by lia),_,ws++[.ref p1],rfl,(s1.trans s2).updD hD,Ã,by rw[Ĕ,lw'];rfl,fun y' hy'=>?_⟩;rcases ř.mp hy' with e | e
    ·exact(tw y' e).tup fun a xs h=>tu _ _ (s2 _ _ h)
    ·rw[ő.mp e];exact tp1.tup tu
   rintro σ' H1 ⟨v,ws,rfl,s1,hd,lw',tw⟩;refine(ex1 rfl ⟨szn,fun p2 hp2=>?_⟩);have b2:=Same.upd (o:=.tup [.str "blend",.ref D,.ref tp]) hp2;exact k _ _ (s1.trans b2) (wdb Ã (.inl ⟨.inr ⟨D,ws,rfl,b2 _ _ hd,.inr ⟨by lia,ď ws.length false,tw_all fun y hy=>(tw y hy).tup fun a xs h=>b2 _ _ h,(xD9 (by lia)).symm⟩⟩,id⟩))
  ·refine(ex1 rfl (ex1 rfl (ex1 rfl (ex1 rfl ⟨szn,fun p1 hp1=>⟨szn,fun p2 hp2=>?_⟩⟩))));have b1:=Same.upd (o:=.tup [.int 0,.int 1]) hp1;have b2:=Same.upd (o:=.lst [V.ref p1]) hp2;have s2:=b1.trans b2;refine⟨pv1,p2,_,_,rfl,rfl,s2 _ _ hv,Ã,sz (by simp;lia),fun p3 hp3=>(ex1 rfl ⟨szn,fun p4 hp4=>⟨szn,fun p5 hp5=>?_⟩⟩)⟩;have b3:=Same.upd (o:=.lst (vs++[V.ref p1])) hp3;have b4:=Same.upd (o:=.tup [uv,.ref p3,.ref pw1]) hp4;have b5:=Same.upd (o:=.tup [.str "blend",.ref pa,.ref p4]) hp5;have s05:=s2.trans (b3.trans (b4.trans b5));exact k _ _ s05 (wdb Ã (.inr ⟨pa,x,rfl,hA.same s05,.inl ⟨.inr ⟨p4,uv,_,_,true,false,false,rfl,b5 _ _ Ã,(fu.same s05).fra,fun _=>⟨.inl ⟨.inr ⟨p3,ex1 rfl ⟨(b4.trans b5) _ _ Ã,.inl ⟨by simp;lia,rfl⟩⟩⟩,rfl⟩,fun z=>(nomatch z)⟩,rfl⟩,id⟩⟩))
noncomputable abbrev zA1:Stmt:=top 82
theorem sc__law_spoiled_none:Ï ["_law_said","_law_way","_law_at","_law_u","_law_v","_law_w"] ["_law_said","_law_way","_law_at"] (Ç zA1):=scF
theorem zG6 {ca:Ca}(D:DefAt K mg "_law_spoiled_none" zA1)(T:Txt K mg ca)(G__law_changed:FnAt P w K mg base CX0 1 "_law_changed" ["_law_some","_law_at","_law_change"] (spChg K))(G__law_twice:FnAt P w K mg base CX0 1 "_law_twice" ["_law_number_here"] (spTwc)):FnAt P w K mg base CX0 2 "_law_spoiled_none" ["_law_said","_law_way","_law_at"] (spSpN K):=by
 refine D.ok sc__law_spoiled_none (fun vs H Q E h=>?_) (fun _ _ _ _ _ _ us hl=>match us,hl with | [_,_,_],_=>rfl) (fun f cdv A outer s H vs Q E hr h=>?_)
 all_goals obtain⟨ao,aw,al,now,os,ls,zs,cs,wv,wd,t,way,at',pt,u,vq,wq,rfl,o,h1,hP,pc,ln,k⟩:=h
 ·rfl
 ·have nd:=sc__law_spoiled_none.nd;refine⟨_,(Ä (Ν (pixT (K:=K) (pv 0) Á) (ì (K:=K) (n:=3) (by rfl) (by rfl) (Ñ (Ì (i:=3) nd rfl (Or.inl rfl)) (Ñ (Ì (i:=4) nd rfl (Or.inl rfl)) (Ñ (Ì (i:=5) nd rfl (Or.inl rfl)) ë)))))
   (Ä (Í (i:=2) nd rfl (Or.inl rfl) (Æ Ø (pv 2) (Ë (Ö (K:=K) rfl) (by rfl) T.z_len PySem.boot_len (À (pv 5) Â))))
   (Ä (á (Ð ï (pv 1) Á (Ò _)) (Å (É (Õ (À å (À (ò ["_law_one"] [] [] rfl (by rfl) (ç (K:=K) rfl (pv 5)) (fun _ _ _ _=>(Ì (i:=0) (show List.Nodup (["_law_one"]:List Str) from by decide) rfl (Or.inl rfl))) (fun _ _ _ _=>ã) (fun _ _ _ _=>(Õ (À Á (À Á Â))))) (À (pixT (K:=K) (pv 0) Á) Â)))))) Ó)
   (Ä (á (Ð ï (pv 1) Á (Ò _)) (Å (É (Õ (À å (À (Õ (À (pv 3) (À (pv 4) (À (pfn G__law_changed hr (À (pv 5) (À (pv 2) (À (Æ ô (Æ ô Á Á) (Æ Ú (pixT (K:=K) (pixL (K:=K) (pv 5) (pv 2)) Á) (pixT (K:=K) (pixL (K:=K) (pv 5) (pv 2)) Á))) Â)))) Â)))) Â))))) Ó)
   (Ä (á (Ð ï (pv 1) Á (Ò _)) (Å (É (Õ (À å (À (Õ (À (pfn G__law_twice hr (À (pv 3) Â)) (À (pv 4) (À (pv 5) Â)))) Â))))) Ó)
   (Ä (á (Ð ï (pv 1) Á (Ò _)) (Å (É (Õ (À å (À (Õ (À (pv 3) (À (pv 4) (À (Æ Ρ (pv 5) (é (À (Õ (À Á (À Á Â))) Â))) Â)))) Â))))) Ó)
   (Ä (á (Ð ï (pv 1) Á (Ò _)) (Å (É (Õ (À å (À (Õ (À (pv 3) (À (ÿ (zG9 (K:=K) rfl) (by rfl) T.z_tuple zD8 (À (pv 4) Â)) (À (pv 5) Â)))) Â))))) Ó)
   (Ä (á (Ð ï (pv 1) Á (Ò _)) (Å (É (é (À å (À (pixT (K:=K) (pv 0) Á) Â))))) Ó)
   (Å (É (Õ (À å (À (Õ (À (Õ (À Á (À Á Â))) (À (ò ["_law_one"] [] [] rfl (by rfl) (ç (K:=K) rfl (pv 4)) (fun _ _ _ _=>(Ì (i:=0) (show List.Nodup (["_law_one"]:List Str) from by decide) rfl (Or.inl rfl))) (fun _ _ _ _=>ã) (fun _ _ _ _=>(Õ (À Á (À Á Â))))) (À (ò ["_law_one"] [] [] rfl (by rfl) (ç (K:=K) rfl (pv 5)) (fun _ _ _ _=>(Ì (i:=0) (show List.Nodup (["_law_one"]:List Str) from by decide) rfl (Or.inl rfl))) (fun _ _ _ _=>ã) (fun _ _ _ _=>(Õ (À Á (À Á Â))))) Â)))) Â))))))))))))),?_⟩
  obtain⟨tp,uv,pv1,pw1,rfl,ht,fu,lv,lw⟩:=id hP;obtain⟨vs,hv,pV⟩:=id lv;obtain⟨us,hu,pU⟩:=id lw;have lV:vs.length=cs.length:=pV.length.trans (Ý _ _);have lU:us.length=zs.length:=pU.length.trans (Ý _ _);have w1:=o.w1;have w4:=o.w4;have c8:=o.c8;have ps:=o.pps (pc.mono (by decide));refine(ex1 rfl ⟨t,_,_,_,rfl,rfl,SqT.of h1,rfl,tp,ex1 rfl ⟨SqT.of ht,rfl,_,_,rfl,_,_,rfl,_,_,rfl,rfl,?_⟩⟩);have q0:=à (c:=at') (m:=((us.length:Nat):Int)) (by lia);obtain⟨j,ej⟩:=Ī q0.1;have hj:j<zs.length:=by lia
  refine(ex1 rfl (ex1 rfl ⟨_,_,rfl,.inl ⟨_,SqL.of hu,rfl⟩,_,_,rfl,rfl,(show ((us.length:Nat):Int)≠0 by lia),?_⟩));show Ends.nx _ [some (.ref t),some (.int way),some (.int (at'.fmod ((us.length:Nat):Int))),some uv,some (.ref pv1),some (.ref pw1)] _;rw[ej];refine(ex1 rfl ⟨rfl,ex1 rfl ?_⟩);refine ite2 (fun _=>?_) (fun _=>?_)
  ·refine(ex1 rfl ⟨pw1,rfl,⟨_,SqL.of hu⟩,fun D hD=>?_⟩);refine yY9 hu hD (by lia) fun H1 s1 l1=>?_;rw[lU]at l1;refine(ex1 rfl ⟨t,_,_,_,rfl,rfl,SqT.of (s1 _ _ h1),rfl,szn,fun p hp=>?_⟩);have b1:=Same.upd (o:=.tup [.str "blend",.ref D,.ref tp]) hp;refine k _ _ (s1.trans b1) (wdb Ã (.inr ⟨D,ex1 rfl ⟨l1.same b1,.inr ⟨u,vq,wq,(hP.same s1).same b1,pc.mono (by decide),⟨1,1,by decide,by decide,ś _,fun _ _=>Cd.zero _ _⟩,⟨False.elim,fun l=>?_⟩⟩⟩⟩));have e:=l.1.sum;have w0:=o.w0;rw[Ů fun _ _=>rfl]at e;rw[<- e]at w0;exact absurd w0 (by decide)
  refine(ex1 rfl ⟨rfl,ex1 rfl ?_⟩);refine ite2 (fun _=>?_) (fun _=>?_)
  ·obtain⟨us',vj,hus,_,hat,fj⟩:=lw.at hj;obtain⟨cj,rfl,hcj⟩:=id fj;have bj:=ps.bw j hj;have dj:=Î (wq j);have nb:=natAbs_fdiv_le (wq j).num ((wq j).den:Int);have bn:=bj.num;have p0:=ś 2700;refine(ex1 rfl (ex1 rfl (ex1 rfl (ex1 rfl ⟨_,_,rfl,rfl,ex1 rfl (ex1 rfl ⟨pw1,_,_,_,rfl,rfl,SqL.of hus,hat,cj,_,_,_,rfl,rfl,SqT.of hcj,rfl,ex1 rfl (ex1 rfl ⟨pw1,_,_,_,rfl,rfl,SqL.of hus,hat,cj,_,_,_,rfl,rfl,SqT.of hcj,rfl,_,_,rfl,rfl,ű (by lia) (Ă bj.den (Þ (by decide))),_,_,rfl,rfl,È ?_⟩)⟩)⟩))));refine spChg.mk (Ez:=E0) hj (by lia) lw bj (by rw[ł];lia) (fun p2 H2 s2 l2=>⟨szn,fun p3 hp3=>⟨szn,fun p4 hp4=>?_⟩⟩);have b3:=Same.upd (o:=.tup [uv,.ref pv1,.ref p2]) hp3;have b4:=Same.upd (o:=.tup [.str "none",.ref p3]) hp4;have s24:=b3.trans b4;have s04:=s2.trans s24;refine k _ _ s04 (wdno Ã (.inl ⟨.inr ⟨p3,uv,_,_,true,true,false,rfl,b4 _ _ Ã,(fu.same s04).fra,fun _=>⟨.inr ⟨pv1,vq,rfl,lv.same s04,fun _=>ln.1.1,fun _=>rfl⟩,fun _=>.inr ⟨p2,ex1 rfl ⟨l2.same s24,nof fun all=>?_⟩⟩⟩,rfl⟩,id⟩));have a:=all j hj;rw[if_pos rfl]at a;exact absurd (xK3 (wq j)) (ĵ.mpr a)
  refine(ex1 rfl ⟨rfl,ex1 rfl ?_⟩);refine ite2 (fun _=>?_) (fun _=>?_)
  ·refine(ex1 rfl (È ?_));refine spTwc.mk (Ez:=E0) fu ps.bu (fun p1 H1 s1 tw=>(ex1 rfl (ex1 rfl ⟨szn,fun p2 hp2=>⟨szn,fun p3 hp3=>?_⟩⟩)));have b2:=Same.upd (o:=.tup [.ref p1,.ref pv1,.ref pw1]) hp2;have b3:=Same.upd (o:=.tup [.str "none",.ref p2]) hp3;have s13:=b2.trans b3;exact k _ _ (s1.trans s13) (wdno Ã (.inl ⟨.inr ⟨p2,_,_,_,false,false,false,rfl,b3 _ _ Ã,(tw.tup fun a xs h=>s13 _ _ h).fra,fun z=>(nomatch z),rfl⟩,id⟩))
  refine(ex1 rfl ⟨rfl,ex1 rfl ?_⟩);refine ite2 (fun _=>?_) (fun _=>?_)
  ·refine(ex1 rfl (ex1 rfl (ex1 rfl ⟨szn,fun p1 hp1=>⟨szn,fun p2 hp2=>?_⟩⟩)));have b1:=Same.upd (o:=.tup [.int 0,.int 1]) hp1;have b2:=Same.upd (o:=.lst [V.ref p1]) hp2;have s2:=b1.trans b2;refine⟨pw1,p2,_,_,rfl,rfl,s2 _ _ hu,Ã,sz (by simp;lia),fun p3 hp3=>⟨szn,fun p4 hp4=>⟨szn,fun p5 hp5=>?_⟩⟩⟩;have b3:=Same.upd (o:=.lst (us++[V.ref p1])) hp3;have b4:=Same.upd (o:=.tup [uv,.ref pv1,.ref p3]) hp4;have b5:=Same.upd (o:=.tup [.str "none",.ref p4]) hp5;have s05:=s2.trans (b3.trans (b4.trans b5));exact k _ _ s05 (wdno Ã (.inl ⟨.inr ⟨p4,uv,_,_,true,true,false,rfl,b5 _ _ Ã,(fu.same s05).fra,fun _=>⟨.inr ⟨pv1,vq,rfl,lv.same s05,fun _=>ln.1.1,fun _=>rfl⟩,fun _=>.inl ⟨.inr ⟨p3,ex1 rfl ⟨(b4.trans b5) _ _ Ã,.inl ⟨by simp;lia,rfl⟩⟩⟩,rfl⟩⟩,rfl⟩,id⟩))
  refine(ex1 rfl ⟨rfl,ex1 rfl ?_⟩);refine ite2 (fun _=>?_) (fun _=>?_)
  ·refine(ex1 rfl (ex1 rfl ⟨pv1,vs,rfl,.inl ⟨SqL.of hv,fun p1 hp1=>(ex1 rfl ⟨szn,fun p2 hp2=>⟨szn,fun p3 hp3=>?_⟩⟩)⟩⟩));have b1:=Same.upd (o:=.tup vs) hp1;have b2:=Same.upd (o:=.tup [uv,.ref p1,.ref pw1]) hp2;have b3:=Same.upd (o:=.tup [.str "none",.ref p2]) hp3;have s03:=b1.trans (b2.trans b3);exact k _ _ s03 (wdno Ã (.inl ⟨.inr ⟨p2,uv,_,_,true,false,false,rfl,b3 _ _ Ã,(fu.same s03).fra,fun _=>⟨.inl ⟨.inl ⟨"tuple",tyT ((b2.trans b3) _ _ Ã),by decide,rfl⟩,rfl⟩,fun z=>(nomatch z)⟩,rfl⟩,id⟩))
  refine(ex1 rfl ⟨rfl,ex1 rfl ?_⟩);refine ite2 (fun _=>?_) (fun _=>?_)
  ·refine(ex1 rfl ⟨t,_,_,_,rfl,rfl,SqT.of h1,rfl,szn,fun p1 hp1=>?_⟩);exact k _ _ (Same.upd hp1) (.inl ⟨"list",tyL Ã,by decide,id⟩)
  ·refine⟨szn,fun p0 hp0=>?_⟩;have b0:=Same.upd (o:=.tup [V.int 0,.int 1]) hp0;have f0:FrV (upd H p0 (.tup [V.int 0,.int 1])) (.ref p0) 0:=FrV.newOf rfl rfl;generalize upd H p0 (.tup [V.int 0,.int 1])=H0 at *;refine(ex1 rfl ⟨pv1,rfl,⟨_,SqL.of (b0 _ _ hv)⟩,fun D hD=>?_⟩);refine yY9 (b0 _ _ hv) hD (by lia) fun H1 s1 l1=>?_;have s01:=b0.trans s1;refine(ex1 rfl ⟨pw1,rfl,⟨_,SqL.of (s01 _ _ hu)⟩,fun D' hD'=>?_⟩);refine yY9 (s01 _ _ hu) hD' (by lia) fun H2 s2 l2=>?_;rw[lV]at l1;rw[lU]at l2;refine⟨szn,fun p3 hp3=>⟨szn,fun p4 hp4=>?_⟩⟩;have b3:=Same.upd (o:=.tup [.ref p0,.ref D,.ref D']) hp3;have b4:=Same.upd (o:=.tup [.str "none",.ref p3]) hp4;have s24:=b3.trans b4;refine k _ _ (s01.trans (s2.trans s24)) (wdno Ã (.inr ⟨0,_,_,⟨p3,_,D,D',rfl,b4 _ _ Ã,f0.same (s1.trans (s2.trans s24)),l1.same (s2.trans s24),l2.same s24⟩,⟨1,1,by decide,by decide,ś _,Cd.zero _ _,fun _ _=>Cd.zero _ _,fun _ _=>Cd.zero _ _⟩,⟨False.elim,fun l=>?_⟩⟩));have e:=l.2.2;unfold shwQ at e;rw[Ů fun _ _=>Ğ _,Ğ,Rat.sub_self]at e;exact absurd e (by decide)
noncomputable abbrev zJ7:Stmt:=top 83
theorem sc__law_odd:Ï ["_law_cell","_law_some"] ["_law_cell"] (Ç zJ7):=scF
theorem yB6 {ca:Ca}(D:DefAt K mg "_law_odd" zJ7)(T:Txt K mg ca):FnAt P w K mg base CX0 1 "_law_odd" ["_law_cell"] (xF6 K):=by
 refine D.ok sc__law_odd (fun vs H Q E h=>?_) (fun _ _ _ _ _ _ us hl=>match us,hl with | [_],_=>rfl) (fun f cdv A outer s H vs Q E hr h=>?_)
 all_goals obtain⟨c,rfl,k⟩:=h
 ·rfl
 ·have nd:=sc__law_odd.nd;refine⟨_,(@PSsw.h _ _ _ (yC9 (xE1 (i:=1) nd rfl (Or.inl rfl) (wlst (wC wnon (wC wbl (wC wint (wC wstr (wC wstr (wT (wtup wnil) (wT (wtup (wC wstr wnil)) (wT (wtup (wC wstr wnil)) (wL (wlst (wC wstr wnil)) (wT (wtup (wC wstr (wC wnon wnil))) (wT (wtup (wC wstr (wL (wlst wnil) (wT (wtup wnil) wnil)))) (wD wdn wnil))))))))))))))
   (yC9 (xE3 (pv 1) (wT (wtup (wC wstr (wL (wlst (wT (wtup (wC wbl (wC wint wnil))) wnil)) (wT (wtup (wT (wtup (wC wbl (wC wint wnil))) (wL (wlst wnil) (wL (wlst (wT (wtup (wC wint (wC wint wnil))) wnil)) wnil)))) wnil)))) wnil))
   (yZ1 (xE2 (PEw.mk (pixL (K:=K) (pv 1) (Æ Ø (pv 0) Á)))))))),?_⟩
  refine⟨szn,fun p1 hp1=>?_⟩;have a1:=Same.upd (o:=.tup []) hp1;have e1:=Ã (H:=H) (a:=p1) (o:=.tup []);generalize upd H p1 (.tup [])=H1 at *;refine⟨szn,fun p2 hp2=>?_⟩;have a2:=Same.upd (o:=.tup [.str "none"]) hp2;have e2:=Ã (H:=H1) (a:=p2) (o:=.tup [.str "none"]);generalize upd H1 p2 (.tup [.str "none"])=H2 at *;refine⟨szn,fun p3 hp3=>?_⟩;have a3:=Same.upd (o:=.tup [.str "blend"]) hp3;have e3:=Ã (H:=H2) (a:=p3) (o:=.tup [.str "blend"]);generalize upd H2 p3 (.tup [.str "blend"])=H3 at *;refine⟨szn,fun p4 hp4=>?_⟩;have a4:=Same.upd (o:=.lst [.str "blend"]) hp4;have e4:=Ã (H:=H3) (a:=p4) (o:=.lst [.str "blend"]);generalize upd H3 p4 (.lst [.str "blend"])=H4 at *;refine⟨szn,fun p5 hp5=>?_⟩;have a5:=Same.upd (o:=.tup [.str "none",.non]) hp5;have e5:=Ã (H:=H4) (a:=p5) (o:=.tup [.str "none",.non]);generalize upd H4 p5 (.tup [.str "none",.non])=H5 at *;refine⟨szn,fun p6 hp6=>?_⟩;have a6:=Same.upd (o:=.lst []) hp6;have e6:=Ã (H:=H5) (a:=p6) (o:=.lst []);generalize upd H5 p6 (.lst [])=H6 at *;refine⟨szn,fun p7 hp7=>?_⟩;have a7:=Same.upd (o:=.tup []) hp7;have e7:=Ã (H:=H6) (a:=p7) (o:=.tup []);generalize upd H6 p7 (.tup [])=H7 at *;refine⟨szn,fun p8 hp8=>?_⟩;have a8:=Same.upd (o:=.tup [.str "blend",.ref p6,.ref p7]) hp8;have e8:=Ã (H:=H7) (a:=p8) (o:=.tup [.str "blend",.ref p6,.ref p7]);generalize upd H7 p8 (.tup [.str "blend",.ref p6,.ref p7])=H8 at *;intro p9 hp9;have a9:=Same.upd (o:=.dT []) hp9;have e9:=Ã (H:=H8) (a:=p9) (o:=.dT []);generalize upd H8 p9 (.dT [])=H9 at *;refine⟨szn,fun p10 hp10=>?_⟩;have a10:=Same.upd (o:=.lst [.non,.bl true,.int 0,.str "",.str "none",.ref p1,.ref p2,.ref p3,.ref p4,.ref p5,.ref p8,.ref p9]) hp10;have e10:=Ã (H:=H9) (a:=p10) (o:=.lst [.non,.bl true,.int 0,.str "",.str "none",.ref p1,.ref p2,.ref p3,.ref p4,.ref p5,.ref p8,.ref p9]);generalize upd H9 p10 (.lst [.non,.bl true,.int 0,.str "",.str "none",.ref p1,.ref p2,.ref p3,.ref p4,.ref p5,.ref p8,.ref p9])=H10 at *;refine(ex1 rfl ⟨.inl ⟨rfl,_,SqL.of e10⟩,?_⟩);refine⟨szn,fun p11 hp11=>?_⟩;have a11:=Same.upd (o:=.tup [.bl true,.int 1]) hp11;have e11:=Ã (H:=H10) (a:=p11) (o:=.tup [.bl true,.int 1]);generalize upd H10 p11 (.tup [.bl true,.int 1])=H11 at *;refine⟨szn,fun p12 hp12=>?_⟩;have a12:=Same.upd (o:=.lst [.ref p11]) hp12;have e12:=Ã (H:=H11) (a:=p12) (o:=.lst [.ref p11]);generalize upd H11 p12 (.lst [.ref p11])=H12 at *;refine⟨szn,fun p13 hp13=>?_⟩;have a13:=Same.upd (o:=.tup [.bl true,.int 1]) hp13;have e13:=Ã (H:=H12) (a:=p13) (o:=.tup [.bl true,.int 1]);generalize upd H12 p13 (.tup [.bl true,.int 1])=H13 at *;refine⟨szn,fun p14 hp14=>?_⟩;have a14:=Same.upd (o:=.lst []) hp14;have e14:=Ã (H:=H13) (a:=p14) (o:=.lst []);generalize upd H13 p14 (.lst [])=H14 at *;refine⟨szn,fun p15 hp15=>?_⟩;have a15:=Same.upd (o:=.tup [.int 0,.int 1]) hp15;have e15:=Ã (H:=H14) (a:=p15) (o:=.tup [.int 0,.int 1]);generalize upd H14 p15 (.tup [.int 0,.int 1])=H15 at *;refine⟨szn,fun p16 hp16=>?_⟩;have a16:=Same.upd (o:=.lst [.ref p15]) hp16;have e16:=Ã (H:=H15) (a:=p16) (o:=.lst [.ref p15]);generalize upd H15 p16 (.lst [.ref p15])=H16 at *;refine⟨szn,fun p17 hp17=>?_⟩;have a17:=Same.upd (o:=.tup [.ref p13,.ref p14,.ref p16]) hp17;have e17:=Ã (H:=H16) (a:=p17) (o:=.tup [.ref p13,.ref p14,.ref p16]);generalize upd H16 p17 (.tup [.ref p13,.ref p14,.ref p16])=H17 at *;refine⟨szn,fun p18 hp18=>?_⟩;have a18:=Same.upd (o:=.tup [.str "blend",.ref p12,.ref p17]) hp18;have e18:=Ã (H:=H17) (a:=p18) (o:=.tup [.str "blend",.ref p12,.ref p17]);generalize upd H17 p18 (.tup [.str "blend",.ref p12,.ref p17])=H18 at *;have e10':=e10;have c18:Same H10 H18:=a11.trans (a12.trans (a13.trans (a14.trans (a15.trans (a16.trans (a17.trans (a18)))))));have e10:=c18 _ _ e10;refine⟨p10,_,_,rfl,rfl,e10,szn,?_⟩;have kp:∀{b:Addr} {ob:HO},H18 b=some ob->b≠p10->upd H18 p10 (.lst ([.non,.bl true,.int 0,.str "",.str "none",.ref p1,.ref p2,.ref p3,.ref p4,.ref p5,.ref p8,.ref p9]++[.ref p18])) b=some ob:=fun e n=>by rw[upd_ne n];exact e
  have nt:∀{b:Addr} {xs:List V},H18 b=some (.tup xs)->upd H18 p10 (.lst ([.non,.bl true,.int 0,.str "",.str "none",.ref p1,.ref p2,.ref p3,.ref p4,.ref p5,.ref p8,.ref p9]++[.ref p18])) b=some (.tup xs):=fun e=>kp e (zU2 e e10 (by intro z;cases z));have s18:Same H9 (upd H18 p10 (.lst ([.non,.bl true,.int 0,.str "",.str "none",.ref p1,.ref p2,.ref p3,.ref p4,.ref p5,.ref p8,.ref p9]++[.ref p18]))):=(a10.trans c18).updD hp10;have b12:Same H12 H18:=a13.trans (a14.trans (a15.trans (a16.trans (a17.trans (a18)))));have n12:p12≠p10:=fun z=>by rw[z]at hp12;rw[a11 _ _ e10']at hp12;cases hp12
  have el:=Ã (H:=H18) (a:=p10) (o:=.lst ([.non,.bl true,.int 0,.str "",.str "none",.ref p1,.ref p2,.ref p3,.ref p4,.ref p5,.ref p8,.ref p9]++[.ref p18]));have e1:=s18 _ _ ((a2.trans (a3.trans (a4.trans (a5.trans (a6.trans (a7.trans (a8.trans (a9)))))))) _ _ e1);have e2:=s18 _ _ ((a3.trans (a4.trans (a5.trans (a6.trans (a7.trans (a8.trans (a9))))))) _ _ e2);have e3:=s18 _ _ ((a4.trans (a5.trans (a6.trans (a7.trans (a8.trans (a9)))))) _ _ e3);have e4:=s18 _ _ ((a5.trans (a6.trans (a7.trans (a8.trans (a9))))) _ _ e4);have e5:=s18 _ _ ((a6.trans (a7.trans (a8.trans (a9)))) _ _ e5);have e6:=s18 _ _ ((a7.trans (a8.trans (a9))) _ _ e6);have e8:=s18 _ _ ((a9) _ _ e8);have e9:=s18 _ _ e9;have e11:=nt ((a12.trans (a13.trans (a14.trans (a15.trans (a16.trans (a17.trans (a18))))))) _ _ e11);have e12:=kp (b12 _ _ e12) n12;have e18:=nt e18;have s0:Same H (upd H18 p10 (.lst ([.non,.bl true,.int 0,.str "",.str "none",.ref p1,.ref p2,.ref p3,.ref p4,.ref p5,.ref p8,.ref p9]++[.ref p18]))):=(a1.trans (a2.trans (a3.trans (a4.trans (a5.trans (a6.trans (a7.trans (a8.trans (a9))))))))).trans s18;generalize upd H18 p10 (.lst ([.non,.bl true,.int 0,.str "",.str "none",.ref p1,.ref p2,.ref p3,.ref p4,.ref p5,.ref p8,.ref p9]++[.ref p18]))=H19 at *;have q13:=à (c:=c) (m:=13) (by decide);obtain⟨v,hv,hat⟩:=yR1 (xs:=([.non,.bl true,.int 0,.str "",.str "none",.ref p1,.ref p2,.ref p3,.ref p4,.ref p5,.ref p8,.ref p9]++[.ref p18]:List V)) (j:=c.fmod 13) q13.1 (by show c.fmod 13<13;exact q13.2);refine(ex1 rfl (ex1 rfl ⟨_,_,rfl,rfl,(show (13:Int)≠0 by decide),p10,_,_,v,rfl,rfl,SqL.of el,hat,k v H19 s0 ?_⟩));simp only[List.cons_append,List.nil_append,Ė,Ő,or_false]at hv;rcases hv with rfl | rfl | rfl | rfl | rfl | rfl | rfl | rfl | rfl | rfl | rfl | rfl | rfl
  ·exact yB7 (n:="NoneType") rfl (by decide)
  ·exact yB7 (n:="bool") rfl (by decide)
  ·exact yB7 (n:="int") rfl (by decide)
  ·exact yB7 (n:="str") rfl (by decide)
  ·exact yB7 (n:="str") rfl (by decide)
  ·exact yM1 e1 (.inl rfl)
  ·exact yM1 e2 (.inr ⟨_,rfl⟩)
  ·exact yM1 e3 (.inr ⟨_,rfl⟩)
  ·exact yB7 (tyL e4) (by decide)
  ·exact fun _ _ _ _ _=>.inr (.inr (.inl ⟨p5,ex1 rfl ⟨e5,.inl ⟨.inl ⟨"NoneType",rfl,by decide,rfl⟩,id⟩⟩⟩))
  ·exact fun _ _ zs _ h1=>.inr (.inr (.inr ⟨p8,_,_,rfl,e8,.inl ⟨.inr ⟨p6,[],rfl,e6,.inl ⟨fun z=>by rw[<- z]at h1;exact absurd h1 (by decide),rfl⟩⟩,id⟩⟩))
  ·exact yB7 (n:="dict") (by show tyH (H19 p9)=_;rw[e9];rfl) (by decide)
  ·intro _ _ zs _ _;refine .inr (.inr (.inr ⟨p18,_,_,rfl,e18,.inl ⟨.inr ⟨p12,ex1 rfl ⟨e12,?_⟩⟩,id⟩⟩))
   by_cases z:[V.ref p11].length=zs.length
   ·exact .inr ⟨z,[false],.cons (.inr (.inr ⟨p11,_,_,rfl,e11,rfl⟩)) .nil,rfl⟩
   ·exact .inl ⟨z,rfl⟩
noncomputable abbrev ω:Stmt:=top 84
theorem sc_law:Ï ["_law_script","_law_now","_law_names_here","_law_offer_here","_law_wish","_law_said","_law_way","_law_spoiled","_law_handed","_law_some","_law_due","_law_found"] ["_law_script"] (Ç ω):=scF
theorem xI1 {ca:Ca}{f:Addr}{fd:FuncData}(D:Fun K "law" "law" ω f fd)(T:Txt K mg ca)(G__law_cell_at:FnAt P w K mg base CX0 1 "_law_cell_at" ["_law_script","_law_k"] (yE2 K))(G__law_names:FnAt P w K mg base CX0 1 "_law_names" ["_law_cell"] (yJ3))(G__law_offer:FnAt P w K mg base CX0 4 "_law_offer" ["_law_script","_law_at","_law_names_here","_law_now"] (spOff4 K))(G__law_label:FnAt P w K mg base CX0 4 "_law_label" ["_law_script","_law_at","_law_most","_law_names_here","_law_now"] (spLab2 K))(G__law_wanted:FnAt P w K mg base CX0 3 "_law_wanted" ["_law_offer_here","_law_cell"] (spWanted))(G_blend:FnAt P w K mg base CX0 10 "blend" ["offer","wish","now"] (spBl))(G__law_odd:FnAt P w K mg base CX0 1 "_law_odd" ["_law_cell"] (xF6 K))(G__law_spoiled_blend:FnAt P w K mg base CX0 2 "_law_spoiled_blend" ["_law_said","_law_way","_law_at"] (spSpB K))(G__law_spoiled_none:FnAt P w K mg base CX0 2 "_law_spoiled_none" ["_law_said","_law_way","_law_at"] (spSpN K))(G_lets_by:FnAt P w K mg base CX0 11 "lets_by" ["offer","wish","now","some"] (spLets K))(G__law_others_right:FnAt P w K mg base CX0 12 "_law_others_right" ["_law_offer_here","_law_wish","_law_now","_law_said","_law_script"] (spOr K)):FnOk P w K mg base CX0 13 f fd ["_law_script"] (spLaw K):=by
 refine D.ok sc_law (fun vs H Q E h=>?_) (fun cdv A outer s H vs Q E hr h=>?_)
 all_goals obtain⟨a,ns,rfl,hS,hlen,k⟩:=h
 ·rfl
 ·have nd:=sc_law.nd;refine⟨_,(Ä (Í (i:=1) nd rfl (Or.inl rfl) (Æ Ø (pfn G__law_cell_at hr (À (pv 0) (À Á Â))) Á))
   (Ä (Í (i:=2) nd rfl (Or.inl rfl) (pfn G__law_names hr (À (Æ Ú (pfn G__law_cell_at hr (À (pv 0) (À Á Â))) Á) Â)))
   (Ä (Í (i:=3) nd rfl (Or.inl rfl) (pfn G__law_offer hr (À (pv 0) (À Á (À (pv 2) (À (pv 1) Â))))))
   (Ä (Í (i:=4) nd rfl (Or.inl rfl) (Õ (À (pfn G__law_wanted hr (À (pv 3) (À (pfn G__law_cell_at hr (À (pv 0) (À Á Â))) Â))) (À (pfn G__law_label hr (À (pv 0) (À Á (À Á (À (pv 2) (À (pv 1) Â)))))) Â))))
   (Ä (Í (i:=5) nd rfl (Or.inl rfl) (pfn G_blend hr (À (pv 3) (À (pv 4) (À (pv 1) Â)))))
   (Ä (Í (i:=6) nd rfl (Or.inl rfl) (pfn G__law_cell_at hr (À (pv 0) (À Á Â))))
   (Ä (Í (i:=7) nd rfl (Or.inl rfl) (pfn G__law_odd hr (À (pv 6) Â)))
   (Ä (á (Ð ï (pixT (K:=K) (pv 5) Á) å (Ò _)) (Å (Í (i:=7) nd rfl (Or.inl rfl) (pfn G__law_spoiled_blend hr (À (pv 5) (À (Æ Ø (pv 6) Á) (À (Æ Ú (pv 6) Á) Â)))))) (Å (Í (i:=7) nd rfl (Or.inl rfl) (pfn G__law_spoiled_none hr (À (pv 5) (À (Æ Ø (pv 6) Á) (À (Æ Ú (pv 6) Á) Â)))))))
   (Ä (Í (i:=8) nd rfl (Or.inl rfl) (é (À (ÿ (ó (K:=K) rfl) (by rfl) T.z_list Α (À (pv 3) Â)) (À (Õ (À (pixT (K:=K) (pv 4) Á) (À (ÿ (ó (K:=K) rfl) (by rfl) T.z_list Α (À (pixT (K:=K) (pv 4) Á) Â)) Â))) Â))))
   (Ä (ů PassesOwn.never rfl (ç (K:=K) rfl (é (À (Õ (À (pv 5) (À ž Â))) (À (Õ (À (pv 7) (À ž Â))) (À (Õ (À (pfn G__law_odd hr (À (pfn G__law_cell_at hr (À (pv 0) (À Á Â))) Â)) (À ž Â))) (À (Õ (À (pv 5) (À ž Â))) Â)))))) (ì (K:=K) (n:=2) (by rfl) (by rfl) (Ñ (Ì (i:=9) nd rfl (Or.inl rfl)) (Ñ (Ì (i:=10) nd rfl (Or.inl rfl)) ë))) (Ä (Í (i:=11) nd rfl (Or.inl rfl) (pfn G_lets_by hr (À (pixL (K:=K) (pv 8) Á) (À (pixL (K:=K) (pv 8) Á) (À (pv 1) (À (pv 9) Â))))))
   (Å (á (PW.pt (Ζ (ŭ (ö (Ë (û (K:=K) rfl) (by rfl) T.z_isinstance â (À (pv 11) (À (Ż (v:=.ty "bool") (by rfl) T.z_bool zV4 rfl) Â))))) (Ζ (Ð zS2 (pv 11) (pv 10) (Ò _)) (Γ (Ð (xH8 (K:=K) rfl hr) (pv 8) (é (À (pv 3) (À (pv 4) Â))) (Ò _)))))) (Å (É ž)) Ó))))
   (Å (É (pfn G__law_others_right hr (À (pv 3) (À (pv 4) (À (pv 1) (À (pv 5) (À (pv 0) Â)))))))))))))))))),?_⟩
  have dd:∀{i d:Int},0<d->d<=1000000->ε i d:=fun h1 h2=>ű (by lia) (ă (m:=1000000) (by lia) (by decide));refine(ex1 rfl ⟨a,ns,0,rfl,hS,by decide,fun c0=>⟨_,_,rfl,rfl,(show (20001:Int)≠0 by decide),?_⟩⟩);let now:Int:=c0.fmod 20001;have hnow:0<=now /\ now<20001:=à (c:=c0) (m:=20001) (by decide);refine(ex1 rfl ⟨a,ns,10,rfl,hS,by decide,fun c10=>⟨_,_,rfl,rfl,dd (by decide) (by decide),c10.fdiv 2,rfl,fun an H1 zn s1 hz hl3=>?_⟩⟩);refine(ex1 rfl (ex1 rfl (ex1 rfl (È ?_))));refine spOff4.mk (Ez:=E0) (s1.seq hS) (by decide) (by decide) hz hl3 hnow (fun ao H2 os zs hao s2 h2 hO ok w1 w4=>?_);have s02:=s1.trans s2;have okW:∀z∈zs,OkW now z.1:=fun z hz=>(ok z hz).1;refine(ex1 rfl (ex1 rfl ⟨a,ns,10,rfl,s02.seq hS,by decide,fun c10'=>(È ?_)⟩));refine spWanted.mk (Ez:=E0) h2 hO okW w1 w4 (fun wv H3 wd s3 fw w0 cw=>?_);have s03:=s02.trans s3;refine(ex1 rfl (ex1 rfl (ex1 rfl (È ?_))));refine spLab2.mk (Ez:=E0) (s03.seq hS) (by decide) (by decide) (by decide) (by decide) ((s2.trans s3) _ _ hz) hl3 (fun al H4 ls cs hal s4 h4 hC c2 okc=>⟨szn,fun aw haw=>?_⟩);have t5:=Same.upd (o:=.tup [wv,V.ref al]) haw;have e5:upd H4 aw (.tup [wv,V.ref al]) aw=some (.tup [wv,V.ref al]):=Ã;have s45:=s4.trans t5;have s35:=s3.trans s45;have s05:=s02.trans s35;obtain⟨D',N',bl⟩:=xL6 ok okc (.inl ⟨w4,by lia⟩) w0 cw;have o:OfW (upd H4 aw (.tup [wv,V.ref al])) ao aw al now os ls zs cs wv wd:=⟨s35 _ _ h2,Paired.mapP hO (fun _ _ f=>OfP.same f s35),ok,w1,w4,e5,fw.same s45,t5 _ _ h4,Paired.mapP hC (fun _ _ f=>⟨RepC.same t5 f.1,f.2⟩),by lia,okc,⟨D',N',bl⟩,w0,(cw.bd (s:=130) (by decide) (by decide) (Ć _)).mono (by decide)⟩;show Ends.nx _ [some (.ref a),some (.int now),some (.ref an),some (.ref ao),some (.ref aw),none,none,none,none,none,none,none] _;generalize upd H4 aw (.tup [wv,V.ref al])=H5 at *;have lC:(cs.length:Int)<=2:=c2;have hS5:=s05.seq hS;clear hC hO h2 h4 e5 fw t5 s45 s35 s02 s03 s1 s2 s3 s4 hz hal hao haw okW;refine' zK8 (C:=fun (t:Addr) (Hx:Hp)=>Same H5 Hx /\ SdV Hx now cs zs wd t) (fun key=>?go) ?body
  case go =>
   refine(ex1 rfl (ex1 rfl (ex1 rfl (È ?_))));refine spBl.mk (Ez:=E0) o.hO o.hP o.okW w1 (by lia) o.hW o.fw o.hL o.hC o.c8 bl (fun t pt c H7 s7 h7 hp du no ng=>?_) (fun t pa pt c x H7 s7 h7 lx hp du fx best szs cost=>?_)
   ·have pc:=yW9 (lc:=1) bl (fun j=>(zM2 _ _ j).1) (Cd.one 1) du;obtain⟨M,B,fr,hc,cn⟩:=du;obtain⟨g1,g2⟩:=xF8 fr hc (fun j h1 h2=>if_neg (by lia)) (if_neg (by lia));have el:ż zs.length cs.length (2*zs.length+cs.length)=1:=if_pos rfl;rw[el]at g1 g2;refine key t H7 ⟨s7,.inl ⟨pt,_,_,_,h7,hp,pc,⟨⟨fun i hi=>cn _ (by lia),fun j hj=>cn _ (by lia)⟩,fun j hj=>?_,?_⟩⟩⟩
    ·have e:=g1 j hj;rw[show ż zs.length cs.length j=0 from if_neg (by lia)]at e;have:=cn j (by lia);show 1 - c (2*zs.length+cs.length) - c (zs.length+j)+sN cs.length (fun i=>c (2*zs.length+i)*wtQ now cs zs i j)<=0
     grind
    ·show 0<(1 - c (2*zs.length+cs.length))*wd - sN zs.length (fun j=>c (zs.length+j)*ttQ zs j);rw[g2];grind
   ·have pc:=yW9 (lc:=0) bl (fun j=>(bl.pr j).1) (Cd.zero 1 1) du;obtain⟨M,B,fr,hc,cn⟩:=du;have pz:∀j,zs.length<=j->prQ zs j=0:=fun j hj=>by unfold prQ;rw[Ġ hj]
    obtain⟨g1,g2⟩:=xF8 fr hc (fun j h1 h2=>pz j h1) (pz _ (by lia));rw[pz (2*zs.length+cs.length) (by lia)]at g1 g2;obtain⟨E',z0,z1,z2⟩:=szs;have fwX:N'*((zs.length+cs.length+1)*N')^(zs.length+cs.length+1)<=2^2599:=ĉ (ĉ (Ş _ (show 0<144 by decide)) (Ş _ (by lia))) bl.few;refine key t H7 ⟨s7,.inr ⟨pa,pt,x,_,_,_,h7,lx,⟨E',_,z0,z1,ĉ fwX (Þ (by decide)),z2⟩,hp,pc,⟨fx,⟨fun i hi=>cn _ (by lia),fun j hj=>cn _ (by lia)⟩,fun j hj=>?_,?_⟩⟩⟩
    ·have e:=g1 j hj;have:=cn j (by lia);show 0 - c (2*zs.length+cs.length) - c (zs.length+j)+sN cs.length (fun i=>c (2*zs.length+i)*wtQ now cs zs i j)<=prQ zs j
     grind
    ·show (0 - c (2*zs.length+cs.length))*wd - sN zs.length (fun j=>c (zs.length+j)*ttQ zs j)=_;rw[g2,cost]
  case body =>
  rintro t H7 ⟨s7,sd⟩;refine(ex1 rfl ⟨a,ns,13,rfl,s7.seq hS5,by decide,fun way=>?_⟩);refine(ex1 rfl ⟨way,rfl,fun v8 H8 s8 od=>?_⟩);have s58:=s7.trans s8;show Ends.nx _ [some (.ref a),some (.int now),some (.ref an),some (.ref ao),some (.ref aw),some (.ref t),some (.int way),some v8,none,none,none,none] _;refine' zK8 (C:=fun (v:V) (Hx:Hp)=>Same H7 Hx /\ WdV Hx now cs zs wd v False) (fun key=>?go2) ?body2
  case go2 =>
   have sd2:=sd.same s8;have o8:=o.same s58;rcases sd2 with⟨pt,u,vq,wq,h1,hP,pc,ln⟩ | ⟨pa,pt,x,u,vq,wq,h1,hA,xc,hP,pc,lb⟩
   ·refine(ex1 rfl ⟨t,_,_,_,rfl,rfl,SqT.of h1,rfl,rfl,ex1 rfl ?_⟩);refine Ù (by decide +kernel) ?_;refine(ex1 rfl (ex1 rfl ⟨_,_,rfl,rfl,(show (7:Int)≠0 by decide),ex1 rfl ⟨_,_,rfl,rfl,dd (by decide) (by decide),È ?_⟩⟩));refine spSpN.mk (Ez:=E0) o8 h1 hP pc ln (fun v H9 s9 wf=>?_);exact key v H9 ⟨s8.trans s9,wf⟩
   ·refine(ex1 rfl ⟨t,_,_,_,rfl,rfl,SqT.of h1,rfl,rfl,ex1 rfl (iteT ?_)⟩);refine(ex1 rfl (ex1 rfl ⟨_,_,rfl,rfl,(show (10:Int)≠0 by decide),ex1 rfl ⟨_,_,rfl,rfl,dd (by decide) (by decide),È ?_⟩⟩));refine spSpB.mk (Ez:=E0) o8 h1 hA xc hP pc lb (fun v H9 s9 wf=>?_);exact key v H9 ⟨s8.trans s9,wf⟩
  case body2 =>
  rintro vs H9 ⟨s79,wf⟩;have s9:=s7.trans s79;have o9:=o.same s9;have sd9:=sd.same s79;have hS9:=s9.seq hS5;obtain⟨bv,ebv,_⟩:=id o.fw;have hrefl:∀{Hx:Hp},AlS K Hx 2 wv wv:=fun {Hx}=>by rw[ebv];exact AlS.refl 2
  have ro:=yK2 (H:=H5) o.hP fun v z f=>(let ⟨a,_,_,e,_⟩:=f;⟨a,e⟩);have rl:=yK2 (H:=H5) o.hC fun v z f=>yS1 f.1;clear bl s58 sd o s79 s7 hS5;refine(ex1 rfl ⟨ao,os,rfl,.inl (SqL.of o9.hO),fun l1 hl1=>?_⟩);have b1:=Same.upd (o:=.lst os) hl1;have e1:=Ã (H:=H9) (a:=l1) (o:=.lst os);generalize upd H9 l1 (.lst os)=Ha at *;refine(ex1 rfl ⟨aw,_,_,_,rfl,rfl,SqT.of (b1 _ _ o9.hW),rfl,ex1 rfl ⟨aw,_,_,_,rfl,rfl,SqT.of (b1 _ _ o9.hW),rfl,al,ls,rfl,.inl (SqL.of (b1 _ _ o9.hL)),fun l2 hl2=>?_⟩⟩);have b2:=Same.upd (o:=.lst ls) hl2;have e2:=Ã (H:=Ha) (a:=l2) (o:=.lst ls);generalize upd Ha l2 (.lst ls)=Hb at *;refine⟨szn,fun l3 hl3=>?_⟩;have b3:=Same.upd (o:=.tup [wv,V.ref l2]) hl3;have e3:=Ã (H:=Hb) (a:=l3) (o:=.tup [wv,V.ref l2]);generalize upd Hb l3 (.tup [wv,V.ref l2])=Hc at *;refine⟨szn,fun lh hlh=>?_⟩;have b4:=Same.upd (o:=.lst [V.ref l1,.ref l3]) hlh;have eh:=Ã (H:=Hc) (a:=lh) (o:=.lst [V.ref l1,.ref l3]);generalize upd Hc lh (.lst [V.ref l1,.ref l3])=Hd at *;have e3:=b4 _ _ e3;have s2d:=b3.trans b4;have e2:=s2d _ _ e2;have e1:=(b2.trans s2d) _ _ e1;have s9d:=b1.trans (b2.trans s2d);show Ends.nx _ [some (.ref a),some (.int now),some (.ref an),some (.ref ao),some (.ref aw),some (.ref t),some (.int way),some vs,some (.ref lh),none,none,none] _;refine(ex1 rfl ⟨szn,fun q1 hq1=>?_⟩);have c1:=Same.upd (o:=.tup [V.ref t,.bl true]) hq1;have f1:=Ã (H:=Hd) (a:=q1) (o:=.tup [V.ref t,.bl true]);generalize upd Hd q1 (.tup [V.ref t,.bl true])=He at *;refine(ex1 rfl ⟨szn,fun q2 hq2=>?_⟩);have c2:=Same.upd (o:=.tup [vs,.bl false]) hq2;have f2:=Ã (H:=He) (a:=q2) (o:=.tup [vs,.bl false]);generalize upd He q2 (.tup [vs,.bl false])=Hf at *;have s9f:=s9d.trans (c1.trans c2);refine(ex1 rfl ⟨a,ns,14,rfl,s9f.seq hS9,by decide,fun c14=>⟨c14,rfl,fun vo Hg sg og=>⟨szn,fun q3 hq3=>?_⟩⟩⟩);have c3:=Same.upd (o:=.tup [vo,.bl false]) hq3;have f3:=Ã (H:=Hg) (a:=q3) (o:=.tup [vo,.bl false]);generalize upd Hg q3 (.tup [vo,.bl false])=Hh at *;refine(ex1 rfl ⟨szn,fun q4 hq4=>?_⟩);have c4:=Same.upd (o:=.tup [V.ref t,.bl true]) hq4;have f4:=Ã (H:=Hh) (a:=q4) (o:=.tup [V.ref t,.bl true]);generalize upd Hh q4 (.tup [V.ref t,.bl true])=Hi at *;refine⟨szn,fun lf hlf=>?_⟩;have c5:=Same.upd (o:=.lst [V.ref q1,.ref q2,.ref q3,.ref q4]) hlf;have f5:=Ã (H:=Hi) (a:=lf) (o:=.lst [V.ref q1,.ref q2,.ref q3,.ref q4]);generalize upd Hi lf (.lst [V.ref q1,.ref q2,.ref q3,.ref q4])=Hj at *;have sgj:=c3.trans (c4.trans c5);have s2j:=sg.trans sgj;have sdj:=c1.trans (c2.trans s2j);have s9j:=s9d.trans sdj;have oj:=o9.same s9j;have sdJ:=sd9.same s9j;have o':OfW Hj l1 l3 l2 now os ls zs cs wv wd:=⟨sdj _ _ e1,oj.hP,ok,w1,w4,sdj _ _ e3,oj.fw,sdj _ _ e2,oj.hC,oj.c8,okc,oj.bl,w0,oj.bw⟩;have told:∀(i:Nat) (y:V),[V.ref q1,.ref q2,.ref q3,.ref q4][i]?=some y->∃q v b P,y = .ref q /\ Hj q=some (.tup [v,.bl b]) /\ WdV Hj now cs zs wd v P /\ (b=true↔P):=by
   intro i y hy
   match i,hy with
   | 0,hy=>cases hy;exact⟨q1,_,true,True,rfl,(c2.trans s2j) _ _ f1,sdJ.rt.wd,fun _=>trivial,fun _=>rfl⟩
   | 1,hy=>cases hy;exact⟨q2,_,false,False,rfl,s2j _ _ f2,wf.same s9j,fun z=>(nomatch z),False.elim⟩
   | 2,hy=>cases hy;exact⟨q3,_,false,False,rfl,(c4.trans c5) _ _ f3,(og now cs zs wd w1).same sgj,fun z=>(nomatch z),False.elim⟩
   | 3,hy=>cases hy;exact⟨q4,_,true,True,rfl,c5 _ _ f4,sdJ.rt.wd,fun _=>trivial,fun _=>rfl⟩
   | i+4,hy=>simp at hy
  have ehj:=sdj _ _ eh;have hSj:=s9j.seq hS9;have s1j:=sdj _ _ e1;have s3j:=sdj _ _ e3;have l2j:=sdj _ _ e2;refine⟨lf,rfl,⟨_,SqL.of f5⟩,?_⟩;refine zI6 (xs:=[V.ref q1,.ref q2,.ref q3,.ref q4]) (fun i σ Hx=>∃(v9 v10 v11:Option V),σ=[some (.ref a),some (.int now),some (.ref an),some (.ref ao),some (.ref aw),some (.ref t),some (.int way),some vs,some (.ref lh),v9,v10,v11] /\ Same Hj Hx) ⟨none,none,none,rfl,Same.refl _⟩ ?_ ?_ ?_
  ·rintro i σ Hx hi ⟨v9,v10,v11,rfl,sx⟩;exact SqL.of (sx _ _ f5)
  ·rintro i y σ Hx hy ⟨v9,v10,v11,rfl,sx⟩;obtain⟨q,v,b,P,rfl,hq,hw,hb⟩:=told i y hy;refine⟨q,ex1 rfl ⟨SqT.of (sx _ _ hq),rfl,_,_,rfl,_,_,rfl,rfl,?_⟩⟩;refine(ex1 rfl ⟨lh,_,_,_,rfl,rfl,SqL.of (sx _ _ ehj),rfl,ex1 rfl ⟨lh,_,_,_,rfl,rfl,SqL.of (sx _ _ ehj),rfl,ex1 rfl (ex1 rfl (È ?_))⟩⟩);refine spLets.mk (Ez:=E0) (o'.same sx) (hw.same sx) (fun bx Hy sy hbx=>?_);refine(ex1 rfl ⟨_,_,_,_,rfl,þ (n:="bool") rfl,ŷ (by decide) (by decide),ex1 rfl (iteF ?_)⟩);refine(ex1 rfl (ex1 rfl ⟨rfl,ex1 rfl ?_⟩));rw[show decide (V.bl bx=V.bl b)=true from decide_eq_true (by rw[Ŧ.mpr (hbx.trans hb.symm)])];refine iteF ?_;refine(ex1 rfl (ex1 rfl (ex1 rfl ⟨szn,fun lq hlq=>?_⟩)));have sq:=Same.upd (o:=.lst [V.ref ao,.ref aw]) hlq;have sxq:=sx.trans (sy.trans sq);refine⟨⟨lh,lq,_,_,rfl,rfl,SqL.of (sxq _ _ ehj),SqL.of Ã,.cons ?_ (.cons ?_ .nil)⟩,ex1 rfl (iteF ⟨_,_,_,rfl,sxq⟩)⟩
   ·exact Or.inr ⟨l1,ao,os,os,rfl,rfl,.inl ⟨SqL.of (sxq _ _ s1j),SqL.of (sxq _ _ oj.hO)⟩,AlS.refls 2 ro⟩
   ·refine Or.inr ⟨l3,aw,_,_,rfl,rfl,.inr ⟨SqT.of (sxq _ _ s3j),SqT.of (sxq _ _ oj.hW)⟩,.cons hrefl (.cons ?_ .nil)⟩;exact Or.inr ⟨l2,al,ls,ls,rfl,rfl,.inl ⟨SqL.of (sxq _ _ l2j),SqL.of (sxq _ _ oj.hL)⟩,AlS.refls 1 rl⟩
  ·rintro σ Hx ⟨v9,v10,v11,rfl,sx⟩;refine(ex1 rfl (ex1 rfl (ex1 rfl (ex1 rfl (ex1 rfl (È ?_))))));exact spOr.mk (Ez:=E0) (oj.same sx) (sdJ.same sx) (sx.seq hSj) (fun H' _=>k H')
end
end T43
namespace T43
open PySem L2 Tc
theorem all_mk {l:PySem.W.OpenLaw}{w:World}{K:Ā}{h:Heap}{mg:Str->Option Value}{fa:Addr}(X:K.In h)(G:h.Ns mainGlobals mg)(hfa:mg "law" = some (.ref fa))
  {k_NoNumber:Addr}
  {f73:Addr}{oc73 kV73 dc73 pm73 cd73 ct73:Value}{od73 an73:Option Addr}{sl73:Array (Option Value)}
  (D_means:DefAt K mg "means" yA2)
  (D_is_whole:DefAt K mg "is_whole" zJ2)
  (D_common_divisor:DefAt K mg "common_divisor" zA7)
  (D_is_fraction:DefAt K mg "is_fraction" zD0)
  (D_plus:DefAt K mg "plus" yJ8)
  (D_minus:DefAt K mg "minus" yA1)
  (D_times:DefAt K mg "times" yA0)
  (D_over:DefAt K mg "over" yJ9)
  (D_under:DefAt K mg "under" zZ8)
  (D_sum_of:DefAt K mg "sum_of" zR5)
  (D_total:DefAt K mg "total" zZ9)
  (D_weight:DefAt K mg "weight" zR4)
  (D_balance:DefAt K mg "balance" zN0)
  (D_weights_in:DefAt K mg "weights_in" zE1)
  (D_product_sum:DefAt K mg "product_sum" zC8)
  (D_is_blend:DefAt K mg "is_blend" zJ4)
  (D_are_fractions:DefAt K mg "are_fractions" zB1)
  (D_are_from_0:DefAt K mg "are_from_0" zE6)
  (D_is_paper:DefAt K mg "is_paper" zJ3)
  (D_none_above:DefAt K mg "none_above" zE2)
  (D_shown_by:DefAt K mg "shown_by" zJ0)
  (D_lets_blend_by:DefAt K mg "lets_blend_by" zB0)
  (D_lets_none_by:DefAt K mg "lets_none_by" zB7)
  (D_lets_by:DefAt K mg "lets_by" zM8)
  (D_less_times:DefAt K mg "less_times" zE3)
  (D_pivoted:DefAt K mg "pivoted" zM6)
  (D_entering:DefAt K mg "entering" zJ5)
  (D_leaving:DefAt K mg "leaving" zM9)
  (D_lowered:DefAt K mg "lowered" zM7)
  (D_unit:DefAt K mg "unit" yJ7)
  (D_first_rows:DefAt K mg "first_rows" zE5)
  (D_lack_costs:DefAt K mg "lack_costs" zE4)
  (D_price_costs:DefAt K mg "price_costs" zC9)
  (D_without_lack:DefAt K mg "without_lack" zB6)
  (D_paper_of:DefAt K mg "paper_of" zJ1)
  (D_amounts_of:DefAt K mg "amounts_of" zE7)
  (D_blend:DefAt K mg "blend" yA3)
  (D__law_cell_at:DefAt K mg "_law_cell_at" zC2)
  (D__law_mixed:DefAt K mg "_law_mixed" zF7)
  (D__law_divisor:DefAt K mg "_law_divisor" zC0)
  (D__law_lowest:DefAt K mg "_law_lowest" zD3)
  (D__law_names:DefAt K mg "_law_names" zF6)
  (D__law_wine:DefAt K mg "_law_wine" zH0)
  (D__law_pick:DefAt K mg "_law_pick" zH1)
  (D__law_condition:DefAt K mg "_law_condition" zA9)
  (D__law_units:DefAt K mg "_law_units" zF0)
  (D__law_offer:DefAt K mg "_law_offer" zF5)
  (D__law_total:DefAt K mg "_law_total" zF2)
  (D__law_label:DefAt K mg "_law_label" zF9)
  (D__law_wanted:DefAt K mg "_law_wanted" zD1)
  (D__law_meant:DefAt K mg "_law_meant" zF8)
  (D__law_factor:DefAt K mg "_law_factor" zD4)
  (D__law_weighed:DefAt K mg "_law_weighed" zB8)
  (D__law_whole:DefAt K mg "_law_whole" zE9)
  (D__law_is_fraction:DefAt K mg "_law_is_fraction" zA4)
  (D__law_sum:DefAt K mg "_law_sum" zJ6)
  (D__law_kept:DefAt K mg "_law_kept" zH2)
  (D__law_is_blend:DefAt K mg "_law_is_blend" zB2)
  (D__law_cost:DefAt K mg "_law_cost" zH3)
  (D__law_fractions:DefAt K mg "_law_fractions" zA8)
  (D__law_worth:DefAt K mg "_law_worth" zE8)
  (D__law_shows:DefAt K mg "_law_shows" zF3)
  (D__law_right:DefAt K mg "_law_right" zF4)
  (D__law_shifted:DefAt K mg "_law_shifted" zB9)
  (D__law_number:DefAt K mg "_law_number" zD2)
  (D__law_other_paper:DefAt K mg "_law_other_paper" zA3)
  (D__law_other_word:DefAt K mg "_law_other_word" zA5)
  (D__law_others_right:DefAt K mg "_law_others_right" zA2)
  (D__law_changed:DefAt K mg "_law_changed" zC1)
  (D__law_twice:DefAt K mg "_law_twice" zF1)
  (D__law_spoiled_blend:DefAt K mg "_law_spoiled_blend" zA0)
  (D__law_spoiled_none:DefAt K mg "_law_spoiled_none" zA1)
  (D__law_odd:DefAt K mg "_law_odd" zJ7)
  (a73:ĭ K mainGlobals "law" = some (some (.ref f73)))(l73:K.lookup f73=some ⟨oc73,od73,.func (Ś "law" "law" (Ω ω) (Η ω) (Ç ω) .none kV73 dc73 pm73 an73 cd73 ct73),sl73⟩)(c73:PySem.W.codeIn K cd73 "law" = true)(k73:PySem.W.keepIn K (.ref f73)=true)
  (z_abs:ĭ K mainGlobals "abs" = some none)
  (z_all:ĭ K mainGlobals "all" = some none)
  (z_bool:ĭ K mainGlobals "bool" = some none)
  (z_enumerate:ĭ K mainGlobals "enumerate" = some none)
  (z_int:ĭ K mainGlobals "int" = some none)
  (z_isinstance:ĭ K mainGlobals "isinstance" = some none)
  (z_len:ĭ K mainGlobals "len" = some none)
  (z_list:ĭ K mainGlobals "list" = some none)
  (z_max:ĭ K mainGlobals "max" = some none)
  (z_min:ĭ K mainGlobals "min" = some none)
  (z_range:ĭ K mainGlobals "range" = some none)
  (z_str:ĭ K mainGlobals "str" = some none)
  (z_sum:ĭ K mainGlobals "sum" = some none)
  (z_tuple:ĭ K mainGlobals "tuple" = some none)
  (z_zip:ĭ K mainGlobals "zip" = some none)
  (y_NoNumber:ĭ K mainGlobals "NoNumber" = some (some (.ref k_NoNumber)))
  (e_NoNumber:PySem.W.excIn K k_NoNumber [.type "ValueError",.type "Exception",.type "BaseException",.type "object"] "ValueError.__new__" = true)
  (x_NoNumber:ExcK K k_NoNumber)
  (i_NoNumber_NoNumber:PySem.W.kitOne K (.ref k_NoNumber) (.ref k_NoNumber)=some true)
  (m_NoNumber_NoNumber:PySem.W.exmOne K (.ref k_NoNumber) (.ref k_NoNumber)=some true)
 :∃fd:FuncData,(∀(s:Shared) (v:Value),BindsTo s fd ⟨[v],[]⟩ [("_law_script",v)]) /\ ∀base:Heap,K.In base->base.Ns mainGlobals mg->FnOk l.prog w K mg base CX0 13 fa fd ["_law_script"] (spLaw K):=by
 have T:Txt K mg (⟨k_NoNumber⟩:Ca):=⟨ģ X G z_abs,ģ X G z_all,ģ X G z_bool,ģ X G z_enumerate,ģ X G z_int,ģ X G z_isinstance,ģ X G z_len,ģ X G z_list,ģ X G z_max,ģ X G z_min,ģ X G z_range,ģ X G z_str,ģ X G z_sum,ģ X G z_tuple,ģ X G z_zip,PySem.W.mg_of X G y_NoNumber,e_NoNumber,x_NoNumber,i_NoNumber_NoNumber,m_NoNumber_NoNumber⟩;have e:=hfa.symm.trans (PySem.W.mg_of X G a73);cases e;refine⟨Ś "law" "law" (Ω ω) (Η ω) (Ç ω) .none kV73 dc73 pm73 an73 cd73 ct73,fun s v=>.of_eq rfl,fun base _ _=>?_⟩;have G_means:=yT5 (P:=l.prog) (w:=w) (base:=base) D_means T  4;have G_is_whole:=yB1 (P:=l.prog) (w:=w) (base:=base) D_is_whole T;have G_common_divisor:=zK2 (P:=l.prog) (w:=w) (base:=base) D_common_divisor T;have G_is_fraction:=zP4 (P:=l.prog) (w:=w) (base:=base) D_is_fraction T G_is_whole G_common_divisor;have G_plus:=xC1 (P:=l.prog) (w:=w) (base:=base) D_plus T G_common_divisor;have G_minus:=yT4 (P:=l.prog) (w:=w) (base:=base) D_minus T G_plus;have G_times:=yT3 (P:=l.prog) (w:=w) (base:=base) D_times T G_common_divisor;have G_over:=xC2 (P:=l.prog) (w:=w) (base:=base) D_over T G_times;have G_under:=yT1 (P:=l.prog) (w:=w) (base:=base) D_under T;have G_sum_of:=yL9 (P:=l.prog) (w:=w) (base:=base) D_sum_of T G_plus;have G_total:=yT2 (P:=l.prog) (w:=w) (base:=base) D_total T G_sum_of;have G_weight:=yL8 (P:=l.prog) (w:=w) (base:=base) D_weight T G_minus G_means;have G_balance:=yH8 (P:=l.prog) (w:=w) (base:=base) D_balance T G_plus G_times G_weight;have G_weights_in:=zS3 (P:=l.prog) (w:=w) (base:=base) D_weights_in T G_over G_total G_balance;have G_product_sum:=zP2 (P:=l.prog) (w:=w) (base:=base) D_product_sum T G_sum_of G_times;have G_is_blend:=yB3 (P:=l.prog) (w:=w) (base:=base) D_is_blend T G_under G_total G_sum_of G_weights_in G_product_sum;have G_are_fractions:=zL4 (P:=l.prog) (w:=w) (base:=base) D_are_fractions T G_is_fraction;have G_are_from_0:=zS8 (P:=l.prog) (w:=w) (base:=base) D_are_from_0 T G_are_fractions;have G_is_paper:=yB2 (P:=l.prog) (w:=w) (base:=base) D_is_paper T G_is_fraction G_are_from_0;have G_none_above:=zS4 (P:=l.prog) (w:=w) (base:=base) D_none_above T G_weights_in G_plus G_product_sum G_under G_minus;have G_shown_by:=yA9 (P:=l.prog) (w:=w) (base:=base) D_shown_by T G_total G_minus G_product_sum G_times;have G_lets_blend_by:=zL3 (P:=l.prog) (w:=w) (base:=base) D_lets_blend_by T G_is_paper G_are_fractions G_none_above G_is_blend G_shown_by G_product_sum;have G_lets_none_by:=zN6 (P:=l.prog) (w:=w) (base:=base) D_lets_none_by T G_none_above G_is_paper G_shown_by;have G_lets_by:=yH6 (P:=l.prog) (w:=w) (base:=base) D_lets_by T G_lets_blend_by G_lets_none_by;have G_less_times:=zS5 (P:=l.prog) (w:=w) (base:=base) D_less_times T G_minus G_times;have G_pivoted:=yH4 (P:=l.prog) (w:=w) (base:=base) D_pivoted T G_over G_less_times;have G_entering:=yB4 (P:=l.prog) (w:=w) (base:=base) D_entering T;have G_leaving:=yH7 (P:=l.prog) (w:=w) (base:=base) D_leaving T G_over G_under;have G_lowered:=yH5 (P:=l.prog) (w:=w) (base:=base) D_lowered T G_entering G_leaving G_pivoted;have G_unit:=xC0 (P:=l.prog) (w:=w) (base:=base) D_unit T;have G_first_rows:=zS7 (P:=l.prog) (w:=w) (base:=base) D_first_rows T G_unit G_total G_weights_in G_minus;have G_lack_costs:=zS6 (P:=l.prog) (w:=w) (base:=base) D_lack_costs T G_minus;have G_price_costs:=zP3 (P:=l.prog) (w:=w) (base:=base) D_price_costs T G_less_times;have G_without_lack:=zN5 (P:=l.prog) (w:=w) (base:=base) D_without_lack T G_pivoted;have G_paper_of:=yB0 (P:=l.prog) (w:=w) (base:=base) D_paper_of T G_minus;have G_amounts_of:=zS9 (P:=l.prog) (w:=w) (base:=base) D_amounts_of T;have G_blend:=yT6 (P:=l.prog) (w:=w) (base:=base) D_blend T G_first_rows G_lowered G_lack_costs G_paper_of G_without_lack G_price_costs G_amounts_of;have G__law_cell_at:=zO1 (P:=l.prog) (w:=w) (base:=base) D__law_cell_at T;have G__law_mixed:=zT9 (P:=l.prog) (w:=w) (base:=base) D__law_mixed T;have G__law_divisor:=zN9 (P:=l.prog) (w:=w) (base:=base) D__law_divisor T;have G__law_lowest:=zP7 (P:=l.prog) (w:=w) (base:=base) D__law_lowest T G__law_divisor;have G__law_names:=zT8 (P:=l.prog) (w:=w) (base:=base) D__law_names T;have G__law_wine:=zW8 (P:=l.prog) (w:=w) (base:=base) D__law_wine T G__law_mixed G__law_lowest;have G__law_pick:=zW9 (P:=l.prog) (w:=w) (base:=base) D__law_pick T;have G__law_condition:=zK4 (P:=l.prog) (w:=w) (base:=base) D__law_condition T G__law_mixed G__law_lowest G__law_pick;have G__law_units:=zT2 (P:=l.prog) (w:=w) (base:=base) D__law_units T;have G__law_offer:=zT7 (P:=l.prog) (w:=w) (base:=base) D__law_offer T G__law_cell_at G__law_wine G__law_lowest G__law_mixed;have G__law_total:=zT4 (P:=l.prog) (w:=w) (base:=base) D__law_total T G__law_units;have G__law_label:=zU1 (P:=l.prog) (w:=w) (base:=base) D__law_label T G__law_cell_at G__law_condition;have G__law_wanted:=zP5 (P:=l.prog) (w:=w) (base:=base) D__law_wanted T G__law_total G__law_lowest G__law_mixed;have G__law_meant:=zU0 (P:=l.prog) (w:=w) (base:=base) D__law_meant T  4;have G__law_factor:=zP8 (P:=l.prog) (w:=w) (base:=base) D__law_factor T G__law_meant;have G__law_weighed:=zN7 (P:=l.prog) (w:=w) (base:=base) D__law_weighed T G__law_units G__law_factor;have G__law_whole:=zT1 (P:=l.prog) (w:=w) (base:=base) D__law_whole T;have G__law_is_fraction:=zH7 (P:=l.prog) (w:=w) (base:=base) D__law_is_fraction T G__law_whole G__law_divisor;have G__law_sum:=yB5 (P:=l.prog) (w:=w) (base:=base) D__law_sum T G__law_lowest;have G__law_kept:=zX0 (P:=l.prog) (w:=w) (base:=base) D__law_kept T G__law_total G__law_weighed G__law_sum;have G__law_is_blend:=zL5 (P:=l.prog) (w:=w) (base:=base) D__law_is_blend T G__law_total G__law_kept G__law_sum;have G__law_cost:=zX1 (P:=l.prog) (w:=w) (base:=base) D__law_cost T G__law_sum;have G__law_fractions:=zK3 (P:=l.prog) (w:=w) (base:=base) D__law_fractions T G__law_is_fraction;have G__law_worth:=zT0 (P:=l.prog) (w:=w) (base:=base) D__law_worth T G__law_total G__law_weighed G__law_sum;have G__law_shows:=zT5 (P:=l.prog) (w:=w) (base:=base) D__law_shows T G__law_is_fraction G__law_fractions G__law_worth G__law_total G__law_sum;have G__law_right:=zT6 (P:=l.prog) (w:=w) (base:=base) D__law_right T G__law_shows G__law_is_blend G__law_fractions G__law_cost;have G__law_shifted:=zN8 (P:=l.prog) (w:=w) (base:=base) D__law_shifted T G__law_lowest G__law_sum;have G__law_number:=zP6 (P:=l.prog) (w:=w) (base:=base) D__law_number T G__law_lowest G__law_sum;have G__law_other_paper:=zH6 (P:=l.prog) (w:=w) (base:=base) D__law_other_paper T G__law_number;have G__law_other_word:=zI4 (P:=l.prog) (w:=w) (base:=base) D__law_other_word T G__law_other_paper G__law_shifted;have G__law_others_right:=zG7 (P:=l.prog) (w:=w) (base:=base) D__law_others_right T G__law_other_word G_lets_by G__law_right;have G__law_changed:=zO0 (P:=l.prog) (w:=w) (base:=base) D__law_changed T;have G__law_twice:=zT3 (P:=l.prog) (w:=w) (base:=base) D__law_twice T;have G__law_spoiled_blend:=zG1 (P:=l.prog) (w:=w) (base:=base) D__law_spoiled_blend T G__law_changed G__law_twice;have G__law_spoiled_none:=zG6 (P:=l.prog) (w:=w) (base:=base) D__law_spoiled_none T G__law_changed G__law_twice;have G__law_odd:=yB6 (P:=l.prog) (w:=w) (base:=base) D__law_odd T;exact xI1 (yX9 (st:=ω) l73 c73 k73) T G__law_cell_at G__law_names G__law_offer G__law_label G__law_wanted G_blend G__law_odd G__law_spoiled_blend G__law_spoiled_none G_lets_by G__law_others_right
end T43
namespace PySem.W.Fast
def tw10132384257374218111:=0
def tw500309073949596237:=0
def tw5897179135870179080:=0
def tw144455317206810347:=0
def tw11429983710757401419:=0
def tw2936977979804487249:=0
def tw7958261881428034559:=0
def tw2933466896913079879:=0
def tw3015951101903662841:=0
def tw4848196232049025218:=0
def tw12641258483775914242:=0
def tw12842180881077896934:=0
def tw5881409562535033386:=0
def tw14554498360024428046:=0
def tw16667867161600690836:=0
def tw9984858915866369388:=0
def tw6449477014391878269:=0
def tw15782290249584865679:=0
def tw16169072568992694161:=0
def tw6626613683168941785:=0
def tw7852832985730173737:=0
def tw7426270078047614359:=0
def tw5819939137670464278:=0
def tw15196681745257424938:=0
def tw9903978523965785301:=0
def tw3127604846927090964:=0
def tw16468601459757327940:=0
def tw2782264951499802558:=0
def tw1885483359835511088:=0
def tw12660461466041819974:=0
def tw4900981975790911379:=0
def tw15110997440783692052:=0
def tw145268473102223485:=0
def tw8599230187217353816:=0
def tw15574355118093136386:=0
def tw4256480246234436485:=0
def tw7269016282376996522:=0
def tw9737060675994987961:=0
def tw11449804101695329288:=0
def tw6079021344244634712:=0
def tw14171869786101491454:=0
def tw6332901099467990545:=0
def tw13997677622983380906:=0
def tw4688620122264782608:=0
def tw12243261088321655632:=0
def tw17338079271093884133:=0
def tw8340961296968144240:=0
def tw3594368356420802619:=0
def tw9823695454744279384:=0
def tw1207035393549840797:=0
def tw17438279445512665416:=0
def tw9321173963868987758:=0
def tw13103981915573712000:=0
def tw17866154491043776695:=0
def tw15479520004097319809:=0
def tw9222852887790969013:=0
def tw5061993185900055180:=0
def tw12557595014476695052:=0
def tw2355134291405474845:=0
def tw14198932205315694264:=0
def tw2675875748200408713:=0
def tw3875807130572843085:=0
def tw13863147585419330678:=0
def tw17042232944772064173:=0
def tw8894809310062080301:=0
def tw8734345097555796355:=0
def tw3536304016189560856:=0
def tw15886175277498789318:=0
def tw13198405833221899008:=0
def tw12527935188252254401:=0
def tw4999041571708101280:=0
def tw3800399557731472721:=0
def tw11458937545954993142:=0
def tw11647193907421941260:=0
def tw13403478308469626321:=0
def tw3642209538962671515:=0
def tw10912957941549304677:=0
def tw16617216679605250494:=0
def tw5798357348732512332:=0
def tw14677282525831817770:=0
def tw13915600997552184045:=0
def tw1112427527549718908:=0
def tw1407703144689581831:=0
def tw13369171192018907697:=0
def tw9435615283179335224:=0
def tw17741401849026897856:=0
def tw9038499350579816914:=0
def tw6393089299050005163:=0
def tw137848530231727615:=0
def tw8586465968679049661:=0
def tw4936966948799218874:=0
def tw3451726020820375703:=0
def tw15951967095777379609:=0
def tw4120518218552761101:=0
def tw10829973365706999320:=0
def tw4952085507258121010:=0
def tw2386271317762577572:=0
def tw6613140965797711555:=0
def tw10000775870191107802:=0
def tw712343566338293291:=0
def tw12897393567518704594:=0
def tw9431925127129870685:=0
def tw1815737708267558585:=0
def tw10557944103656517564:=0
def tw9318929530583786422:=0
def tw765029567292756836:=0
def tw14659506769846593856:=0
def tw8092806819830112726:=0
def tw15567790446537112958:=0
def tw12632203004507686840:=0
def tw11760813946217831073:=0
def tw8099650329780946896:=0
def tw7823957252691524267:=0
def tw7860928432879428239:=0
def tw194931188560515138:=0
def tw10813037676012165527:=0
def tw9890442748743323019:=0
def tw8122778008773389505:=0
def tw934521419862420352:=0
def tw12650581583912360946:=0
def tw2012470869401859434:=0
def tw9488623061324925849:=0
def tw8070956022930495979:=0
def tw12606604090660280789:=0
def tw12425303782916604177:=0
def tw17436960547136898646:=0
def tw15051559820101154019:=0
def tw2016252916724658325:=0
def tw9285056804280814603:=0
def tw7569518488944044848:=0
def tw11407531348869481841:=0
def tw1520667626206505517:=0
def tw11793356555536542796:=0
def tw15701899279372439156:=0
def tw6919069511097888038:=0
def tw307247420379916460:=0
def tw7118325558027396822:=0
def tw5393310888313920976:=0
def tw17759033313175237828:=0
def tw16608059863177762705:=0
def tw6921690146709093686:=0
def tw10071918782823196141:=0
def tw1512327468887140120:=0
def tw2723540181581595601:=0
def tw2874014441226055227:=0
def tw6656532457613924378:=0
def tw3832926644846630032:=0
def tw17979820105425065673:=0
def tw14559720277363033683:=0
def tw1709865776341851827:=0
def tw7174733743156211736:=0
def tw13913780260453462593:=0
def tw2623070797293497725:=0
def tw18350054536439564710:=0
def tw1240290834740640333:=0
def tw2001084527014475691:=0
def tw12917073388925975351:=0
def tw5744887346801621577:=0
def tw12369758313272239879:=0
def tw16444873692990242763:=0
def tw17671285460044173369:=0
def tw6655144143903219044:=0
def tw3621563137913508009:=0
def tw1979005699676775794:=0
def tw3593911969494426399:=0
def tw2676512485985052447:=0
def tw16413203903467504552:=0
def tw11183608624394461858:=0
def tw9133632273130720121:=0
def tw14504389047823922625:=0
def tw6301186653888988661:=0
def tw7282272442384463553:=0
def tw12979031608626377085:=0
def tw3916320431645120869:=0
def tw12221882687300258482:=0
def tw1329335827152180406:=0
def tw8626027464882985287:=0
def tw5946524088874113618:=0
def tw15610730702464859211:=0
def tw10206209278664944959:=0
def tw308271884637205218:=0
def tw16597052097589372818:=0
def tw18355379710299588165:=0
def tw4069056745913050984:=0
def tw10681468591614538230:=0
def tw17266048838778215100:=0
def tw10769301271163447750:=0
def tw7037139468877686230:=0
def tw9860967059154790567:=0
def tw12285862245404131931:=0
def tw1316536944154447272:=0
def tw12152558001581763817:=0
def tw17556137128069832364:=0
def tw8536975803848347227:=0
def tw15091790178243354255:=0
def tw16613232239032247377:=0
def tw17176387429971529944:=0
def tw6005116683629829761:=0
def tw16886724325447424095:=0
def tw10298304314740635982:=0
def tw13410032432454259523:=0
def tw1937636678229764842:=0
def tw14254475654652181573:=0
def tw8558236956620332719:=0
def tw9728221830375840614:=0
def tw3880925761088142088:=0
def tw4552009981584207052:=0
def tw12300129624973593804:=0
def tw16488801634375783469:=0
def tw14396122843870563073:=0
def tw421092690275968031:=0
def tw8907138535550662069:=0
def tw17568667574972815052:=0
def tw13639406465652690209:=0
def tw10502186585862634727:=0
def tw12487950249677551562:=0
def tw788356108249996959:=0
def tw15158159585667986069:=0
def tw903996196427665248:=0
def tw13501433193446500763:=0
def tw18107412964088034582:=0
def tw11908516873084665945:=0
def tw12533501870863603806:=0
def tw16282979208317268537:=0
def tw8469016711028607970:=0
def tw15190120356858614028:=0
def tw1400631813120078794:=0
def tw8889580952434109959:=0
def tw11891821502759329313:=0
def tw17225486771423725832:=0
def tw9885462918459050287:=0
def tw9880958126576990099:=0
def tw11692398480114704431:=0
def tw5290841097274510448:=0
def tw562766622269584475:=0
def tw17479675296144589683:=0
def tw16912897217029216438:=0
def tw11463809451984724169:=0
def tw5799522032571325874:=0
def tw10684219758629468626:=0
def tw3055655902683585930:=0
def tw18439791080818179989:=0
def tw1496740635415478993:=0
def tw9951514533781110892:=0
def tw18357729727165527135:=0
def tw3171144906689894449:=0
def tw3251000857891229927:=0
def tw15853840380724041804:=0
def tw11902234646773303943:=0
def tw15950489529737501513:=0
def tw16112768293165747869:=0
def tw7293070712184831802:=0
def tw15056856485312416966:=0
def tw7465824243328171949:=0
def tw16985241448004685477:=0
def tw17311599156982558337:=0
def tw2396855134029216428:=0
def tw6380670130588091265:=0
def tw9190234165839048185:=0
def tw12497803663893470274:=0
def tw353272215518986884:=0
def tw9276888614504146223:=0
def tw14423288058893264304:=0
def tw9971263306042995743:=0
def tw16140063716486786072:=0
def tw7134648285580491937:=0
def tw483983804519209035:=0
def tw10892538641800382870:=0
def tw9075578525960987579:=0
def tw13343272227573712394:=0
def tw2541286065995168365:=0
def tw2288786203399169742:=0
def tw12007084844650034528:=0
def tw17076142419775963622:=0
def tw1797329263478298912:=0
def tw11170519269325969976:=0
def tw13775335459040255327:=0
def tw5034269412641748922:=0
def tw6408513234220725863:=0
def tw10761317429218679206:=0
def tw17094153494632811018:=0
def tw3377642862728209956:=0
def tw11381115522334246853:=0
def tw9665259781241128487:=0
def tw4156865093294502173:=0
def tw14204322411184523125:=0
def tw4748799424358974602:=0
def tw4606412045512784845:=0
def tw8425243140334874527:=0
def tw10427617404160633109:=0
def tw3567279875869061727:=0
def tw11458159487658811303:=0
def tw11648399196245500134:=0
def tw2394064320831069888:=0
def tw11069782550726829125:=0
def tw7218798293377358873:=0
def tw16569799809930603297:=0
def tw2430104158352291691:=0
def tw10957801738575952442:=0
def tw9178493654431154620:=0
def tw3591041885895078950:=0
def tw5568122008273831225:=0
def tw16198772383367565570:=0
def tw6531775808851103907:=0
def tw1226594765967257135:=0
def tw7912722417305315837:=0
def tw7794880930871625162:=0
def tw4702779851816132278:=0
def tw10496046925311398989:=0
def tw8893839784260956302:=0
def tw3257873429278986785:=0
def tw10645593478855760064:=0
def tw7367509437282246650:=0
def tw3755640747987733591:=0
def tw9921558590234008696:=0
def tw18234681999209695568:=0
def tw17530324143247481539:=0
def tw6578992582233676112:=0
def tw11452947784984007334:=0
def tw6609838292622908201:=0
def tw5418042879587751868:=0
def tw3154568120785295053:=0
def tw18097405178826865440:=0
def tw11517296491958603667:=0
def tw18020205447088799973:=0
def tw2328854098960132829:=0
def tw3647791023736953891:=0
def tw4615649474697202838:=0
def tw11926261690712441154:=0
def tw9353469126601836712:=0
def tw2427010575813223051:=0
def tw2328095881641893481:=0
def tw16639331294717678361:=0
def tw3584045431428542663:=0
def tw10935972625685825082:=0
def tw5359336532531408047:=0
def tw5989795773710777096:=0
def tw8679348940681943667:=0
def tw15232462611509295531:=0
def tw12083892943834907718:=0
def tw3727597383409804399:=0
def tw6084941325075342399:=0
def tw5082427804684349504:=0
def tw10093163429326197864:=0
def tw2558593287100295856:=0
def tw8309021798960574715:=0
def tw9652745640029473201:=0
def tw3166296799209356289:=0
def tw17009111849468379341:=0
def tw978527113527825381:=0
def tw13229448864143362764:=0
def tw10760441749181002424:=0
def tw5033956155601340315:=0
def tw1193377540920434288:=0
def tw14433163488018546598:=0
def tw16506965577477182007:=0
def tw7622685378709807278:=0
def tw8949331760573697574:=0
def tw4895047796585848500:=0
def tw7881732999373901752:=0
def tw17463346078135122503:=0
def tw14438206005102030912:=0
def tw7860330258808743975:=0
def tw9094952344915693651:=0
def tw9938325141358072425:=0
def tw16494918791296754696:=0
def tw4373353644271176446:=0
def tw5932517742433402885:=0
def tw8706584400134120283:=0
def tw5282032341257316156:=0
def tw4513629283633003676:=0
def tw5116929524246316652:=0
def tw15020887514135627006:=0
def tw3438213260897104001:=0
def tw8031267454849788231:=0
def tw15547722627470473981:=0
def tw12131219974836493304:=0
def tw3039094539241841118:=0
def tw18145473082797838889:=0
def tw10278056599609321149:=0
def tw3857334613457562287:=0
def tw17096434351254524729:=0
def tw3890920023474031903:=0
def tw10372546135293606814:=0
def tw965606490016465510:=0
def tw1061050959663896719:=0
def tw1070242955224786060:=0
def tw2468657845573096422:=0
def tw11289990692277529150:=0
def tw17819187187023286669:=0
def tw3204773030535217013:=0
def tw15143550996301850181:=0
def tw5371077858430781677:=0
def tw6777433744756081025:=0
def tw14714082266444620558:=0
def tw1362371296305541637:=0
def tw9999785494351976792:=0
def tw11568672103968536179:=0
def tw8414282424362566438:=0
def tw4466193501932153261:=0
def tw990860410704258020:=0
def tw8693769563746140074:=0
def tw4777836962670892983:=0
def tw8182305672785519892:=0
def tw319775956149898313:=0
def tw7811545032317253607:=0
def tw15063719926387551275:=0
def tw7456810320642936020:=0
def tw5859092950693356771:=0
def tw7551004719480461208:=0
def tw13644080312982719931:=0
def tw12581824014673396440:=0
def tw10103198514708767120:=0
def tw10324196537564490850:=0
def tw15521957264364430015:=0
def tw11841981979012008940:=0
def tw8852093790490866286:=0
def tw8371115693275819339:=0
def tw6014555100111395201:=0
def tw8794752962272645171:=0
def tw8649624197609469395:=0
def tw13240293874818997688:=0
def tw11789346623036068782:=0
def tw1439562915669101827:=0
def tw801441190815082697:=0
def tw14732012453593512430:=0
def tw18413770137263558155:=0
def tw6180722348151440256:=0
def tw12753115337683280158:=0
def tw4934238192996038318:=0
def tw16715107779111032297:=0
def tw8981157187163067732:=0
def tw3109181510234876004:=0
def tw15941614478823562197:=0
def tw18279666345839580908:=0
def tw9904724666473179466:=0
def tw7735251967231929912:=0
def tw7734826029988435491:=0
def tw5063161980844613043:=0
def tw11686411696566062706:=0
def tw14806039261646395001:=0
def tw3918416962611582749:=0
def tw14219807518191222641:=0
def tw4250076483656821473:=0
def tw13942316674067645425:=0
def tw482310728336578505:=0
def tw3106843850625572664:=0
def tw11159983591769682672:=0
def tw9313557520248726627:=0
def tw991885950283244149:=0
def tw11251908147025122544:=0
def tw14217073103435677243:=0
def tw12462441849632743473:=0
end PySem.W.Fast
open PySem PySem.W PyProof.Rows
set_option maxRecDepth 100000 in
set_option maxHeartbeats 0 in
theorem PySem.Challenge.cw_tiercask_k43_papers_let_by_holds : PySem.Challenge.rw_tiercask_k43_papers_let_by.Holds := by
 w_on;o_law;k_head;(case hw=>w_witness2)
 k_fill
 refine L2.walk_ofK (l:=PySem.Challenge.rw_tiercask_k43_papers_let_by) (n:=63) (k:=13) (x:="_law_script") (CX:=L2.CX0) (sp:=Tc.spLaw) rfl (by decide) rfl ⟨rfl,by decide,by decide⟩ (fun w h Y=>PySem.W.kIn_of Y) ?F ?S ?C
 case F =>
  intro w mg fa h KX G hmg
  refine' T43.all_mk KX G hmg ?_ ?_ ?_ ?_ ?_ ?_ ?_ ?_ ?_ ?_ ?_ ?_ ?_ ?_ ?_ ?_ ?_ ?_ ?_ ?_ ?_ ?_ ?_ ?_ ?_ ?_ ?_ ?_ ?_ ?_ ?_ ?_ ?_ ?_ ?_ ?_ ?_ ?_ ?_ ?_ ?_ ?_ ?_ ?_ ?_ ?_ ?_ ?_ ?_ ?_ ?_ ?_ ?_ ?_ ?_ ?_ ?_ ?_ ?_ ?_ ?_ ?_ ?_ ?_ ?_ ?_ ?_ ?_ ?_ ?_ ?_ ?_ ?_ ?a73 ?l73 ?c73 ?k73 ?z_abs ?z_all ?z_bool ?z_enumerate ?z_int ?z_isinstance ?z_len ?z_list ?z_max ?z_min ?z_range ?z_str ?z_sum ?z_tuple ?z_zip ?y_NoNumber ?e_NoNumber ?x_NoNumber ?i_NoNumber_NoNumber ?m_NoNumber_NoNumber
  all_goals (try (refine' L2.DefAt.mk' KX G ?a ?l ?c ?k;(case a=>k_is);(case l=>k_is);(case c=>k_is);(case k=>k_is)))
  (case a73=>k_is);(case l73=>k_is);(case c73=>k_is);(case k73=>k_is);(case z_abs=>k_is);(case z_all=>k_is);(case z_bool=>k_is);(case z_enumerate=>k_is)
  (case z_int=>k_is);(case z_isinstance=>k_is);(case z_len=>k_is);(case z_list=>k_is);(case z_max=>k_is);(case z_min=>k_is);(case z_range=>k_is);(case z_str=>k_is)
  (case z_sum=>k_is);(case z_tuple=>k_is);(case z_zip=>k_is);(case y_NoNumber=>k_is)
  (case e_NoNumber=>k_exc)
  (case x_NoNumber=>refine⟨?_,?_,?_,?_,?_⟩<;>k_is)
  (case i_NoNumber_NoNumber=>kit_is)
  (case m_NoNumber_NoNumber=>kts_exm)
 case S=>exact fun K H a ns hl hO hS=>⟨a,ns,rfl,hS,hl,fun _=>rfl⟩
 case C=>exact fun H s e s' z=>z

import PyProof.Rows.All
import Wide.All
import OpenK.AllK
import Wide.FinOn
import Lean
import PyProof.EqAt
import PyProof.EqKinds
import PyProof.TupleCall
import PyProof.SumWalkG
import KE.KTryMore
import PyProof.NeKinds
import PyProof.ExcAttrAll.ValueError
import KE.KRevIter
import PyProof.DictValues
import PyProof.DictItems
import KE.KDictList
import PyProof.ReprRoads
import PyProof.ReprLen
import KE.BitLaws
import PyProof.TupleOfSeq
import PyProof.Rows.SortRuns
import PyProof.Rows.SortShell
import KE.KSortTup
import KE.KSortKey
import PyProof.Rows.SetFrom
import PyProof.WalkInts
import KE.KIntText
import PyProof.StrLoop
import PyProof.StrWalks
import PyProof.StrCalls2
import PyProof.ConsumeWalk
import PyProof.StrLawsRepr
import PySem.Challenge.RW_claspwork_k49_ends_and_legs
set_option genSizeOf false
set_option Elab.async false
set_option linter.all false
set_option maxRecDepth 100000
local macro_rules
 | `(tactic| omega)=>`(tactic| first | lia | omega (config:={}))
namespace L2
open PySem PySem.Spec PyProof.Rows

noncomputable abbrev Key:=Sum Int Str
noncomputable def mL:Key→Value→Bool
 | .inl k,v=>Value.isInt k v
 | .inr x,v=>Value.isStrOf x v
noncomputable def Cj (w:World):Key→Int
 | .inl k=>hashInt k
 | .inr x=>hashStr w x
theorem bf:∀ {k:Key} {v:Value},mL k v=true→(∃ i t,k=Sum.inl i∧v=Value.int i t)∨(∃ x t,k=Sum.inr x∧v=Value.str x t)
 | .inl i,v,h=>by
  obtain⟨t,e⟩:=Value.isInt_shape (k:=i) (v:=v) h
  exact .inl ⟨i,t,rfl,e⟩
 | .inr x,v,h=>by
  obtain⟨t,e⟩:=Value.isStrOf_shape (x:=x) (v:=v) h
  exact .inr ⟨x,t,rfl,e⟩
theorem tU (i:Int)(t:Tok):mL (.inl i) (.int i t)=true:=by simp[mL,Value.isInt]
theorem tV (x:Str)(t:Tok):mL (.inr x) (.str x t)=true:=by simp[mL,Value.isStrOf]
theorem zH (a b:Int):decide ((Sum.inl a:Key)=Sum.inl b)=(a == b):=by
 by_cases e:a=b
 ·subst e;simp
 ·have h:¬ (Sum.inl a:Key)=Sum.inl b:=fun q=>e (Sum.inl.inj q)
  rw[decide_eq_false h]
  exact(beq_eq_false_iff_ne.mpr e).symm
theorem zI (a b:Str):decide ((Sum.inr a:Key)=Sum.inr b)=decide (a=b):=by
 by_cases e:a=b
 ·subst e;simp
 ·have h:¬ (Sum.inr a:Key)=Sum.inr b:=fun q=>e (Sum.inr.inj q)
  rw[decide_eq_false h,decide_eq_false e]
theorem zJ (a:Int)(b:Str):decide ((Sum.inl a:Key)=Sum.inr b)=false:=decide_eq_false (fun q=>nomatch q)
theorem zK (a:Str)(b:Int):decide ((Sum.inr a:Key)=Sum.inl b)=false:=decide_eq_false (fun q=>nomatch q)

noncomputable def aP (prog:Program)(w:World):PySem.KeyKind prog w Key where
 is:=mL
 hash:=Cj w
 inj:=fun v a b ha hb=>by
  rcases bf ha with ⟨i,t,rfl,rfl⟩ | ⟨x,t,rfl,rfl⟩
  ·rcases bf hb with ⟨j,u,rfl,e⟩ | ⟨y,u,rfl,e⟩
   ·injection e with e1 _;rw[e1]
   ·exact nomatch e
  ·rcases bf hb with ⟨j,u,rfl,e⟩ | ⟨y,u,rfl,e⟩
   ·exact nomatch e
   ·injection e with e1 _;rw[e1]
 byValue:=fun k v h=>by
  rcases bf h with ⟨i,t,rfl,rfl⟩ | ⟨x,t,rfl,rfl⟩ <;> rfl
 pyHash:=fun hv h=>by
  rcases bf hv with ⟨i,t,rfl,rfl⟩ | ⟨x,t,rfl,rfl⟩
  ·exact wpAny_pyHash_int h
  ·exact wpAny_pyHash_str h
 eqBool:=fun hu hv h=>by
  rcases bf hu with ⟨i,t,rfl,rfl⟩ | ⟨x,t,rfl,rfl⟩
  ·rcases bf hv with ⟨j,u,rfl,rfl⟩ | ⟨y,u,rfl,rfl⟩
   ·rw[zH] at h;exact wpAny_eqBool_int h
   ·rw[zJ] at h;exact SeqAt.EqAt.int_str i t y u _ _ _ _ h
  ·rcases bf hv with ⟨j,u,rfl,rfl⟩ | ⟨y,u,rfl,rfl⟩
   ·rw[zK] at h;exact SeqAt.EqAt.str_int x t j u _ _ _ _ h
   ·rw[zI] at h;exact wpAny_eqBool_str h
 «strs»:=fun k x t v h=>by
  rcases bf h with ⟨i,u,rfl,e⟩ | ⟨y,u,rfl,e⟩
  ·exact nomatch e
  ·injection e with e1 _
   subst e1
   cases v <;> rfl

theorem o9 (prog:Program)(w:World)(i:Int)(t:Tok):(aP prog w).is (.inl i) (.int i t)=true:=tU i t
theorem pe (prog:Program)(w:World)(x:Str)(t:Tok):(aP prog w).is (.inr x) (.str x t)=true:=tV x t
end L2

namespace L2
open PySem PySem.Spec PyProof.Rows

inductive V where
 | non | bl (b:Bool) | int (i:Int) | str (x:Str) | byt (b:Array UInt8) | flt (b:UInt64) | ref (a:Addr) | ty (n:String)
 deriving DecidableEq

noncomputable def RelV:V→Value→Prop
 | .non,u=>u=Value.none
 | .bl b,u=>u=Value.bool b
 | .int i,u=>∃ t,u=Value.int i t
 | .str x,u=>∃ t,u=Value.str x t
 | .byt b,u=>∃ t,u=Value.bytes b t
 | .flt b,u=>∃ t,u=Value.float b t
 | .ref a,u=>u=Value.ref a
 | .ty n,u=>u=Value.type n

noncomputable abbrev Vals:List V→List Value→Prop:=Paired RelV
theorem Vals.length {xs:List V}{us:List Value}(r:Vals xs us):xs.length=us.length:=Paired.length r
theorem Vals.get:∀ {xs:List V} {us:List Value} {i:Nat} {x:V},Vals xs us→xs[i]?=some x→∃ u,us[i]?=some u∧RelV x u
 | _,_,_,_,.nil,e=>by simp at e
 | _,_,0,_,.cons r _,e=>by simp at e;subst e;exact⟨_,rfl,r⟩
 | _,_,i+1,x,.cons _ t,e=>by
  obtain⟨u,h1,h2⟩:=Vals.get (i:=i) (x:=x) t (by simpa using e)
  exact⟨u,by simpa using h1,h2⟩
theorem Vals.set {x:V}{u:Value}(r:RelV x u):∀ {xs:List V} {us:List Value} (i:Nat),Vals xs us→Vals (xs.set i x) (us.set i u)
 | _,_,_,.nil=>.nil
 | _,_,0,.cons _ t=>.cons r t
 | _,_,i+1,.cons q t=>.cons q (Vals.set r i t)
theorem Vals.append:∀ {xs ys:List V} {us ws:List Value},Vals xs us→Vals ys ws→Vals (xs++ys) (us++ws)
 | _,_,_,_,.nil,s=>s
 | _,_,_,_,.cons r t,s=>.cons r (Vals.append t s)
theorem Vals.take:∀ {xs:List V} {us:List Value} (n:Nat),Vals xs us→Vals (xs.take n) (us.take n)
 | _,_,0,_=>.nil
 | _,_,_+1,.nil=>.nil
 | _,_,n+1,.cons r t=>.cons r (Vals.take n t)
theorem Vals.drop:∀ {xs:List V} {us:List Value} (n:Nat),Vals xs us→Vals (xs.drop n) (us.drop n)
 | _,_,0,r=>r
 | _,_,_+1,.nil=>.nil
 | _,_,n+1,.cons _ t=>Vals.drop n t
noncomputable def iD:Option V→Option Value→Prop
 | some v,some u=>RelV v u
 | none,none=>True
 | _,_=>False
noncomputable def KV {κ:Type}:List (κ×V)→List (κ×Value)→Prop:=Paired fun (p:κ×V) (q:κ×Value)=>p.1=q.1∧RelV p.2 q.2

noncomputable def kV:Key→V
 | .inl i=>.int i
 | .inr x=>.str x

inductive HO where
 | lst (xs:List V)
 | tup (xs:List V)
 | dK (kvs:List (Key×V)) | dT (kvs:List (List Key×V))
 | set (S:Int→Bool) (n:Nat)
 | ins (C dx:Addr) (fs:List (Str×V))
 | own (x:Addr)
 | xd (fs:List (Str×V))
 | met (f x:Addr)
 | rng (lo hi:Int)
 | frz (o:Obj) (u:HO)
 | tbl (ps:Array Value)
 | ext (φ:Heap→Prop)

noncomputable abbrev Hp:=Addr→Option HO
noncomputable def upd (H:Hp)(a:Addr)(o:HO):Hp:=fun b=>if b=a then some o else H b
theorem ae {H:Hp}{a:Addr}{o:HO}:upd H a o a=some o:=by unfold upd;rw[if_pos rfl]
theorem ao {H:Hp}{a b:Addr}{o:HO}(h:b≠a):upd H a o b=H b:=by unfold upd;rw[if_neg h]
theorem uS {H:Hp}{a b:Addr}{o u:HO}(h:H a=some o)(h':H b=some u)(d:o≠u):a≠b:=by
 intro e;subst e;rw[h] at h';exact d (Option.some.inj h')
theorem aV {H:Hp}{a b:Addr}{o:HO}(h:H a=some o)(h':H b=none):a≠b:=by
 intro e;subst e;rw[h] at h';cases h'

section
variable (P:Program)(w:World)
noncomputable def bb (H : Hp)(h : Heap)(a : Addr) : HO → Prop
  | .lst xs => xs.length ≤ sizeLine ∧ ∃ (its : List Value) (n : Nat), Vals xs its ∧ h.get? a=some { cls := .type "list", data := .seq its.toArray n }
  | .tup xs => xs.length ≤ sizeLine ∧ ∃ its : List Value, Vals xs its ∧ IsTup h a its.toArray
  | .dK kvs => kvs.length ≤ sizeLine ∧ (a == sysModules)=false ∧ ∃ vs, KV kvs vs ∧ h.DictOf (aP P w) a vs
  | .dT kvs => kvs.length ≤ sizeLine ∧ (a == sysModules)=false ∧ ∃ xs : List (List Key × Addr × Value),
      Paired (fun (p : List Key × V) (q : List Key × Addr × Value) => p.1=q.1 ∧ H q.2.1=some (.tup (p.1.map kV)) ∧ RelV p.2 q.2.2) kvs xs ∧
      ∃ o es ep, h.get? a=some o ∧ o.ExactDict ∧ o.data=.dict es ep ∧ es.toList=xs.map (entryOfKey (tupleKind (aP P w))) ∧ (xs.map (·.1)).Nodup
  | .set S n => h.SetOf (intKind P w) a S n
  | .ins C dx fs => H dx=some (.own a) ∧ fs.length ≤ 1000 ∧ dx ≠ a ∧ h.get? a=some (PySem.W.instObj C dx) ∧
      ∃ mA, h.Ns1 dx mA ∧ (∀ f, iD (fs.lookup f) (mA f)) ∧ PySem.Within mA (fs.map (·.1))
  | .own _ => ∃ o, h.get? a=some o
  | .xd fs => ∃ mA, h.Ns1 a mA ∧ ∀ f, iD (fs.lookup f) (mA f)
  | .rng lo hi => ∃ t u v, h.get? a=some { cls := .type "range", data := .fields #[.int lo t, .int hi u, .int 1 v] }
  | .frz o u => h.get? a=some o ∧ bb H h a u
  | .tbl ps => h.get? a=some { cls := .none, data := .fields ps }
  | .met f x => h.get? a=some (PySem.W.methodObj (.ref f) (.ref x))
  | .ext φ => φ h ∧ (∃ o, h.get? a=some o) ∧ ∀ h1 h2 : Heap, φ h1 → (∀ o, h1.get? a=some o → h2.get? a=some o) → φ h2
noncomputable def HOk (H:Hp)(h:Heap):Prop:=∀ a o,H a=some o→bb P w H h a o
end

section
variable {P:Program}{w:World}{H H':Hp}{h h':Heap}{a:Addr}{o:HO}
theorem bb.lt (x:bb P w H h a o):a<h.objs.size:=by
 cases o with
 | lst xs=>obtain⟨_,_,_,_,e⟩:=x;exact Heap.lt_size e
 | tup xs=>obtain⟨_,_,_,p⟩:=x;exact p.lt
 | dK kvs=>obtain⟨_,_,_,_,o,_,_,e,_⟩:=x;exact Heap.lt_size e
 | dT kvs=>obtain⟨_,_,_,_,o,_,_,e,_⟩:=x;exact Heap.lt_size e
 | set S n=>obtain⟨o,_,_,_,e,_⟩:=x;exact Heap.lt_size e
 | ins C dx fs=>obtain⟨_,_,_,e,_⟩:=x;exact Heap.lt_size e
 | own y=>obtain⟨_,e⟩:=x;exact Heap.lt_size e
 | xd fs=>obtain⟨_,⟨_,_,_,e,_⟩,_⟩:=x;exact Heap.lt_size e
 | rng lo hi=>obtain⟨_,_,_,e⟩:=x;exact Heap.lt_size e
 | frz ob u=>obtain⟨e,_⟩:=x;exact Heap.lt_size e
 | tbl ps=>exact Heap.lt_size (show h.get? a=some _ from x)
 | met f y=>exact Heap.lt_size (show h.get? a=some _ from x)
 | ext φ=>obtain⟨_,⟨_,e⟩,_⟩:=x;exact Heap.lt_size e
theorem Paired.mn {α β:Type}{F G:α→β→Prop}:∀ {l₁:List α} {l₂:List β},Paired F l₁ l₂→(∀ a b,F a b→G a b)→Paired G l₁ l₂
 | _,_,.nil,_=>.nil
 | _,_,.cons r t,f=>.cons (f _ _ r) (Paired.mn t f)
theorem bb.pf (x:bb P w H h a o)(k:∀ b u,(b=a∨H b=some (.own a))→h.get? b=some u→h'.get? b=some u)
  (ho:∀ b,H b=some (.own a)→H' b=some (.own a)) (ht:∀ b xs,H b=some (.tup xs)→H' b=some (.tup xs)):bb P w H' h' a o:=by
 induction o with
 | lst xs=>obtain⟨z,its,n,r,e⟩:=x;exact⟨z,its,n,r,k _ _ (.inl rfl) e⟩
 | tup xs=>obtain⟨z,its,r,ob,e,c⟩:=x;exact⟨z,its,r,ob,k _ _ (.inl rfl) e,c⟩
 | dK kvs=>obtain⟨z,y,vs,r,ob,es,ep,e,c⟩:=x;exact⟨z,y,vs,r,ob,es,ep,k _ _ (.inl rfl) e,c⟩
 | dT kvs =>
  obtain⟨z,y,xs,r,ob,es,ep,e,c⟩:=x
  exact⟨z,y,xs,Paired.mn r fun p q z=>⟨z.1,ht _ _ z.2.1,z.2.2⟩,ob,es,ep,k _ _ (.inl rfl) e,c⟩
 | set S n=>obtain⟨ob,es,ep,t,e,c⟩:=x;exact⟨ob,es,ep,t,k _ _ (.inl rfl) e,c⟩
 | ins C dx fs =>
  obtain⟨d,z,ne,e,mA,⟨od,es,ep,e2,c⟩,r⟩:=x
  exact⟨ho _ d,z,ne,k _ _ (.inl rfl) e,mA,⟨od,es,ep,k _ _ (.inr d) e2,c⟩,r⟩
 | own y=>obtain⟨ob,e⟩:=x;exact⟨ob,k _ _ (.inl rfl) e⟩
 | xd fs=>obtain⟨mA,⟨od,es,ep,e,c⟩,r⟩:=x;exact⟨mA,⟨od,es,ep,k _ _ (.inl rfl) e,c⟩,r⟩
 | rng lo hi=>obtain⟨t,u,v,e⟩:=x;exact⟨t,u,v,k _ _ (.inl rfl) e⟩
 | frz ob u ih=>obtain⟨e,q⟩:=x;exact⟨k _ _ (.inl rfl) e,ih q⟩
 | tbl ps =>
  have e:h.get? a=some { cls:=.none,data:=.fields ps }:=x
  show h'.get? a=some { cls:=.none,data:=.fields ps }
  exact k a _ (.inl rfl) e
 | met f y =>
  have e:h.get? a=some (PySem.W.methodObj (.ref f) (.ref y)):=x
  show h'.get? a=some (PySem.W.methodObj (.ref f) (.ref y))
  exact k a _ (.inl rfl) e
 | ext φ=>obtain⟨p,⟨o,e⟩,st⟩:=x;exact⟨st _ _ p fun o q=>k _ _ (.inl rfl) q,⟨o,k _ _ (.inl rfl) e⟩,st⟩
theorem HOk.lt (x:HOk P w H h)(e:H a=some o):a<h.objs.size:=(x a o e).lt
theorem HOk.fresh (x:HOk P w H h)(e:h.objs.size≤a):H a=none:=by
 cases q:H a with
 | none=>rfl
 | some u=>exact absurd (Nat.lt_of_lt_of_le (x.lt q) e) (Nat.lt_irrefl _)
theorem HOk.kept (x:HOk P w H h)(k:∀ b u,h.get? b=some u→h'.get? b=some u):HOk P w H h':=fun a o e =>
 (x a o e).pf (fun b u _ q=>k b u q) (fun _ q=>q) fun _ _ q=>q
theorem HOk.laid (x:HOk P w H h)(k:∀ b u,h.get? b=some u→h'.get? b=some u)(hp:h.objs.size≤a)(new:bb P w (upd H a o) h' a o):HOk P w (upd H a o) h':=fun b u e=>by
 have hn:=x.fresh hp
 by_cases hb:b=a
 ·subst hb;rw[ae] at e;cases e;exact new
 ·rw[ao hb] at e
  exact(x b u e).pf (fun c v _ q=>k c v q) (fun c q=>by rw[ao (aV q hn)];exact q) fun c xs q=>by rw[ao (aV q hn)];exact q
end

noncomputable def Rd (H:Hp)(a:Addr)(u:HO):Prop:=H a=some u∨∃ o,H a=some (.frz o u)
theorem Rd.ok {P:Program}{w:World}{H:Hp}{h:Heap}{a:Addr}{u:HO}(r:Rd H a u)(x:HOk P w H h):bb P w H h a u:=by
 rcases r with r | ⟨o,r⟩
 ·exact x a u r
 ·obtain⟨_,q⟩:=x a _ r
  exact q
noncomputable def Mut:Option HO→Prop
 | some (.lst _)=>True
 | some (.dK _)=>True
 | some (.dT _)=>True
 | some (.set _ _)=>True
 | some (.ins _ _ _)=>True
 | some (.ext _)=>True
 | _=>False
section
variable {P:Program}{w:World}{H:Hp}{h h':Heap}{x e:Addr}{o':HO}
theorem HOk.write (ok:HOk P w H h)(mu:Mut (H x))(he:e=x∨H e=some (.own x))(k:∀ b u,b≠e→h.get? b=some u→h'.get? b=some u)(heo:∃ u,h'.get? e=some u)
  (new:bb P w (upd H x o') h' x o'):HOk P w (upd H x o') h':=fun b u q=>by
 have Bg:∀ c y,H c=some (.own y)→c≠x:=fun c y r z=>by subst z;rw[r] at mu;exact mu
 have Ck:∀ c xs,H c=some (.tup xs)→c≠x:=fun c xs r z=>by subst z;rw[r] at mu;exact mu
 by_cases hb:b=x
 ·subst hb;rw[ae] at q;cases q;exact new
 ·rw[ao hb] at q
  by_cases hbe:b=e
  ·have q':H b=some (.own x):=by
    rcases he with z | z
    ·exact absurd (hbe.trans z) hb
    ·rw[hbe];exact z
   rw[q] at q';cases q'
   obtain⟨v,hv⟩:=heo
   exact⟨v,by rw[hbe];exact hv⟩
  ·refine(ok b u q).pf (fun c v hc r=>k c v ?_ r) (fun c r=>by rw[ao (Bg c b r)];exact r) fun c xs r=>by rw[ao (Ck c xs r)];exact r
   rcases hc with rfl | hc
   ·exact hbe
   ·rintro rfl
    rcases he with z | z
    ·exact Bg c b hc z
    ·rw[hc] at z;cases z;exact hb rfl
end

structure Un (fs ex:List Addr) (H H':Hp) (h h':Heap):Prop where
 keep:∀ b o,h.get? b=some o→H b=none→b ∉ fs→b ∉ ex→h'.get? b=some o
 slot:∀ b o,h.get? b=some o→H b=none→b∈fs→b ∉ ex→∃ sl,h'.get? b=some { o with slots:=sl }
 free:∀ b o,h.get? b=some o→H b=none→b ∉ ex→H' b=none
 there:∀ b o,h.get? b=some o→b ∉ ex→∃ o',h'.get? b=some o'
 nR:∀ b xs,H b=some (.tup xs)→H' b=some (.tup xs)
 mq:∀ b o u,H b=some (.frz o u)→H' b=some (.frz o u)
 nS:∀ b ps,H b=some (.tbl ps)→∃ more,H' b=some (.tbl (ps++more))
section
variable {fs fs' ex ex':List Addr}{H H1 H2:Hp}{h h1 h2 h':Heap}{a x e:Addr}{o:HO}
theorem Un.any (u:Un fs ex H H1 h h1){b:Addr}{ob:Obj}(q:h.get? b=some ob)(n:H b=none)(hx:b ∉ ex):∃ sl,h1.get? b=some { ob with slots:=sl }:=by
 by_cases hb:b∈fs
 ·exact u.slot b ob q n hb hx
 ·exact⟨ob.slots,u.keep b ob q n hb hx⟩
theorem Un.kept (k:∀ b u,h.get? b=some u→h'.get? b=some u):Un fs ex H H h h' :=
 ⟨fun b ob q _ _ _=>k b ob q,fun b ob q _ _ _=>⟨ob.slots,k b ob q⟩,fun _ _ _ n _=>n,fun b ob q _=>⟨ob,k b ob q⟩,fun _ _ q=>q,fun _ _ _ q=>q,fun _ ps q=>⟨#[],by rw[q];simp⟩⟩
theorem Un.refl:Un fs ex H H h h:=Un.kept fun _ _ q=>q
theorem Un.laid (k:∀ b u,h.get? b=some u→h'.get? b=some u)(hp:h.objs.size≤a)(hn:H a=none):Un fs ex H (upd H a o) h h' where
 keep:=fun b u q _ _ _=>k b u q
 slot:=fun b u q _ _ _=>⟨u.slots,k b u q⟩
 free:=fun b u q n _=>by rw[ao (Nat.ne_of_lt (Nat.lt_of_lt_of_le (Heap.lt_size q) hp))];exact n
 there:=fun b u q _=>⟨u,k b u q⟩
 nR:=fun b xs q=>by rw[ao (aV q hn)];exact q
 mq:=fun b u xs q=>by rw[ao (aV q hn)];exact q
 nS:=fun b ps q=>⟨#[],by rw[ao (aV q hn),q];simp⟩
theorem Un.write (mu:Mut (H x))(he:e=x∨H e=some (.own x))(k:∀ b u,b≠e→h.get? b=some u→h'.get? b=some u)(heo:∃ u,h'.get? e=some u):Un fs ex H (upd H x o) h h':=by
 have hx:∀ b,H b=none→b≠x:=fun b n z=>by subst z;rw[n] at mu;exact mu
 have hb:∀ b,H b=none→b≠e:=fun b n z=>by
  subst z
  rcases he with r | r
  ·exact hx b n r
  ·rw[n] at r;cases r
 have hm:∀ b u,H b=some u→¬ Mut (some u)→b≠x:=fun b u q nm z=>by subst z;rw[q] at mu;exact nm mu
 refine⟨fun b u q n _ _=>k b u (hb b n) q,fun b u q n _ _=>⟨u.slots,k b u (hb b n) q⟩,fun b u q n _=>by rw[ao (hx b n)];exact n,fun b u q _=>?_,
  fun b xs q=>by rw[ao (hm b _ q fun z=>z)];exact q,fun b u xs q=>by rw[ao (hm b _ q fun z=>z)];exact q,fun b ps q=>⟨#[],by rw[ao (hm b _ q fun z=>z),q];simp⟩⟩
 by_cases hbe:b=e
 ·subst hbe;exact heo
 ·exact⟨u,k b u hbe q⟩
end

noncomputable def trk (h:Heap)(H:Hp):List Addr:=(List.range h.objs.size).filter fun a=>(H a).isSome
noncomputable def nU (h:Heap)(H:Hp):Heap:=PySem.W.hideAll h (trk h H)
theorem tW (h:Heap)(H:Hp):(nU h H).objs.size=h.objs.size:=PySem.W.hideAll_size _ _
theorem uT {h:Heap}{H:Hp}{b:Addr}{o:Obj}(e:h.get? b=some o)(n:H b=none):(nU h H).get? b=some o :=
 PySem.W.hideAll_get _ e fun hm=>by
  have q:(H b).isSome=true:=(List.mem_filter.mp hm).2
  rw[n] at q;simp at q
theorem xI {h:Heap}{H:Hp}{b:Addr}{o:Obj}(e:(nU h H).get? b=some o):h.get? b=some o∧H b=none:=by
 have e':h.get? b=some o:=PySem.W.of_hideAll (trk h H) e
 refine⟨e',?_⟩
 cases q:H b with
 | none=>rfl
 | some x =>
  have hm:b∈trk h H:=List.mem_filter.mpr ⟨List.mem_range.mpr (Heap.lt_size e'),by simp[q]⟩
  have z:(nU h H).get? b=none:=PySem.W.hideAll_none (trk h H) hm
  rw[z] at e;cases e

end L2

namespace L2
open PySem PySem.Spec PyProof.Rows

structure Mod (K:PySem.W.Frag) (mg:Str→Option Value) (base:Heap):Prop where
 kin:K.In base
 glob:base.Ns mainGlobals mg
 blt:∃ mb,base.Ns builtinsNs mb∧∀ x:Str,x≠"__name__"→mb x=bootBuiltins x
 nolimit:base.NoLimit

/-- the context: a Bh body (or a gN block) running. base: fixed through the whole law; s₀, H₀: the entry; outer: the frames Bi slots others may change (a Bh Cg); stack: all frames xJ run;
   ex: Be xJ Cm made ahead of the entry and are walked here (a gN); fn: the names Bi cells Cm made at the entry (a def: all; a gN block: its own); calm: not within an except DS; pn: pins xJ DT state bears; xe: D4 is wanted of an exception xJ Co the code -/
structure Cx where
 prog:Program
 w:World
 K:PySem.W.Frag
 mg:Str→Option Value
 base:Heap
 A:Around
 N:List Str
 s₀:Shared
 H₀:Hp
 env:Env
 outer:List Env
 stack:List Env
 ex:List Addr
 fn:Str→Bool
 calm:Bool
 pn:List (Addr×Obj)
 xe:Value→Shared→Prop
noncomputable def frs (l:List Env):List Addr:=l.filterMap (·.frame)
noncomputable abbrev Cx.fs (X:Cx):List Addr:=frs X.outer

noncomputable def Vis (sc:Scope)(x:Str):Prop:=sc.names.lookup x=some .local∨sc.names.lookup x=some .cell∨sc.names.lookup x=some .free
noncomputable def Loc (sc:Scope)(x:Str):Prop:=sc.names.lookup x=some .local∨sc.names.lookup x=some .cell
noncomputable def Look (env:Env)(h:Heap)(m:Str→Option Value)(x:Str)(u:Value):Prop :=
 (env.kindOf x=some .local∧m x=some u)∨((env.kindOf x=some .cell∨env.kindOf x=some .free)∧∃ c,env.cells.lookup x=some c∧h.IsCell c (some u))

structure Cx.Ok (X:Cx):Prop where
 mod:Mod X.K X.mg X.base
 kind:X.env.scope.kind=.function
 glob:X.env.globals=mainGlobals
 blt:X.env.builtins=builtinsNs
 above:X.s₀.heap.objs.size≤X.env.locals
 inj:∀ x y c,X.env.cells.lookup x=some c→X.env.cells.lookup y=some c→x=y
 has:∀ x,(X.env.kindOf x=some .cell∨X.env.kindOf x=some .free)→∃ c,X.env.cells.lookup x=some c
 cab:∀ x c,X.fn x=true→X.env.cells.lookup x=some c→X.s₀.heap.objs.size≤c
 hd:X.calm=true→X.A.handled=none
 frames:X.A.frames=some X.stack
 stk:X.stack=X.outer∨(X.stack=X.env::X.outer∧X.env.frame=some X.env.locals)
 exf:∀ b∈X.ex,b≠X.env.locals∧∀ x c,X.env.cells.lookup x=some c→c≠b
 bs:∀ b o,X.base.get? b=some o→X.s₀.heap.get? b=some o∧X.H₀ b=none
 bsz:X.base.objs.size≤X.s₀.heap.objs.size
 uU:∀ b o,X.base.get? b=some o→b ∉ X.ex
 xK:∀ b∈X.ex,b ∉ X.fs
 k6:X.s₀.heap.FunFrames X.base X.outer
 frf:∀ b∈X.fs,X.H₀ b=none

structure Inv (X:Cx) (pins:List (Addr×Obj)) (σ:List (Option V)) (H:Hp) (s:Shared):Prop where
 ok:X.Ok
 os:s.os=X.s₀.os
 bare:AllBare s.gens
 base:Un X.fs X.ex X.H₀ H X.s₀.heap s.heap
 loc:∃ m,s.heap.Ns X.env.locals m∧∀ (i:Nat) (x:Str) (v:V),X.N[i]?=some x→σ[i]?=some (some v)→Vis X.env.scope x→∃ u,RelV v u∧Look X.env s.heap m x u
 cell:∀ x c,X.env.cells.lookup x=some c→∃ v,s.heap.IsCell c v
 free:H X.env.locals=none
 iJ:∀ x c,X.env.cells.lookup x=some c→H c=none
 pin:∀ p∈X.pn++pins,s.heap.get? p.1=some p.2∧H p.1=none∧p.1≠X.env.locals∧p.1 ∉ X.fs∧∀ v,p.2.data≠.cell v
 hok:HOk X.prog X.w H s.heap
 len:σ.length=X.N.length

section
variable {X:Cx}{pins:List (Addr×Obj)}{σ:List (Option V)}{H H':Hp}{s:Shared}{h':Heap}

theorem Cx.Ok.Cp (ok:X.Ok){b:Addr}{o:Obj}(e:X.base.get? b=some o):b ∉ X.fs:=fun hb=>by
 have:=(ok.k6.mem hb).1
 rw[e] at this;cases this
theorem Inv.bs (I:Inv X pins σ H s):∀ b o,X.base.get? b=some o→s.heap.get? b=some o∧H b=none:=fun b o e =>
 ⟨I.base.keep b o (I.ok.bs b o e).1 (I.ok.bs b o e).2 (I.ok.Cp e) (I.ok.uU b o e),I.base.free b o (I.ok.bs b o e).1 (I.ok.bs b o e).2 (I.ok.uU b o e)⟩
theorem Inv.bk (I:Inv X pins σ H s):∀ b o,X.base.get? b=some o→s.heap.get? b=some o:=fun b o e=>(I.bs b o e).1
theorem Inv.mod (I:Inv X pins σ H s):Mod X.K X.mg X.base:=I.ok.mod
theorem Inv.kIn (I:Inv X pins σ H s):X.K.In s.heap:=I.ok.mod.kin.keeps I.bk
theorem Inv.lt (I:Inv X pins σ H s):X.env.locals<s.heap.objs.size:=let ⟨_,hn,_⟩:=I.loc;hn.lt
theorem Inv.sz (I:Inv X pins σ H s):X.s₀.heap.objs.size≤s.heap.objs.size:=Nat.le_trans I.ok.above (Nat.le_of_lt I.lt)
theorem Inv.Cq (I:Inv X pins σ H s){a:Addr}(h:s.heap.objs.size≤a):a ∉ X.fs:=fun hb=>by
 obtain⟨_,o,ho,_⟩:=I.ok.k6.mem hb
 exact absurd (Nat.lt_of_lt_of_le (Heap.lt_size ho) (Nat.le_trans I.sz h)) (Nat.lt_irrefl _)
theorem Inv.cne (I:Inv X pins σ H s):∀ x c,X.env.cells.lookup x=some c→c≠X.env.locals:=fun x c e z=>by
 obtain⟨v,o,ho,hd⟩:=I.cell x c e
 obtain⟨m,⟨o',es,ep,ho',hd',_⟩,_⟩:=I.loc
 rw[z,ho'] at ho;cases ho;rw[hd'] at hd;cases hd
theorem Inv.k6 (I:Inv X pins σ H s):s.heap.FunFrames X.base X.outer:=by
 have all:∀ (l:List Env),(∀ b∈frs l,b∈X.fs)→X.s₀.heap.FunFrames X.base l→s.heap.FunFrames X.base l:=by
  intro l
  induction l with
  | nil=>intro _ _;trivial
  | cons env r ih =>
   intro hs hl
   obtain⟨hk,⟨L,o,hf,hn,ho,hd⟩,hr⟩:=hl
   have hL:L∈X.fs:=hs L (by unfold frs;rw[List.filterMap_cons,hf];exact List.mem_cons_self)
   obtain⟨sl,e⟩:=I.base.slot L o ho (I.ok.frf L hL) hL fun z=>I.ok.xK L z hL
   exact⟨hk,⟨L,_,hf,hn,e,hd⟩,ih (fun b hb=>hs b (by unfold frs;rw[List.filterMap_cons,hf];exact List.mem_cons_of_mem _ hb)) hr⟩
 exact all X.outer (fun _ hb=>hb) I.ok.k6

theorem Inv.stack (I:Inv X pins σ H s):s.heap.FunFrames X.base X.stack:=by
 rcases I.ok.stk with e | ⟨e,hf⟩
 ·rw[e];exact I.k6
 ·rw[e]
  obtain⟨m,hn,_⟩:=I.loc
  refine .cons (by rw[I.ok.kind];decide) hf hn ?_ I.k6
  exact Heap.get?_none_of_le (Nat.le_trans I.ok.bsz I.ok.above)
theorem Inv.k7 (I:Inv X pins σ H s):∀ b∈frs X.stack,b∈X.env.locals::X.fs:=fun b hb=>by
 rcases I.ok.stk with e | ⟨e,hf⟩
 ·rw[e] at hb;exact List.mem_cons_of_mem _ hb
 ·rw[e] at hb
  unfold frs at hb
  rw[List.filterMap_cons,hf] at hb
  exact hb
theorem Inv.rX (I:Inv X pins σ H s):∀ b∈frs X.stack,H b=none:=fun b hb=>by
 rcases List.mem_cons.mp (I.k7 b hb) with e | hb
 ·rw[e];exact I.free
 ·obtain⟨_,o,ho,_⟩:=I.ok.k6.mem hb
  exact I.base.free b o ho (I.ok.frf b hb) fun z=>I.ok.xK b z hb

theorem Inv.step {g':Array GenState}{t':Nat}{d':Drawn}{ch:List Addr}(I:Inv X pins σ H s)
  (hch:∀ b∈ch,(b∈X.ex∨X.s₀.heap.objs.size≤b)∧b≠X.env.locals∧(∀ x c,X.env.cells.lookup x=some c→c≠b)∧∀ p∈X.pn++pins,p.1≠b)
  (keep:∀ b o,b≠X.env.locals→b ∉ X.fs→b ∉ ch→s.heap.get? b=some o→H b=none→h'.get? b=some o)
  (slot:∀ b o,b≠X.env.locals→b∈X.fs→b ∉ ch→s.heap.get? b=some o→H b=none→∃ sl,h'.get? b=some { o with slots:=sl }) (free:∀ b o,b ∉ ch→s.heap.get? b=some o→H b=none→H' b=none)
  (there:∀ b o,b ∉ ch→s.heap.get? b=some o→∃ o',h'.get? b=some o')
  (nR:∀ b xs,H b=some (.tup xs)→H' b=some (.tup xs)) (mq:∀ b o u,H b=some (.frz o u)→H' b=some (.frz o u)) (nS:∀ b ps,H b=some (.tbl ps)→∃ more,H' b=some (.tbl (ps++more)))
  (ns:∀ m,s.heap.Ns X.env.locals m→h'.Ns X.env.locals m) (hok:HOk X.prog X.w H' h') (hg:AllBare g') :
  Inv X pins σ H' { s with heap:=h',gens:=g',drawn:=d',toks:=t' }:=by
 have neL:∀ b o,X.s₀.heap.get? b=some o→b≠X.env.locals:=fun b o e=>Nat.ne_of_lt (Nat.lt_of_lt_of_le (Heap.lt_size e) I.ok.above)
 have neC:∀ b o,X.s₀.heap.get? b=some o→b ∉ X.ex→b ∉ ch:=fun b o e hx hb=>by
  rcases(hch b hb).1 with z | z
  ·exact hx z
  ·exact absurd (Nat.lt_of_lt_of_le (Heap.lt_size e) z) (Nat.lt_irrefl _)
 have cellK:∀ x c,X.env.cells.lookup x=some c→∀ v,s.heap.IsCell c v→h'.IsCell c v:=fun x c e v ⟨o,ho,hd⟩=>by
  have nch:c ∉ ch:=fun z=>(hch c z).2.2.1 x c e rfl
  by_cases hc:c∈X.fs
  ·obtain⟨sl,q⟩:=slot c o (I.cne x c e) hc nch ho (I.iJ x c e)
   exact⟨_,q,hd⟩
  ·exact⟨o,keep c o (I.cne x c e) hc nch ho (I.iJ x c e),hd⟩
 refine⟨I.ok,I.os,hg,⟨fun b o e n hb hx=>?_,fun b o e n hb hx=>?_,fun b o e n hx=>?_,fun b o e hx=>?_,fun b xs e=>nR b xs (I.base.nR b xs e),fun b o xs e=>mq b o xs (I.base.mq b o xs e),fun b ps e=>?_⟩,?_,fun x c e=>?_,?_,fun x c e=>?_,fun p hp=>?_,hok,I.len⟩
 ·exact keep b o (neL b o e) hb (neC b o e hx) (I.base.keep b o e n hb hx) (I.base.free b o e n hx)
 ·obtain⟨sl,e1⟩:=I.base.slot b o e n hb hx
  obtain⟨sl',e2⟩:=slot b _ (neL b o e) hb (neC b o e hx) e1 (I.base.free b o e n hx)
  exact⟨sl',e2⟩
 ·obtain⟨o',e1⟩:=I.base.there b o e hx
  exact free b o' (neC b o e hx) e1 (I.base.free b o e n hx)
 ·obtain⟨o',e1⟩:=I.base.there b o e hx
  exact there b o' (neC b o e hx) e1
 ·obtain⟨m1,e1⟩:=I.base.nS b ps e
  obtain⟨m2,e2⟩:=nS b _ e1
  exact⟨m1++m2,by rw[e2,Array.append_assoc]⟩
 ·obtain⟨m,hn,hl⟩:=I.loc
  refine⟨m,ns m hn,fun i x v e1 e2 e3=>?_⟩
  obtain⟨u,r,l⟩:=hl i x v e1 e2 e3
  refine⟨u,r,?_⟩
  rcases l with l | ⟨k,c,e,z⟩
  ·exact .inl l
  ·exact .inr ⟨k,c,e,cellK x c e _ z⟩
 ·obtain⟨v,z⟩:=I.cell x c e
  exact⟨v,cellK x c e v z⟩
 ·obtain⟨m,⟨o,_,_,ho,_⟩,_⟩:=I.loc
  exact free _ o (fun z=>(hch _ z).2.1 rfl) ho I.free
 ·obtain⟨v,o,ho,hd⟩:=I.cell x c e
  exact free c o (fun z=>(hch c z).2.2.1 x c e rfl) ho (I.iJ x c e)
 ·obtain⟨e,n,ne,nf,d⟩:=I.pin p hp
  have nch:p.1 ∉ ch:=fun z=>(hch p.1 z).2.2.2 p hp rfl
  exact⟨keep p.1 p.2 ne nf nch e n,free p.1 p.2 nch e n,ne,nf,d⟩
theorem Inv.un {t':Nat}(I:Inv X pins σ H s)(u:Un X.fs [] H H' s.heap h')(hok:HOk X.prog X.w H' h'):Inv X pins σ H' { s with heap:=h',toks:=t' }:=by
 obtain⟨m,⟨o,es,ep,ho,r⟩,_⟩:=id I.loc
 obtain⟨sl,hL⟩:=u.any ho I.free (by simp)
 exact I.step (g':=s.gens) (d':=s.drawn) (ch:=[]) (fun _ z=>nomatch z) (fun b o _ hb _ e n=>u.keep b o e n hb (by simp)) (fun b o _ hb _ e n=>u.slot b o e n hb (by simp)) (fun b o _ e n=>u.free b o e n (by simp)) (fun b o _ e=>u.there b o e (by simp)) u.nR u.mq u.nS (fun m' hm=>by
  obtain⟨o',es',ep',ho',r'⟩:=hm
  rw[ho] at ho';cases ho'
  exact⟨_,es',ep',hL,r'⟩) hok I.bare
theorem Inv.call {g':Array GenState}{t':Nat}{d':Drawn}{ch:List Addr}(I:Inv X pins σ H s)(u:Un (frs X.stack) ch H H' s.heap h')(hok:HOk X.prog X.w H' h')(hg:AllBare g')
  (hch:∀ b∈ch,(b∈X.ex∨X.s₀.heap.objs.size≤b)∧b≠X.env.locals∧(∀ x c,X.env.cells.lookup x=some c→c≠b)∧∀ p∈X.pn++pins,p.1≠b) :
  Inv X pins σ H' { s with heap:=h',gens:=g',drawn:=d',toks:=t' }:=by
 obtain⟨m,⟨o,es,ep,ho,r⟩,_⟩:=id I.loc
 obtain⟨sl,hL⟩:=u.any ho I.free fun z=>(hch _ z).2.1 rfl
 exact I.step (ch:=ch) hch (fun b o hL hb hc e n=>u.keep b o e n (fun z=>(List.mem_cons.mp (I.k7 b z)).elim hL hb) hc) (fun b o _ _ hc e n=>u.any e n hc) (fun b o hc e n=>u.free b o e n hc) (fun b o hc e=>u.there b o e hc) u.nR u.mq u.nS (fun m' hm=>by
  obtain⟨o',es',ep',ho',r'⟩:=hm
  rw[ho] at ho';cases ho'
  exact⟨_,es',ep',hL,r'⟩) hok hg
theorem Inv.turned {t':Nat}{it:Addr}(I:Inv X pins σ H s)(k:∀ b o,b≠it→s.heap.get? b=some o→h'.get? b=some o)(hn:H it=none)(hL:it≠X.env.locals)
  (h1:it∈X.ex∨X.s₀.heap.objs.size≤it) (h2:∀ x c,X.env.cells.lookup x=some c→c≠it) (h3:∀ p∈X.pn++pins,p.1≠it):Inv X pins σ H { s with heap:=h',toks:=t' }:=by
 have nit:∀ b u,H b=some u→b≠it:=fun b u e z=>by rw[z,hn] at e;cases e
 refine I.step (g':=s.gens) (d':=s.drawn) (ch:=[it]) (fun b hb=>?_) (fun b o _ _ hc e _=>k b o (fun z=>hc (by simp[z])) e) (fun b o _ _ hc e _=>⟨o.slots,k b o (fun z=>hc (by simp[z])) e⟩) (fun _ _ _ _ n=>n)
  (fun b o hc e=>⟨o,k b o (fun z=>hc (by simp[z])) e⟩) (fun _ _ e=>e) (fun _ _ _ e=>e) (fun b ps e=>⟨#[],by rw[e];simp⟩) (fun m hm=>?_) (fun b u e=>?_) I.bare
 ·have e:b=it:=by simpa using hb
  subst e
  exact⟨h1,hL,h2,h3⟩
 ·obtain⟨o,es,ep,ho,r⟩:=hm
  exact⟨o,es,ep,k _ o (Ne.symm hL) ho,r⟩
 ·refine(I.hok b u e).pf (fun c v hc q=>k c v ?_ q) (fun _ q=>q) fun _ _ q=>q
  rcases hc with z | z
  ·rw[z];exact nit b u e
  ·exact nit c _ z
theorem Inv.tok (I:Inv X pins σ H s)(t:Nat):Inv X pins σ H { s with toks:=t }:=I.un (h':=s.heap) (t':=t) Un.refl I.hok
theorem Inv.kept {t':Nat}(I:Inv X pins σ H s)(k:∀ b u,s.heap.get? b=some u→h'.get? b=some u):Inv X pins σ H { s with heap:=h',toks:=t' }:=I.un (Un.kept k) (I.hok.kept k)
theorem Inv.laid {a : Addr}{o : HO}{t' : Nat}(I : Inv X pins σ H s)(k : ∀ b u, s.heap.get? b=some u → h'.get? b=some u)(hp : s.heap.objs.size ≤ a)(new : bb X.prog X.w (upd H a o) h' a o) :
    Inv X pins σ (upd H a o) { s with heap := h', toks := t' } := I.un (Un.laid k hp (I.hok.fresh hp)) (I.hok.laid k hp new)
theorem Inv.write {x e : Addr}{o : HO}{t' : Nat}(I : Inv X pins σ H s)(mu : Mut (H x))(he : e=x ∨ H e=some (.own x))(k : ∀ b u, b ≠ e → s.heap.get? b=some u → h'.get? b=some u)(heo : ∃ u, h'.get? e=some u)
    (new : bb X.prog X.w (upd H x o) h' x o) : Inv X pins σ (upd H x o) { s with heap := h', toks := t' } := I.un (Un.write mu he k heo) (I.hok.write mu he k heo new)
theorem Inv.rY {zd:List (Addr×Obj)}(I:Inv X pins σ H s)(h:∀ p∈zd,s.heap.get? p.1=some p.2∧H p.1=none∧p.1≠X.env.locals∧p.1 ∉ X.fs∧∀ v,p.2.data≠.cell v):Inv X zd σ H s :=
 ⟨I.ok,I.os,I.bare,I.base,I.loc,I.cell,I.free,I.iJ,fun p hp=>(List.mem_append.mp hp).elim (fun z=>I.pin p (List.mem_append_left _ z)) (h p),I.hok,I.len⟩

theorem ph {N:List Str}(hN:N.Nodup){i j:Nat}{x:Str}(a:N[i]?=some x)(b:N[j]?=some x):i=j:=by
 obtain⟨h1,e1⟩:=List.getElem?_eq_some_iff.mp a
 obtain⟨h2,e2⟩:=List.getElem?_eq_some_iff.mp b
 exact(List.getElem_inj hN).mp (e1.trans e2.symm)

theorem mM {M:Model}{A:Around}{E:Value→Shared→Prop}{i:Nat}{x:Str}{v:V}{u:Value}{Q:Unit→Shared→Prop}(I:Inv X pins σ H s)(hN:X.N.Nodup)(hi:X.N[i]?=some x)(hx:Loc X.env.scope x)(r:RelV v u)
  (h:∀ s',Inv X pins (σ.set i (some v)) H s'→(∃ a,Heap.SameBut a s.heap s'.heap∧(a=X.env.locals∨X.env.cells.lookup x=some a))→Q () s') (hf:X.fn x=true∨X.env.scope.names.lookup x=some .local:=by first | exact .inl rfl | exact .inr rfl | assumption):wpAny M A (storeName X.env x u) Q E s:=by
 obtain⟨m,hn,hl⟩:=id I.loc
 have Cr:(X.env.scope.kind == .class||(X.env.scope.kind == .module&&X.env.locals != X.env.globals))=false:=by rw[I.ok.kind];rfl
 have hiσ:i<σ.length:=by rw[I.len];exact(List.getElem?_eq_some_iff.mp hi).1
 have cne:=I.cne
 have tracked:∀ {a:Addr} {h':Heap},(∃ o,s.heap.get? a=some o∧H a=none)→Heap.SameBut a s.heap h'→HOk X.prog X.w H h':=fun {a h'} ha hs b ob e=>by
  obtain⟨_,_,pj⟩:=ha
  refine(I.hok b ob e).pf (fun c w' hc q=>(hs.2 c ?_).trans q) (fun _ q=>q) fun _ _ q=>q
  rintro rfl
  rcases hc with rfl | hc
  ·rw[pj] at e;cases e
  ·rw[pj] at hc;cases hc
 rcases hx with hk | hk
 ·refine wpAny_storeName_local hk hn (fun h' hn' hs=>?_) Cr
  obtain⟨oL,_,_,hoL,_⟩:=id hn
  refine h _ ⟨I.ok,I.os,I.bare,⟨fun b o e n hb hx=>?_,fun b o e n hb hx=>?_,I.base.free,fun b o e hx=>?_,I.base.nR,I.base.mq,I.base.nS⟩,⟨_,hn',fun j y v' e1 e2 e3=>?_⟩,fun y c e=>?_,I.free,I.iJ,fun p hp=>?_,tracked ⟨oL,hoL,I.free⟩ hs,by simpa using I.len⟩ ⟨_,hs,.inl rfl⟩
  ·exact(hs.2 b (Nat.ne_of_lt (Nat.lt_of_lt_of_le (Heap.lt_size e) I.ok.above))).trans (I.base.keep b o e n hb hx)
  ·obtain⟨sl,e1⟩:=I.base.slot b o e n hb hx
   exact⟨sl,(hs.2 b (Nat.ne_of_lt (Nat.lt_of_lt_of_le (Heap.lt_size e) I.ok.above))).trans e1⟩
  ·obtain⟨o',e1⟩:=I.base.there b o e hx
   exact⟨o',(hs.2 b (Nat.ne_of_lt (Nat.lt_of_lt_of_le (Heap.lt_size e) I.ok.above))).trans e1⟩
  ·by_cases hj:j=i
   ·subst hj
    rw[hi] at e1;cases e1
    rw[List.getElem?_set_self hiσ] at e2
    cases e2
    exact⟨u,r,.inl ⟨hk,by simp⟩⟩
   ·rw[List.getElem?_set_ne (Ne.symm hj)] at e2
    obtain⟨u',r',q⟩:=hl j y v' e1 e2 e3
    refine⟨u',r',?_⟩
    rcases q with ⟨k,e⟩ | ⟨k,c,e,z⟩
    ·refine .inl ⟨k,?_⟩
     have:y≠x:=fun e=>hj (ph hN e1 (e ▸ hi))
     simp[this,e]
    ·exact .inr ⟨k,c,e,z.sameBut hs (cne y c e)⟩
  ·obtain⟨w',z⟩:=I.cell y c e
   exact⟨w',z.sameBut hs (cne y c e)⟩
  ·obtain⟨e,n,ne,nf,d⟩:=I.pin p hp
   exact⟨(hs.2 p.1 ne).trans e,n,ne,nf,d⟩
 ·have hfn:X.fn x=true:=by
   rcases hf with z | z
   ·exact z
   ·rw[z] at hk;cases hk
  obtain⟨c,hc⟩:=I.ok.has x (.inl hk)
  obtain⟨w',z⟩:=I.cell x c hc
  refine wpAny_storeName_cell I.ok.kind hk hc z (fun h' hc' hs=>?_)
  obtain⟨oc,hoc,Cs⟩:=id z
  refine h { s with heap:=h' } ⟨I.ok,I.os,I.bare,⟨fun b o e n hb hx=>?_,fun b o e n hb hx=>?_,I.base.free,fun b o e hx=>?_,I.base.nR,I.base.mq,I.base.nS⟩,⟨m,hn.sameBut hs (Ne.symm (cne x c hc)),fun j y v' e1 e2 e3=>?_⟩,fun y c' e=>?_,I.free,I.iJ,fun p hp=>?_,tracked ⟨oc,hoc,I.iJ x c hc⟩ hs,by simpa using I.len⟩ ⟨c,hs,.inr hc⟩
  ·exact(hs.2 b (Nat.ne_of_lt (Nat.lt_of_lt_of_le (Heap.lt_size e) (I.ok.cab x c hfn hc)))).trans (I.base.keep b o e n hb hx)
  ·obtain⟨sl,e1⟩:=I.base.slot b o e n hb hx
   exact⟨sl,(hs.2 b (Nat.ne_of_lt (Nat.lt_of_lt_of_le (Heap.lt_size e) (I.ok.cab x c hfn hc)))).trans e1⟩
  ·obtain⟨o',e1⟩:=I.base.there b o e hx
   exact⟨o',(hs.2 b (Nat.ne_of_lt (Nat.lt_of_lt_of_le (Heap.lt_size e) (I.ok.cab x c hfn hc)))).trans e1⟩
  ·by_cases hj:j=i
   ·subst hj
    rw[hi] at e1;cases e1
    rw[List.getElem?_set_self hiσ] at e2
    cases e2
    exact⟨u,r,.inr ⟨.inl hk,c,hc,hc'⟩⟩
   ·rw[List.getElem?_set_ne (Ne.symm hj)] at e2
    obtain⟨u',r',q⟩:=hl j y v' e1 e2 e3
    refine⟨u',r',?_⟩
    rcases q with q | ⟨k,c',e,z'⟩
    ·exact .inl q
    ·refine .inr ⟨k,c',e,z'.sameBut hs ?_⟩
     rintro rfl
     exact hj (ph hN e1 (I.ok.inj _ _ _ e hc ▸ hi))
  ·by_cases hcc:c'=c
   ·subst hcc;exact⟨_,hc'⟩
   ·obtain⟨w2,z2⟩:=I.cell y c' e
    exact⟨w2,z2.sameBut hs hcc⟩
  ·obtain⟨e,n,ne,nf,d⟩:=I.pin p hp
   refine⟨(hs.2 p.1 ?_).trans e,n,ne,nf,d⟩
   intro q
   rw[q,hoc] at e
   have q':oc=p.2:=Option.some.inj e
   exact d w' (by rw[← q'];exact Cs)
theorem pq {M:Model}{A:Around}{E:Value→Shared→Prop}{i:Nat}{x:Str}{v:V}{u:Value}{Q:Unit→Shared→Prop}(I:Inv X pins σ H s)(hN:X.N.Nodup)(hi:X.N[i]?=some x)(hx:Loc X.env.scope x)(r:RelV v u)
  (h:∀ s',Inv X pins (σ.set i (some v)) H s'→Q () s') (hf:X.fn x=true∨X.env.scope.names.lookup x=some .local:=by first | exact .inl rfl | exact .inr rfl | assumption):wpAny M A (storeName X.env x u) Q E s :=
 mM I hN hi hx r (fun s' I' _=>h s' I') hf
theorem Inv.Bj {s':Shared}{ch:List Addr}(I:Inv X pins σ H s)(ho:s'.os=s.os)(u:Un (frs X.stack) ch H H' s.heap s'.heap)(hok:HOk X.prog X.w H' s'.heap)(hg:AllBare s'.gens)
  (hch:∀ b∈ch,(b∈X.ex∨X.s₀.heap.objs.size≤b)∧b≠X.env.locals∧(∀ x c,X.env.cells.lookup x=some c→c≠b)∧∀ p∈X.pn++pins,p.1≠b):Inv X pins σ H' s':=by
 obtain⟨h',g',d',t',o'⟩:=s'
 have e:o'=s.os:=ho
 subst e
 exact I.call (g':=g') (t':=t') (d':=d') u hok hg hch
end

noncomputable abbrev XK:=Value→Option Addr→Hp→Prop
noncomputable abbrev St:=List (Option V)
noncomputable abbrev VK:=V→Hp→Prop
noncomputable abbrev TE:=St→Hp→VK→Prop
noncomputable abbrev TT:=St→Hp→(Bool→Hp→Prop)→Prop
noncomputable abbrev TA:=St→Hp→(List V→Hp→Prop)→Prop
structure Ends where
 nx:St→Hp→Prop
 rt:VK
 bk:St→Hp→Prop:=fun _ _=>False
 ct:St→Hp→Prop:=fun _ _=>False
noncomputable abbrev TS:=Ends→St→Hp→Prop

noncomputable def EP (X:Cx)(pins:List (Addr×Obj))(σ:St)(Q:VK)(u:Value)(s':Shared):Prop:=∃ v H',Inv X pins σ H' s'∧RelV v u∧Q v H'
noncomputable def TP (X:Cx)(pins:List (Addr×Obj))(σ:St)(Q:Bool→Hp→Prop)(b:Bool)(s':Shared):Prop:=∃ H',Inv X pins σ H' s'∧Q b H'
noncomputable def AP (X:Cx)(pins:List (Addr×Obj))(σ:St)(Q:List V→Hp→Prop)(us:List Value)(s':Shared):Prop:=∃ vs H',Inv X pins σ H' s'∧Vals vs us∧Q vs H'
noncomputable def SP (X:Cx)(pins:List (Addr×Obj))(D:Ends)(f:Flow)(s':Shared):Prop :=
 match f with
 | .next=>∃ σ' H',Inv X pins σ' H' s'∧D.nx σ' H'
 | .brk=>∃ σ' H',Inv X pins σ' H' s'∧D.bk σ' H'
 | .cont=>∃ σ' H',Inv X pins σ' H' s'∧D.ct σ' H'
 | .ret u=>∃ v σ' H',Inv X pins σ' H' s'∧RelV v u∧D.rt v H'

noncomputable def PE (X:Cx)(e:Expr)(t:TE):Prop :=
 ∀ (pins:List (Addr×Obj)) (s:Shared) (σ:St) (H:Hp) (Q:VK),Inv X pins σ H s→t σ H Q→wpAny (model X.prog X.w) X.A (eval e X.env) (EP X pins σ Q) X.xe s
noncomputable def PT (X:Cx)(e:Expr)(t:TT):Prop :=
 ∀ (pins:List (Addr×Obj)) (s:Shared) (σ:St) (H:Hp) (Q:Bool→Hp→Prop),Inv X pins σ H s→t σ H Q→wpAny (model X.prog X.w) X.A (isTrue e X.env (eval e X.env)) (TP X pins σ Q) X.xe s
noncomputable def PW (X:Cx)(e:Expr)(t:TT):Prop :=
 ∀ (whole:Sem Value) (pins:List (Addr×Obj)) (s:Shared) (σ:St) (H:Hp) (Q:Bool→Hp→Prop),Inv X pins σ H s→t σ H Q→wpAny (model X.prog X.w) X.A (isTrue e X.env whole) (TP X pins σ Q) X.xe s
theorem PW.pt {X:Cx}{e:Expr}{t:TT}(h:PW X e t):PT X e t:=h _
noncomputable def PA (X:Cx)(es:List Expr)(t:TA):Prop :=
 ∀ (pos:Pos) (pins:List (Addr×Obj)) (s:Shared) (σ:St) (H:Hp) (Q:List V→Hp→Prop),Inv X pins σ H s→t σ H Q→wpAny (model X.prog X.w) X.A (spliced (backTo pos (starEach es X.env))) (AP X pins σ Q) X.xe s
noncomputable def PS (X:Cx)(st:Stmt)(t:TS):Prop :=
 ∀ (pins:List (Addr×Obj)) (s:Shared) (σ:St) (H:Hp) (D:Ends),Inv X pins σ H s→t D σ H→wpAny (model X.prog X.w) X.A (exec st X.env) (SP X pins D) X.xe s
noncomputable def PSs (X:Cx)(st:List Stmt)(t:TS):Prop :=
 ∀ (pins:List (Addr×Obj)) (s:Shared) (σ:St) (H:Hp) (D:Ends),Inv X pins σ H s→t D σ H→wpAny (model X.prog X.w) X.A (execs st X.env) (SP X pins D) X.xe s
theorem thn {α:Type}{t:Sem α}{Q Q':α→Shared→Prop}{M:Model}{A:Around}{E:Value→Shared→Prop}{s:Shared}(h:wpAny M A t Q E s)(hQ:∀ a s,Q a s→Q' a s):wpAny M A t Q' E s:=wpAny_mono h hQ fun _ _ x=>x
end L2

namespace L2
open PySem PySem.Spec PyProof.Rows
section
variable {X:Cx}

noncomputable def qF (i:Nat):TE:=fun σ H Q=>∃ v,σ[i]?=some (some v)∧Q v H
noncomputable def tC (v:V):TE:=fun _ H Q=>Q v H
theorem zL {i:Nat}{x:Str}{pos:Pos}(hN:X.N[i]?=some x)(hv:Vis X.env.scope x)(hd:(x == ("__debug__":Str))=false:=by decide)(hcd:(x == ("__classdict__":Str))=false:=by decide):PE X (.Name x pos) (qF i):=by
 intro pins s σ H Q I h
 obtain⟨v,e,h⟩:=h
 obtain⟨m,hn,hl⟩:=I.loc
 obtain⟨u,r,l⟩:=hl i x v hN e hv
 have fin:EP X pins σ Q u s:=⟨v,H,I,r,h⟩
 rcases l with ⟨hk,hm⟩ | ⟨hk,c,hc,ze⟩
 ·exact wpAny_Name (wpAny_loadName_local I.ok.kind hk hn hm fin) hd
 ·rcases hk with hk | hk
  ·exact wpAny_Name (wpAny_loadName_cell I.ok.kind hk hc ze fin) hd
  ·exact wpAny_Name (wpAny_loadName_free I.ok.kind hk hc ze fin hcd) hd
theorem aj {i j pos}:PE X (.Constant (.int i) j pos) (tC (.int i)):=fun _ _ _ H _ I h=>wpAny_Constant_int ⟨.int i,H,I.tok _,⟨_,rfl⟩,h⟩
theorem zf {b j pos}:PE X (.Constant (.bool b) j pos) (tC (.bl b)):=fun _ _ _ H _ I h=>Constant_bool ⟨.bl b,H,I,rfl,h⟩
theorem iN {j pos}:PE X (.Constant .none j pos) (tC .non):=fun _ _ _ H _ I h=>Constant_none ⟨.non,H,I,rfl,h⟩
theorem zM {x j pos}:PE X (.Constant (.str x) j pos) (tC (.str x)):=fun _ _ _ H _ I h=>Calls.Constant_str ⟨.str x,H,I.tok _,⟨_,rfl⟩,h⟩

noncomputable def Gl (X:Cx)(x:Str):Prop:=X.env.kindOf x=some .globalImplicit
theorem xM {E:Value→Shared→Prop}{pins:List (Addr×Obj)}{s:Shared}{σ:St}{H:Hp}{x:Str}{u:Value}{pos:Pos}{Q:Value→Shared→Prop}(I:Inv X pins σ H s)(hg:Gl X x)(hm:X.mg x=some u)(h:Q u s)
  (hd:(x == ("__debug__":Str))=false:=by decide):wpAny (model X.prog X.w) X.A (eval (.Name x pos) X.env) Q E s :=
 Calls.Name_function_global I.ok.kind hg (Calls.loadGlobal_global (by rw[I.ok.glob];exact I.mod.glob.keeps I.bk) hm h) hd
theorem gv {E:Value→Shared→Prop}{pins:List (Addr×Obj)}{s:Shared}{σ:St}{H:Hp}{x:Str}{u:Value}{pos:Pos}{Q:Value→Shared→Prop}(I:Inv X pins σ H s)(hg:Gl X x)(hm:X.mg x=none)(hv:bootBuiltins x=some u)(h:Q u s)
  (hn:x≠"__name__":=by decide) (hd:(x == ("__debug__":Str))=false:=by decide):wpAny (model X.prog X.w) X.A (eval (.Name x pos) X.env) Q E s:=by
 obtain⟨mb,h1,h2⟩:=I.mod.blt
 exact Calls.Name_function_global I.ok.kind hg (Calls.loadGlobal_builtin (by rw[I.ok.glob];exact I.mod.glob.keeps I.bk) hm (by rw[I.ok.blt];exact h1.keeps I.bk) ((h2 x hn).trans hv) h) hd
theorem kT {x:Str}{v:V}{u:Value}{pos:Pos}(hg:Gl X x)(hm:X.mg x=none)(hv:bootBuiltins x=some u)(r:RelV v u)(hn:x≠"__name__":=by decide)(hd:(x == ("__debug__":Str))=false:=by decide):PE X (.Name x pos) (tC v) :=
 fun _ _ _ H _ I h=>gv I hg hm hv ⟨v,H,I,r,h⟩ hn hd

variable {a b:Expr}{ta tb:TE}{pos:Pos}
noncomputable def tB (t:TE):TT:=fun σ H Q=>t σ H fun x H1=>∃ c,x=.bl c∧Q c H1
theorem k8 {e:Expr}{t:TE}(h:PE X e t)(he:∀ whole,isTrue e X.env whole=(do let v ← whole;standAt e.pos;holding [v] (truthy v)):=by intro _;rfl):PT X e (tB t):=by
 intro pins s σ H Q I hw
 refine isTrue_plain (thn (h pins s σ H _ I hw) fun v s1 ⟨x,H1,I1,r1,q1⟩=>?_) (he _)
 obtain⟨d,rfl,q⟩:=q1
 cases r1
 exact wpAny_truthy_bool ⟨H1,I1,q⟩

variable {tA tB':TT}{rest:List Expr}
noncomputable def Ct (t u:TT):TT:=fun σ H Q=>t σ H fun c H1=>if c=true then u σ H1 Q else Q false H1
noncomputable def tOr (t u:TT):TT:=fun σ H Q=>t σ H fun c H1=>if c=true then Q true H1 else u σ H1 Q
noncomputable def Cu (t:TT):TT:=fun σ H Q=>t σ H fun c H1=>Q (!c) H1
theorem eS (ha:PT X a tA):PW X (.BoolOp .And [a] pos) tA:=by
 intro wh pins s σ H Q I h
 refine isTrue_and (thn (ha pins s σ H Q I h) fun c s1 e=>?_)
 cases c with
 | true=>exact isTrue_and_nil e
 | false=>exact e
theorem uV (ha:PT X a tA):PW X (.BoolOp .Or [a] pos) tA:=by
 intro wh pins s σ H Q I h
 refine isTrue_or (thn (ha pins s σ H Q I h) fun c s1 e=>?_)
 cases c with
 | false=>exact isTrue_or_nil e
 | true=>exact e
theorem fi (ha:PT X a tA)(hb:PW X (.BoolOp .And (b::rest) pos) tB'):PW X (.BoolOp .And (a::b::rest) pos) (Ct tA tB'):=by
 intro wh pins s σ H Q I h
 refine isTrue_and (thn (ha pins s σ H _ I h) fun c s1 ⟨H1,I1,q1⟩=>?_)
 cases c with
 | true=>exact hb wh pins s1 σ H1 Q I1 q1
 | false=>exact⟨H1,I1,q1⟩
theorem rZ (ha:PT X a tA)(hb:PW X (.BoolOp .Or (b::rest) pos) tB'):PW X (.BoolOp .Or (a::b::rest) pos) (tOr tA tB'):=by
 intro wh pins s σ H Q I h
 refine isTrue_or (thn (ha pins s σ H _ I h) fun c s1 ⟨H1,I1,q1⟩=>?_)
 cases c with
 | true=>exact⟨H1,I1,q1⟩
 | false=>exact hb wh pins s1 σ H1 Q I1 q1
theorem nV (ha:PT X a tA):PT X (.UnaryOp .Not a pos) (Cu tA):=by
 intro pins s σ H Q I h
 exact isTrue_not (ha pins s σ H (fun c H1=>Q (!c) H1) I h)
noncomputable def Bk (ta tb:TE):TE:=fun σ H Q=>ta σ H fun x H1=>∃ c,x=.bl c∧if c=true then tb σ H1 Q else Q (.bl false) H1
noncomputable def Bm (ta:TE):TE:=fun σ H Q=>ta σ H fun x H1=>∃ c,x=.bl c∧Q (.bl (!c)) H1
theorem uW {op}{t:TE}(h:PE X a t):PE X (.BoolOp op [a] pos) t:=fun pins s σ H Q I hw=>BoolOp_one (h pins s σ H Q I hw)
theorem uX (ha:PE X a ta)(hb:PE X (.BoolOp .And (b::rest) pos) tb):PE X (.BoolOp .And (a::b::rest) pos) (Bk ta tb):=by
 intro pins s σ H Q I h
 refine BoolOp_and (thn (ha pins s σ H _ I h) fun v s1 ⟨x,H1,I1,r1,q1⟩=>?_)
 obtain⟨c,rfl,q1⟩:=q1
 cases r1
 refine wpAny_truthy_bool ?_
 cases c with
 | true=>exact hb pins s1 σ H1 Q I1 q1
 | false=>exact⟨.bl false,H1,I1,rfl,q1⟩
theorem zN (ha:PE X a ta):PE X (.UnaryOp .Not a pos) (Bm ta):=by
 intro pins s σ H Q I h
 refine UnaryOp_ (thn (ha pins s σ H _ I h) fun v s1 ⟨x,H1,I1,r1,q1⟩=>?_)
 obtain⟨c,rfl,q1⟩:=q1
 cases r1
 exact not_of (wpAny_truthy_bool ⟨.bl (!c),H1,I1,rfl,q1⟩)
noncomputable def tIf (t:TT)(ta tb:TE):TE:=fun σ H Q=>t σ H fun c H1=>if c=true then ta σ H1 Q else tb σ H1 Q
theorem uY {c:Expr}(hc:PT X c tA)(ha:PE X a ta)(hb:PE X b tb):PE X (.IfExp c a b pos) (tIf tA ta tb):=by
 intro pins s σ H Q I h
 refine wpAny_IfExp (thn (hc pins s σ H _ I h) fun d s1 ⟨H1,I1,q1⟩=>?_)
 cases d with
 | true=>exact ha pins s1 σ H1 Q I1 q1
 | false=>exact hb pins s1 σ H1 Q I1 q1
end
end L2

namespace L2
open PySem PySem.Spec PyProof.Rows

noncomputable def SqL (K:PySem.W.Frag)(H:Hp)(a:Addr)(xs:List V):Prop :=
 Rd H a (.lst xs) ∨
  ∃ (o:Obj) (its:Array Value) (n:Nat),K.lookup a=some o∧o.cls=.type "list"∧o.dict=none∧o.data=.seq its n∧its.size≤sizeLine∧Vals xs its.toList
noncomputable def SqT (K:PySem.W.Frag)(H:Hp)(a:Addr)(xs:List V):Prop :=
 Rd H a (.tup xs) ∨
  ∃ (o:Obj) (its:Array Value) (n:Nat),K.lookup a=some o∧o.cls=.type "tuple"∧o.data=.seq its n∧its.size≤sizeLine∧Vals xs its.toList
noncomputable def Cv:Value→Option V
 | .none=>some .non
 | .bool b=>some (.bl b)
 | .int i _=>some (.int i)
 | .str x _=>some (.str x)
 | .bytes b _=>some (.byt b)
 | .float b _=>some (.flt b)
 | .ref a=>some (.ref a)
 | .type n=>some (.ty n)
 | _=>none
theorem RelV.abs {x:V}{u:Value}(r:RelV x u):Cv u=some x:=by
 cases x with
 | non=>cases r;rfl
 | bl _=>cases r;rfl
 | int _=>obtain⟨t,rfl⟩:=r;rfl
 | str _=>obtain⟨t,rfl⟩:=r;rfl
 | byt _=>obtain⟨t,rfl⟩:=r;rfl
 | flt _=>obtain⟨t,rfl⟩:=r;rfl
 | ref _=>cases r;rfl
 | ty _=>cases r;rfl
theorem RelV.inj {x y:V}{u:Value}(r:RelV x u)(q:RelV y u):x=y:=Option.some.inj (r.abs.symm.trans q.abs)
theorem Vals.inj:∀ {xs ys:List V} {us:List Value},Vals xs us→Vals ys us→xs=ys
 | _,_,_,.nil,.nil=>rfl
 | _,_,_,.cons r t,.cons r' t'=>by rw[r.inj r',Vals.inj t t']
section
variable {X:Cx}{pins:List (Addr×Obj)}{σ:St}{H:Hp}{s:Shared}{a:Addr}{xs ys:List V}
theorem SqL.of {K:PySem.W.Frag}(h:H a=some (.lst xs)):SqL K H a xs:=.inl (.inl h)
theorem SqT.of {K:PySem.W.Frag}(h:H a=some (.tup xs)):SqT K H a xs:=.inl (.inl h)
theorem Inv.list (I:Inv X pins σ H s)(h:SqL X.K H a xs):∃ its:List Value,Vals xs its∧PlainL s.heap a its.toArray∧xs.length≤sizeLine:=by
 rcases h with h | ⟨o,its,n,hk,hc,hd,hs,hz,r⟩
 ·obtain⟨z,its,n,r,e⟩:=h.ok I.hok
  exact⟨its,r,⟨_,n,e,rfl,rfl,rfl⟩,z⟩
 ·refine⟨its.toList,r,⟨o,n,I.kIn a o hk,hc,hd,by simpa using hs⟩,?_⟩
  have e:=r.length
  simp only[Array.length_toList] at e
  omega
theorem Inv.tuple (I:Inv X pins σ H s)(h:SqT X.K H a xs):∃ its:List Value,Vals xs its∧IsTup s.heap a its.toArray∧xs.length≤sizeLine:=by
 rcases h with h | ⟨o,its,n,hk,hc,hs,hz,r⟩
 ·obtain⟨z,its,r,p⟩:=h.ok I.hok
  exact⟨its,r,p,z⟩
 ·refine⟨its.toList,r,⟨o,I.kIn a o hk,hc,n,by simpa using hs⟩,?_⟩
  have e:=r.length
  simp only[Array.length_toList] at e
  omega
theorem Inv.pw (I:Inv X pins σ H s)(h:SqL X.K H a xs)(h':SqL X.K H a ys):xs=ys:=by
 obtain⟨its,r,⟨o,n,e,_,_,d⟩,_⟩:=I.list h
 obtain⟨its',r',⟨o',n',e',_,_,d'⟩,_⟩:=I.list h'
 rw[e] at e';cases e'
 rw[d] at d'
 injection d' with d1 _
 have:its=its':=by simpa using congrArg Array.toList d1
 subst this
 exact r.inj r'
theorem Inv.tX (I:Inv X pins σ H s)(h:SqT X.K H a xs)(h':SqT X.K H a ys):xs=ys:=by
 obtain⟨its,r,⟨o,e,_,n,d⟩,_⟩:=I.tuple h
 obtain⟨its',r',⟨o',e',_,n',d'⟩,_⟩:=I.tuple h'
 rw[e] at e';cases e'
 rw[d] at d'
 injection d' with d1 _
 have:its=its':=by simpa using congrArg Array.toList d1
 subst this
 exact r.inj r'
end

noncomputable abbrev Cx.mr (X:Cx)(E:Value→Shared→Prop):Cx:={ X with xe:=E }
noncomputable abbrev Cx.nox (X:Cx):Cx:=X.mr fun _ _=>False
theorem Cx.Ok.mr {X:Cx}(ok:X.Ok)(E:Value→Shared→Prop):(X.mr E).Ok :=
 ⟨ok.mod,ok.kind,ok.glob,ok.blt,ok.above,ok.inj,ok.has,ok.cab,ok.hd,ok.frames,ok.stk,ok.exf,ok.bs,ok.bsz,ok.uU,ok.xK,ok.k6,ok.frf⟩
theorem Cx.Ok.gP {X:Cx}{E:Value→Shared→Prop}(ok:(X.mr E).Ok):X.Ok :=
 ⟨ok.mod,ok.kind,ok.glob,ok.blt,ok.above,ok.inj,ok.has,ok.cab,ok.hd,ok.frames,ok.stk,ok.exf,ok.bs,ok.bsz,ok.uU,ok.xK,ok.k6,ok.frf⟩
section
variable {X:Cx}{pins:List (Addr×Obj)}{σ:St}{H:Hp}{s:Shared}{E:Value→Shared→Prop}
theorem Inv.mr (I:Inv X pins σ H s)(E:Value→Shared→Prop):Inv (X.mr E) pins σ H s:=⟨I.ok.mr E,I.os,I.bare,I.base,I.loc,I.cell,I.free,I.iJ,I.pin,I.hok,I.len⟩
theorem Inv.gP (I:Inv (X.mr E) pins σ H s):Inv X pins σ H s:=⟨I.ok.gP,I.os,I.bare,I.base,I.loc,I.cell,I.free,I.iJ,I.pin,I.hok,I.len⟩
theorem SP.gP {D:Ends}{f:Flow}{s':Shared}(h:SP (X.mr E) pins D f s'):SP X pins D f s':=by
 cases f with
 | next=>obtain⟨σ',H',I,q⟩:=h;exact⟨σ',H',I.gP,q⟩
 | brk=>obtain⟨σ',H',I,q⟩:=h;exact⟨σ',H',I.gP,q⟩
 | cont=>obtain⟨σ',H',I,q⟩:=h;exact⟨σ',H',I.gP,q⟩
 | ret u=>obtain⟨v,σ',H',I,r,q⟩:=h;exact⟨v,σ',H',I.gP,r,q⟩
theorem PSs.nox {st:List Stmt}{t:TS}(h:PSs X.nox st t):PSs X st t:=fun pins s σ H D I hw =>
 wpAny_mono (h pins s σ H D (I.mr _) hw) (fun _ _ q=>q.gP) fun _ _ z=>False.elim z
end

section
variable {X:Cx}{st:Stmt}{rest:List Stmt}{t u:TS}{e:Expr}{te:TE}{pos:Pos}
noncomputable def Bn:TS:=fun D σ H=>D.nx σ H
noncomputable def Cw (t u:TS):TS:=fun D σ H=>t { D with nx:=u D } σ H
theorem a8:PSs X [] Bn:=fun _ _ σ H _ I h=>wpAny_execs_nil ⟨σ,H,I,h⟩
theorem af (h1:PS X st t)(h2:PSs X rest u):PSs X (st::rest) (Cw t u):=by
 intro pins s σ H D I h
 refine wpAny_execs_cons (thn (h1 pins s σ H { D with nx:=u D } I h) fun f s1 q=>?_)
 cases f with
 | next =>
  obtain⟨σ',H',I',q⟩:=q
  exact h2 pins s1 σ' H' D I' q
 | ret v=>exact q
 | brk=>exact q
 | cont=>exact q
theorem au (h1:PS X st t):PSs X [st] t:=by
 intro pins s σ H D I h
 refine wpAny_execs_cons (thn (h1 pins s σ H D I h) fun f s1 q=>?_)
 cases f with
 | next=>exact wpAny_execs_nil q
 | ret v=>exact q
 | brk=>exact q
 | cont=>exact q
theorem Inv.quiet {pins:List (Addr×Obj)}{σ:St}{H:Hp}{s:Shared}(I:Inv X pins σ H s):interactive X.env=false:=by simp[interactive,I.ok.kind]
noncomputable def Bo (te:TE):TS:=fun D σ H=>te σ H fun _ H1=>D.nx σ H1
theorem b5 (he:PE X e te)(hs:swapsWith e none pos.line X.env=pure false:=by rfl):PS X (.Expr e pos) (Bo te):=by
 intro pins s σ H D I h
 exact wpAny_Expr_any (thn (he pins s σ H _ I h) fun v s1 ⟨x,H1,I1,r1,q1⟩=>⟨σ,H1,I1,q1⟩) I.quiet hs
noncomputable def Cy (te:TE):TS:=fun D σ H=>te σ H D.rt
theorem aQ (he:PE X e te):PS X (.Return (some e) pos) (Cy te):=by
 intro pins s σ H D I h
 exact wpAny_Return_some (thn (he pins s σ H _ I h) fun v s1 ⟨x,H1,I1,r1,q1⟩=>⟨x,σ,H1,I1,r1,q1⟩)
noncomputable def Cz (c:TT)(t u:TS):TS:=fun D σ H=>c σ H fun b H1=>if b=true then t D σ H1 else u D σ H1
theorem bT {c:Expr}{a b:List Stmt}{tc:TT}(hc:PT X c tc)(ha:PSs X a t)(hb:PSs X b u):PS X (.If c a b pos) (Cz tc t u):=by
 intro pins s σ H D I h
 refine wpAny_If (thn (hc pins s σ H _ I h) fun d s1 ⟨H1,I1,q1⟩=>?_)
 cases d with
 | true=>exact ha pins s1 σ H1 D I1 q1
 | false=>exact hb pins s1 σ H1 D I1 q1
end

noncomputable abbrev TG:=V→St→Hp→(St→Hp→Prop)→Prop
noncomputable abbrev TGs:=List V→St→Hp→(St→Hp→Prop)→Prop
noncomputable def PG (X:Cx)(target:Expr)(t:TG):Prop :=
 ∀ (pins:List (Addr×Obj)) (s:Shared) (σ:St) (H:Hp) (v:V) (u:Value) (Q:St→Hp→Prop),Inv X pins σ H s→RelV v u→t v σ H Q →
  wpAny (model X.prog X.w) X.A (assign target X.env u) (fun _ s'=>∃ σ' H',Inv X pins σ' H' s'∧Q σ' H') X.xe s
noncomputable def PGs (X:Cx)(ts:List Expr)(t:TGs):Prop :=
 ∀ (pins:List (Addr×Obj)) (s:Shared) (σ:St) (H:Hp) (vs:List V) (us:List Value) (Q:St→Hp→Prop),Inv X pins σ H s→Vals vs us→t vs σ H Q →
  wpAny (model X.prog X.w) X.A (assignInOrder ((assignEach ts X.env).map (·.2)) us) (fun _ s'=>∃ σ' H',Inv X pins σ' H' s'∧Q σ' H') X.xe s
noncomputable abbrev zO:=V→V→V→Hp→(Hp→Prop)→Prop
noncomputable def Bp (X:Cx)(t:zO):Prop :=
 ∀ (pins:List (Addr×Obj)) (s:Shared) (σ:St) (H:Hp) (o i v:V) (ov iv u:Value) (Q:Hp→Prop),Inv X pins σ H s→RelV o ov→RelV i iv→RelV v u→t o i v H Q →
  wpAny (model X.prog X.w) X.A (setItem ov iv u) (fun _ s'=>∃ H',Inv X pins σ H' s'∧Q H') X.xe s
section
variable {X:Cx}{pos:Pos}
noncomputable def r9 (i:Nat):TG:=fun v σ H Q=>Q (σ.set i (some v)) H
theorem aC {i:Nat}{x:Str}(hN:X.N.Nodup)(hi:X.N[i]?=some x)(hx:Loc X.env.scope x)(hf:X.fn x=true∨X.env.scope.names.lookup x=some .local:=by first | exact .inl rfl | exact .inr rfl | assumption):PG X (.Name x pos) (r9 i):=by
 intro pins s σ H v u Q I r h
 exact wpAny_assign_Name (pq I hN hi hx r (fun s' I'=>⟨_,H,I',h⟩) hf)
noncomputable def CA:TGs:=fun vs σ H Q=>vs=[]∧Q σ H
noncomputable def Bq (t:TG)(u:TGs):TGs:=fun vs σ H Q=>∃ v r,vs=v::r∧t v σ H fun σ' H'=>u r σ' H' Q
theorem kU:PGs X [] CA:=by
 intro pins s σ H vs us Q I r h
 obtain⟨e,h⟩:=h
 subst e
 cases r
 exact assignInOrder_nil ⟨σ,H,I,h⟩
theorem dS {e:Expr}{es:List Expr}{t:TG}{u:TGs}(h1:PG X e t)(h2:PGs X es u)
  (hs:(assignEach (e::es) X.env).map (·.2)=assign e X.env::(assignEach es X.env).map (·.2):=by rfl):PGs X (e::es) (Bq t u):=by
 intro pins s σ H vs us Q I r h
 obtain⟨v,vr,e1,h⟩:=h
 subst e1
 cases r with
 | cons r rr =>
  rw[hs]
  refine assignInOrder_cons (thn (h1 pins s σ H _ _ _ I r h) fun _ s1 ⟨σ1,H1,I1,q1⟩=>?_)
  exact h2 pins s1 σ1 H1 _ _ Q I1 rr q1
noncomputable def Br (K:PySem.W.Frag)(n:Nat)(t:TGs):TG:=fun v σ H Q=>∃ a xs,v=.ref a∧SqT K H a xs∧xs.length=n∧t xs σ H Q
theorem nW {es:List Expr}{k:Nat}{t:TGs}{n:Nat}(hc:X.calm=true)(h:PGs X es t)
  (hn:(assignEach es X.env).length=n:=by rfl) (hst:(assignEach es X.env).findIdx? (·.1)=none:=by rfl):PG X (.Tuple es k pos) (Br X.K n t):=by
 intro pins s σ H v u Q I r hw
 obtain⟨a,xs,e1,hq,hl,hw⟩:=hw
 subst e1
 cases r
 obtain⟨its,rv,ht,hz⟩:=I.tuple hq
 refine assign_Tuple_tuple (I.ok.hd hc) ht (by simp[hn,← hl,rv.length]) hst fun h' hx=>?_
 have I1:Inv X pins σ H { s with heap:=h' }:=I.kept (t':=s.toks) fun b o e=>hx b o (Nat.ne_of_lt (Heap.lt_size e)) e
 exact h pins _ σ H xs _ Q I1 (by simpa using rv) hw
noncomputable def CB (to ti:TE)(t:zO):TG:=fun v σ H Q=>to σ H fun o H1=>ti σ H1 fun i H2=>t o i v H2 fun H3=>Q σ H3
theorem zP {o i:Expr}{to ti:TE}{t:zO}(ho:PE X o to)(hi:PE X i ti)(hs:Bp X t)
  (ha:∀ v,assign (.Subscript o i pos) X.env v=(do
   let ov ← holding [v] (eval o X.env)
   let iv ← holding [v,ov] (eval i X.env)
   standAt pos
   holding [v,ov,iv] (setItem ov iv v)
   release [v,ov,iv] []):=by intro _;rfl):PG X (.Subscript o i pos) (CB to ti t):=by
 intro pins s σ H v u Q I r h
 rw[ha]
 refine wpAny_bind (wpAny_holding (thn (ho pins s σ H _ I h) fun ov s1 ⟨x,H1,I1,r1,q1⟩=>?_))
 refine wpAny_bind (wpAny_holding (thn (hi pins s1 σ H1 _ I1 q1) fun iv s2 ⟨y,H2,I2,r2,q2⟩=>?_))
 refine wpAny_bind (wpAny_standAt (wpAny_bind (wpAny_holding (thn (hs pins s2 σ H2 x y v ov iv u _ I2 r1 r2 r q2) fun _ s3 ⟨H3,I3,q3⟩=>?_))))
 exact wpAny_release ⟨σ,H3,I3,q3⟩
noncomputable def zQ (te:TE)(g:TG):TS:=fun D σ H=>te σ H fun x H1=>g x σ H1 D.nx
theorem zR {tg e:Expr}{te:TE}{g:TG}(he:PE X e te)(hg:PG X tg g)(hs:swapsWithSole [tg] e pos.line X.env=pure false:=by rfl)(hw:swappedStores [tg] e X.env=pure none:=by rfl)
  (h1:(assignEach [tg] X.env).map (·.2)=[assign tg X.env]:=by rfl):PS X (.Assign [tg] e pos) (zQ te g):=by
 intro pins s σ H D I h
 refine wpAny_Assign_stores (thn (he pins s σ H _ I h) fun v s1 ⟨x,H1,I1,r1,q1⟩=>?_) hs hw
 rw[h1]
 exact thn (hg pins s1 σ H1 x v _ I1 r1 q1) fun _ s2 q=>q
theorem aB {i:Nat}{x:Str}{e:Expr}{te:TE}{pos':Pos}(hN:X.N.Nodup)(hi:X.N[i]?=some x)(hx:Loc X.env.scope x)(he:PE X e te)(hs:swapsWith e (some (.Name x pos')) pos.line X.env=pure false:=by rfl)(hf:X.fn x=true∨X.env.scope.names.lookup x=some .local:=by first | exact .inl rfl | exact .inr rfl | assumption) :
  PS X (.Assign [.Name x pos'] e pos) (zQ te (r9 i)):=by
 intro pins s σ H D I h
 refine wpAny_Assign_Name (thn (he pins s σ H _ I h) fun v s1 ⟨y,H1,I1,r1,q1⟩=>?_) hs
 exact pq I1 hN hi hx r1 (fun s2 I2=>⟨_,H1,I2,q1⟩) hf
end

section
variable {X:Cx}{pos:Pos}
noncomputable def zS (c:TT)(tb:TS):TS:=fun D σ H=>∃ W:Nat→St→Hp→Prop,(∃ m,W m σ H)∧∀ m σ H,W m σ H →
 c σ H fun b H1=>if b=true then ∃ N:St→Hp→Prop,(∀ σ' H',N σ' H'→∃ m',m'<m∧W m' σ' H')∧tb { D with nx:=N,ct:=N,bk:=D.nx } σ H1 else D.nx σ H1
theorem jb {c:Expr}{body:List Stmt}{tc:TT}{tb:TS}(hp:PassesOwn (model X.prog X.w) X.A X.env X.xe)(hc:PT X c tc)(hb:PSs X body tb):PS X (.While c body [] pos) (zS tc tb):=by
 intro pins s σ H D I h
 obtain⟨W,⟨m0,w0⟩,turn⟩:=h
 refine wpAny_While (codeAny_whileLoop (fun n s'=>∃ σ' H',Inv X pins σ' H' s'∧W n σ' H') ?_ m0 ⟨σ,H,I,w0⟩)
 rintro n s1 ⟨σ1,H1,I1,w1⟩
 refine wpAny_passesOwn hp (thn (hc pins s1 σ1 H1 _ I1 (turn n σ1 H1 w1)) fun b s2 ⟨H2,I2,q2⟩=>?_)
 cases b with
 | true =>
  obtain⟨N,hN,q2⟩:=q2
  rw[if_pos rfl]
  refine wpAny_passesOwn hp (thn (hb pins s2 σ1 H2 _ I2 q2) fun f s3 q3=>?_)
  cases f with
  | next =>
   obtain⟨σ3,H3,I3,n3⟩:=q3
   obtain⟨m',hm,w3⟩:=hN σ3 H3 n3
   exact⟨m',hm,σ3,H3,I3,w3⟩
  | cont =>
   obtain⟨σ3,H3,I3,n3⟩:=q3
   obtain⟨m',hm,w3⟩:=hN σ3 H3 n3
   exact⟨m',hm,σ3,H3,I3,w3⟩
  | brk=>exact q3
  | ret v=>exact q3
 | false =>
  rw[if_neg Bool.false_ne_true]
  exact wpAny_execs_nil ⟨σ1,H2,I2,q2⟩
end

structure It where
 go:Nat→Hp→Prop
 yld:Nat→Hp→V→Hp→Prop
 stop:Nat→Hp→Prop
noncomputable def jQ (X:Cx)(pins:List (Addr×Obj))(H:Hp)(b:Addr):Prop :=
 H b=none∧b≠X.env.locals∧b ∉ X.fs∧(b∈X.ex∨X.s₀.heap.objs.size≤b)∧(∀ x c,X.env.cells.lookup x=some c→c≠b)∧∀ p∈X.pn++pins,p.1≠b
theorem Inv.mw {X:Cx}{pins:List (Addr×Obj)}{σ:St}{H H':Hp}{s:Shared}{b:Addr}(I:Inv X pins σ H s)(hb:s.heap.objs.size≤b)(hn:H' b=none):jQ X pins H' b:=by
 refine⟨hn,Nat.ne_of_gt (Nat.lt_of_lt_of_le I.lt hb),I.Cq hb,.inr (Nat.le_trans I.sz hb),fun x c e z=>?_,fun p hp z=>?_⟩
 ·obtain⟨v,q⟩:=I.cell x c e
  exact absurd (Nat.lt_of_lt_of_le q.lt (by rw[z];exact hb)) (Nat.lt_irrefl _)
 ·exact absurd (Nat.lt_of_lt_of_le (Heap.lt_size (I.pin p hp).1) (by rw[z];exact hb)) (Nat.lt_irrefl _)
structure Turn (P:Program) (w:World) (K:PySem.W.Frag) (tg:Expr) (J:It) (fp:List Addr) (it:Addr) (tn:Nat→Heap→Prop):Prop where
 mem:it∈fp
 obj:∀ i h,tn i h→∀ b∈fp,∃ o,h.get? b=some o∧∀ v,o.data≠.cell v
 keep:∀ i h h',tn i h→(∀ b∈fp,∀ o,h.get? b=some o→h'.get? b=some o)→tn i h'
 item:∀ (X:Cx),X.prog=P→X.w=w→X.K=K→X.calm=true→∀ (i:Nat) (pins:List (Addr×Obj)) (s:Shared) (σ:St) (H:Hp) (E:Value→Shared→Prop),Inv X pins σ H s→(∀ b∈fp,jQ X pins H b)→tn i s.heap→J.go i H →
  wpAny (model P w) X.A (pyNext (.ref it)) (fun r s1=>∃ u,r=some u ∧
   wpAny (model P w) X.A (letOwnedTupleGo tg (.ref it) u) (fun _ s2=>∃ x H',Inv X pins σ H' s2∧RelV x u∧J.yld i H x H'∧tn (i+1) s2.heap∧∀ b∈fp,H' b=none) E s1) E s
 done:∀ (X:Cx),X.prog=P→X.w=w→X.K=K→X.calm=true→∀ (i:Nat) (pins:List (Addr×Obj)) (s:Shared) (σ:St) (H:Hp) (E:Value→Shared→Prop),Inv X pins σ H s→(∀ b∈fp,jQ X pins H b)→tn i s.heap→J.stop i H →
  wpAny (model P w) X.A (pyNext (.ref it)) (fun r s1=>r=none∧Inv X pins σ H s1) E s
 self:∀ (A:Around) (i:Nat) (s:Shared) (Q:Value→Shared→Prop) (E:Value→Shared→Prop),tn i s.heap→Q (.ref it) s→wpAny (model P w) A (pyIter (.ref it)) Q E s
noncomputable abbrev TI:=St→Hp→(It→Hp→Prop)→Prop
noncomputable def PIE (X:Cx)(pins:List (Addr×Obj))(σ:St)(tg:Expr)(R:It→Hp→Prop)(itv:Value)(s2:Shared):Prop :=
 ∃ (it:Addr) (fp:List Addr) (tn:Nat→Heap→Prop) (J:It) (H':Hp),itv=.ref it∧Inv X pins σ H' s2∧Turn X.prog X.w X.K tg J fp it tn∧tn 0 s2.heap∧(∀ b∈fp,jQ X pins H' b)∧R J H'
noncomputable def PI (X:Cx)(tg iter:Expr)(wi:TI):Prop :=
 ∀ (pins:List (Addr×Obj)) (s:Shared) (σ:St) (H:Hp) (R:It→Hp→Prop),Inv X pins σ H s→wi σ H R →
  wpAny (model X.prog X.w) X.A (eval iter X.env) (fun v s1=>wpAny (model X.prog X.w) X.A (pyIter v) (PIE X pins σ tg R) X.xe s1) X.xe s

theorem mN {M : Model}{A : Around}{E : Value → Shared → Prop}{s : Shared}{tg : Expr}{it : Addr}{u : Value}{o : Obj}{n : String}{vs : Array Value}{Q : Unit → Shared → Prop}(ho : s.heap.get? it=some o)(hc : o.cls=.type n)(hd : o.data=.fields vs)
    (hn : ["enumerate", "zip", "dict_itemiterator", "dict_reverseitemiterator", "odict_iterator", "itertools.zip_longest", "itertools.pairwise"].contains n=false) (hQ : Q () s) : wpAny M A (letOwnedTupleGo tg (.ref it) u) Q E s := by
  unfold letOwnedTupleGo
  cases tg <;> first
    | exact wpAny_pure hQ
    | (cases u <;> first
        | exact wpAny_pure hQ
        | (refine wpAny_bind (wpAny_load ho ?_)
           rw[hc, hd]
           show wpAny M A (if (["enumerate", "zip", "dict_itemiterator", "dict_reverseitemiterator", "odict_iterator", "itertools.zip_longest", "itertools.pairwise"].contains n&&vs[0]? == some (rawInt _))=true then _ else _) Q E s
           rw[if_neg (by intro h; rw[hn, Bool.false_and] at h; cases h)]
           exact wpAny_pure hQ))

noncomputable def Itl (K:PySem.W.Frag)(a:Addr):It :=
 ⟨fun i H=>∃ xs x,SqL K H a xs∧xs[i]?=some x,fun i H x H'=>H'=H∧∀ xs,SqL K H a xs→xs[i]?=some x,fun i H=>∃ xs,SqL K H a xs∧xs.length≤i⟩
noncomputable def Itt (K:PySem.W.Frag)(a:Addr):It :=
 ⟨fun i H=>∃ xs x,SqT K H a xs∧xs[i]?=some x,fun i H x H'=>H'=H∧∀ xs,SqT K H a xs→xs[i]?=some x,fun i H=>∃ xs,SqT K H a xs∧xs.length≤i⟩
noncomputable def Itr (lo:Int)(n:Nat):It:=⟨fun i _=>i<n,fun i H x H'=>H'=H∧x=.int (lo+i),fun i _=>n≤i⟩
theorem tY {P:Program}{w:World}{K:PySem.W.Frag}{tg:Expr}(a it:Addr):Turn P w K tg (Itl K a) [it] it (fun i h=>h.IsListIter it a i) where
 mem:=by simp
 obj:=fun i h st b hb=>by
  have e:b=it:=by simpa using hb
  subst e
  obtain⟨o,e,c,d⟩:=st
  exact⟨o,e,fun v z=>by rw[d] at z;cases z⟩
 keep:=fun i h h' st k=>st.at fun o e=>k it (by simp) o e
 item:=by
  intro X hP hw hK hc i pins s σ H E I hf st hg
  subst hP hw hK
  obtain⟨xs,x,hq,hx⟩:=hg
  obtain⟨its,rv,p,hz⟩:=I.list hq
  obtain⟨u,hu,ru⟩:=rv.get hx
  obtain⟨f0,f1,f2,f3,f4,f5⟩:=hf it (by simp)
  refine wpAny_pyNext_list_item st p.isList (x:=u) (by simpa using hu) fun h' st' sb=>?_
  have I1:Inv X pins σ H { s with heap:=h' }:=I.turned (t':=s.toks) (fun b o hb e=>(sb.2 b hb).trans e) f0 f1 f3 f4 f5
  obtain⟨o,e,c,d⟩:=id st'
  exact⟨u,rfl,mN (s:={ s with heap:=h' }) e c d (by decide) ⟨x,H,I1,ru,⟨rfl,fun ys hy=>by rw[I.pw hy hq];exact hx⟩,st',fun b hb=>(hf b hb).1⟩⟩
 done:=by
  intro X hP hw hK hc i pins s σ H E I hf st hg
  subst hP hw hK
  obtain⟨xs,hq,hx⟩:=hg
  obtain⟨its,rv,p,hz⟩:=I.list hq
  obtain⟨f0,f1,f2,f3,f4,f5⟩:=hf it (by simp)
  have hl:=rv.length
  exact wpAny_pyNext_list_end (I.ok.hd hc) st p.isList (by simp;omega) fun h' eb=>⟨rfl,I.turned (t':=s.toks) (fun b o hb e=>eb b o hb e) f0 f1 f3 f4 f5⟩
 self:=fun _ _ _ _ _ st h=>wpAny_pyIter_listiter st h
theorem qG {P:Program}{w:World}{K:PySem.W.Frag}{tg:Expr}(a it:Addr):Turn P w K tg (Itt K a) [it] it (fun i h=>h.IsTupleIter it a i) where
 mem:=by simp
 obj:=fun i h st b hb=>by
  have e:b=it:=by simpa using hb
  subst e
  obtain⟨o,e,c,d⟩:=st
  exact⟨o,e,fun v z=>by rw[d] at z;cases z⟩
 keep:=fun i h h' st k=>st.at fun o e=>k it (by simp) o e
 item:=by
  intro X hP hw hK hc i pins s σ H E I hf st hg
  subst hP hw hK
  obtain⟨xs,x,hq,hx⟩:=hg
  obtain⟨its,rv,p,hz⟩:=I.tuple hq
  obtain⟨u,hu,ru⟩:=rv.get hx
  obtain⟨f0,f1,f2,f3,f4,f5⟩:=hf it (by simp)
  refine wpAny_pyNext_tuple_item st (show s.heap.IsTuple a its.toArray from p) (x:=u) (by simpa using hu) fun h' st' sb=>?_
  have I1:Inv X pins σ H { s with heap:=h' }:=I.turned (t':=s.toks) (fun b o hb e=>(sb.2 b hb).trans e) f0 f1 f3 f4 f5
  obtain⟨o,e,c,d⟩:=id st'
  exact⟨u,rfl,mN (s:={ s with heap:=h' }) e c d (by decide) ⟨x,H,I1,ru,⟨rfl,fun ys hy=>by rw[I.tX hy hq];exact hx⟩,st',fun b hb=>(hf b hb).1⟩⟩
 done:=by
  intro X hP hw hK hc i pins s σ H E I hf st hg
  subst hP hw hK
  obtain⟨xs,hq,hx⟩:=hg
  obtain⟨its,rv,p,hz⟩:=I.tuple hq
  obtain⟨f0,f1,f2,f3,f4,f5⟩:=hf it (by simp)
  have hl:=rv.length
  exact wpAny_pyNext_tuple_end (I.ok.hd hc) st (show s.heap.IsTuple a its.toArray from p) (by simp;omega) fun h' eb=>⟨rfl,I.turned (t':=s.toks) (fun b o hb e=>eb b o hb e) f0 f1 f3 f4 f5⟩
 self:=fun _ _ _ _ _ st h=>wpAny_pyIter_tupleiter st h
theorem qH {P:Program}{w:World}{K:PySem.W.Frag}{tg:Expr}(it:Addr)(lo:Int)(n:Nat):Turn P w K tg (Itr lo n) [it] it (fun i h=>IsRangeIter h it (lo+(i:Nat)*1) ((n:Int)-(i:Nat)) 1) where
 mem:=by simp
 obj:=fun i h st b hb=>by
  have e:b=it:=by simpa using hb
  subst e
  exact⟨_,st,fun v z=>by
   have z':Data.fields _=Data.cell v:=z
   cases z'⟩
 keep:=fun i h h' st k=>k it (by simp) _ st
 item:=by
  intro X hP hw hK hc i pins s σ H E I hf st hg
  subst hP hw hK
  obtain⟨f0,f1,f2,f3,f4,f5⟩:=hf it (by simp)
  have W:=Walks.range (prog:=X.prog) (w:=X.w) (I.ok.hd hc) it lo 1 n
  refine W.item i s _ _ hg st fun v h' tk hv st' kk=>?_
  obtain⟨t,rfl⟩:=hv
  have I1:Inv X pins σ H { s with heap:=h',toks:=tk }:=I.turned (fun b o hb e=>kk b o (by simpa using hb) e) f0 f1 f3 f4 f5
  refine⟨_,rfl,mN (s:={ s with heap:=h',toks:=tk }) (n:="range_iterator") st' rfl rfl (by decide) ⟨.int (lo+i),H,I1,⟨t,?_⟩,⟨rfl,rfl⟩,st',fun b hb=>(hf b hb).1⟩⟩
  rw[Int.mul_one]
 done:=by
  intro X hP hw hK hc i pins s σ H E I hf st hg
  subst hP hw hK
  obtain⟨f0,f1,f2,f3,f4,f5⟩:=hf it (by simp)
  exact wpAny_pyNext_range_end (I.ok.hd hc) st (by have:n≤i:=hg;omega) fun h' eb=>⟨rfl,I.turned (t':=s.toks) (fun b o hb e=>eb b o hb e) f0 f1 f3 f4 f5⟩
 self:=fun _ _ _ _ _ st h=>wpAny_pyIter_rangeiter st h
end L2

namespace L2
open PySem PySem.Spec PyProof.Rows
section
variable {X:Cx}{tg:Expr}
noncomputable def zg (K:PySem.W.Frag)(tl:TE):TI:=fun σ H R=>tl σ H fun x H1=>∃ a,x=.ref a∧(∃ xs,SqL K H1 a xs)∧R (Itl K a) H1
noncomputable def CD (K:PySem.W.Frag)(tl:TE):TI:=fun σ H R=>tl σ H fun x H1=>∃ a,x=.ref a∧(∃ xs,SqT K H1 a xs)∧R (Itt K a) H1
theorem aM {l:Expr}{tl:TE}(hl:PE X l tl):PI X tg l (zg X.K tl):=by
 intro pins s σ H R I h
 refine thn (hl pins s σ H _ I h) fun v s1 ⟨x,H1,I1,r1,q1⟩=>?_
 obtain⟨a,e,⟨xs,hq⟩,q⟩:=q1
 subst e
 cases r1
 obtain⟨its,rv,p,hz⟩:=I1.list hq
 refine wpAny_pyIter_list p.isList ?_
 refine⟨s1.heap.objs.size,[s1.heap.objs.size],_,_,H1,rfl,I1.kept (t':=s1.toks) fun b o e=>Heap.get?_push_of_some _ e,tY a _,⟨_,Heap.get?_push_size _ rfl,rfl,rfl⟩,fun b hb=>?_,q⟩
 have e:b=s1.heap.objs.size:=by simpa using hb
 subst e
 exact I1.mw (Nat.le_refl _) (I1.hok.fresh (Nat.le_refl _))
theorem zT {l:Expr}{tl:TE}(hl:PE X l tl):PI X tg l (CD X.K tl):=by
 intro pins s σ H R I h
 refine thn (hl pins s σ H _ I h) fun v s1 ⟨x,H1,I1,r1,q1⟩=>?_
 obtain⟨a,e,⟨xs,hq⟩,q⟩:=q1
 subst e
 cases r1
 obtain⟨its,rv,p,hz⟩:=I1.tuple hq
 refine wpAny_pyIter_tuple (show s1.heap.IsTuple a its.toArray from p) ?_
 refine⟨s1.heap.objs.size,[s1.heap.objs.size],_,_,H1,rfl,I1.kept (t':=s1.toks) fun b o e=>Heap.get?_push_of_some _ e,qG a _,⟨_,Heap.get?_push_size _ rfl,rfl,rfl⟩,fun b hb=>?_,q⟩
 have e:b=s1.heap.objs.size:=by simpa using hb
 subst e
 exact I1.mw (Nat.le_refl _) (I1.hok.fresh (Nat.le_refl _))
theorem pz {pins:List (Addr×Obj)}{σ:St}{H:Hp}{s:Shared}{R:It→Hp→Prop}{E:Value→Shared→Prop}{lo hi:Int}{t u v:Tok}{tk:Nat}(I:Inv X pins σ H s)(h1:-(2 ^ 62)≤lo)(h2:lo<2 ^ 62)(h3:-(2 ^ 62)≤hi)(h4:hi<2 ^ 62)
  (q:R (Itr lo (hi-lo).toNat) H):wpAny (model X.prog X.w) X.A (pyIter (.ref s.heap.objs.size)) (PIE X pins σ tg R) E { s with heap:=s.heap.push { cls:=.type "range",data:=.fields #[.int lo t,.int hi u,.int 1 v] },toks:=tk }:=by
 refine wpAny_pyIter_range (IsRange.new ..) (small_one h1 h2 h3 h4) ?_
 have I1:Inv X pins σ H { s with heap:=s.heap.push { cls:=.type "range",data:=.fields #[.int lo t,.int hi u,.int 1 v] },toks:=tk }:=I.kept fun b o e=>Heap.get?_push_of_some _ e
 refine⟨(s.heap.push { cls:=.type "range",data:=.fields #[.int lo t,.int hi u,.int 1 v] }).objs.size,[(s.heap.push { cls:=.type "range",data:=.fields #[.int lo t,.int hi u,.int 1 v] }).objs.size],_,_,H,rfl,
  I1.kept (t':=tk) fun b o e=>Heap.get?_push_of_some _ e,qH _ lo (hi-lo).toNat,?_,fun b hb=>?_,q⟩
 ·have e1:lo+((0:Nat):Int)*1=lo:=by simp
  have e2:(((hi-lo).toNat:Nat):Int)-((0:Nat):Int)=Builtin.Range.rangeSize lo hi 1:=by rw[rangeSize_one];split <;> omega
  show IsRangeIter _ _ (lo+((0:Nat):Int)*1) ((((hi-lo).toNat:Nat):Int)-((0:Nat):Int)) 1
  rw[e1,e2]
  exact Heap.get?_push_size _ rfl
 ·have e:b=(s.heap.push { cls:=.type "range",data:=.fields #[.int lo t,.int hi u,.int 1 v] }).objs.size:=by simpa using hb
  subst e
  exact I1.mw (Nat.le_refl _) (I1.hok.fresh (Nat.le_refl _))
noncomputable def Bs (ta:TA):TI:=fun σ H R=>ta σ H fun vs H1=>∃ j:Int,vs=[.int j]∧-(2 ^ 62)≤j∧j<2 ^ 62∧R (Itr 0 j.toNat) H1
noncomputable def Bt (ta:TA):TI:=fun σ H R=>ta σ H fun vs H1=>∃ i j:Int,vs=[.int i,.int j]∧(-(2 ^ 62)≤i∧i<2 ^ 62∧-(2 ^ 62)≤j∧j<2 ^ 62)∧R (Itr i (j-i).toNat) H1
theorem fV {a:Expr}{ta:TA}{p pos:Pos}(hg:Gl X "range")(hm:X.mg "range" = none)(ha:PA X [a] ta)(hs:starEach [a] X.env=[(false,eval a X.env)]:=by rfl):PI X tg (.Call (.Name "range" p) [a] [] pos) (Bs ta):=by
 intro pins s σ H R I h
 refine Call_ (gv I hg hm boot_range (PyProof.Rows.callWith_type1 (thn (ha pos pins s σ H _ I h) fun us s1 ⟨vs,H1,I1,r1,q1⟩=>?_) hs rfl))
 obtain⟨j,e,q1,q2,q⟩:=q1
 subst e
 cases r1 with
 | cons r rr =>
  cases rr
  obtain⟨t,rfl⟩:=r
  exact call_range_1 (pz I1 (by omega) (by omega) q1 q2 (by simpa using q))
theorem ij {a b:Expr}{ta:TA}{p pos:Pos}(hg:Gl X "range")(hm:X.mg "range" = none)(ha:PA X [a,b] ta)(hs:starEach [a,b] X.env=[(false,eval a X.env),(false,eval b X.env)]:=by rfl)(hs2:starEach [b] X.env=[(false,eval b X.env)]:=by rfl) :
  PI X tg (.Call (.Name "range" p) [a,b] [] pos) (Bt ta):=by
 intro pins s σ H R I h
 refine Call_ (gv I hg hm boot_range (PyProof.Rows.callWith_type1 (thn (ha pos pins s σ H _ I h) fun us s1 ⟨vs,H1,I1,r1,q1⟩=>?_) (by rw[hs,hs2]) (by rw[hs2];rfl)))
 obtain⟨i,j,e,⟨q1,q2,q3,q4⟩,q⟩:=q1
 subst e
 cases r1 with
 | cons r rr =>
  cases rr with
  | cons r' rr =>
   cases rr
   obtain⟨t,rfl⟩:=r
   obtain⟨t',rfl⟩:=r'
   exact call_range_2 (pz I1 q1 q2 q3 q4 q)

noncomputable def CF (wi:TI)(g:TG)(tb:TS):TS:=fun D σ H=>wi σ H fun J H1=>∃ W:Nat→Nat→St→Hp→Prop,(∃ m,W 0 m σ H1)∧∀ i m σ H,W i m σ H →
 (J.stop i H∧D.nx σ H)∨(J.go i H∧∃ N:St→Hp→Prop,(∀ σ' H',N σ' H'→∃ m',m'<m∧W (i+1) m' σ' H')∧∀ x H',J.yld i H x H'→g x σ H' fun σ2 H2=>tb { D with nx:=N,ct:=N,bk:=D.nx } σ2 H2)
noncomputable def jR (fp:List Addr)(h:Heap):List (Addr×Obj):=fp.filterMap fun b=>(h.get? b).map fun o=>(b,o)
theorem dC {fp:List Addr}{h:Heap}{b:Addr}{o:Obj}(hb:b∈fp)(e:h.get? b=some o):(b,o)∈jR fp h:=List.mem_filterMap.mpr ⟨b,hb,by rw[e];rfl⟩
theorem tZ {fp:List Addr}{h:Heap}{p:Addr×Obj}(hp:p∈jR fp h):p.1∈fp∧h.get? p.1=some p.2:=by
 obtain⟨b,hb,e⟩:=List.mem_filterMap.mp hp
 cases q:h.get? b with
 | none=>rw[q] at e;cases e
 | some o =>
  rw[q] at e
  have e':(b,o)=p:=Option.some.inj e
  subst e'
  exact⟨hb,q⟩
theorem Inv.pinned {pins:List (Addr×Obj)}{σ:St}{H:Hp}{s:Shared}{fp:List Addr}(I:Inv X pins σ H s)(hf:∀ b∈fp,jQ X pins H b)(ho:∀ b∈fp,∃ o,s.heap.get? b=some o∧∀ v,o.data≠.cell v):Inv X (pins++jR fp s.heap) σ H s :=
 I.rY fun p hp=>(List.mem_append.mp hp).elim (fun z=>I.pin p (List.mem_append_right _ z)) fun z=>by
  obtain⟨hb,e⟩:=tZ z
  obtain⟨f0,f1,f2,_⟩:=hf p.1 hb
  obtain⟨o,e',d⟩:=ho p.1 hb
  rw[e] at e';cases e'
  exact⟨e,f0,f1,f2,d⟩
theorem Inv.gQ {pins pl:List (Addr×Obj)}{σ:St}{H:Hp}{s:Shared}(I:Inv X (pins++pl) σ H s):Inv X pins σ H s:=I.rY fun p hp=>I.pin p (List.mem_append_right _ (List.mem_append_left _ hp))
theorem bq {iter:Expr}{body:List Stmt}{wi:TI}{g:TG}{tb:TS}{pos:Pos}(hp:PassesOwn (model X.prog X.w) X.A X.env X.xe)(hc:X.calm=true)(hi:PI X tg iter wi)(hg:PG X tg g)(hb:PSs X body tb)
  (hs:∀ x,foldedSetIterable iter X.env x=pure x:=by intro _;rfl):PS X (.For tg iter body [] pos) (CF wi g tb):=by
 intro pins s σ H D I h
 refine wpAny_For (thn (hi pins s σ H _ I h) fun v s1 h1=>thn h1 fun itv s2 h2=>?_) hs
 obtain⟨it,fp,tn,J,H2,e,I2,T,st2,f2,W,⟨m0,w0⟩,turn⟩:=h2
 subst e
 have k9:∀ {H':Hp},(∀ b∈fp,H' b=none)→∀ b∈fp,jQ X pins H' b:=fun hn b hb=>⟨hn b hb,(f2 b hb).2⟩
 refine codeAny_forLoop_any (fun n s'=>∃ i σ' H',Inv X pins σ' H' s'∧tn i s'.heap∧(∀ b∈fp,H' b=none)∧W i n σ' H') ?_ m0 ⟨0,σ,H2,I2,st2,fun b hb=>(f2 b hb).1,w0⟩
 rintro n s3 ⟨i,σ3,H3,I3,st3,fr3,w3⟩
 rcases turn i n σ3 H3 w3 with ⟨stop,qn⟩ | ⟨go,N,hN,step⟩
 ·refine wpAny_passesOwn hp (thn (T.done X rfl rfl rfl hc i pins s3 σ3 H3 X.xe I3 (k9 fr3) st3 stop) fun r s4 ⟨hr,I4⟩=>?_)
  subst hr
  exact wpAny_execs_nil ⟨σ3,H3,I4,qn⟩
 ·refine wpAny_passesOwn hp (thn (T.item X rfl rfl rfl hc i pins s3 σ3 H3 X.xe I3 (k9 fr3) st3 go) fun r s4 ⟨u,hr,h4⟩=>?_)
  subst hr
  refine wpAny_passesOwn hp (thn h4 fun _ s5 ⟨x,H5,I5,r5,y5,st5,fr5⟩=>?_)
  have I5':=I5.pinned (k9 fr5) (T.obj _ _ st5)
  refine wpAny_passesOwn hp (thn (hg _ s5 σ3 H5 x u _ I5' r5 (step x H5 y5)) fun _ s6 ⟨σ6,H6,I6,q6⟩=>?_)
  refine wpAny_passesOwn hp (thn (hb _ s6 σ6 H6 _ I6 q6) fun f s7 q7=>?_)
  have again:∀ {σ7:St} {H7:Hp},Inv X (pins++jR fp s5.heap) σ7 H7 s7→N σ7 H7→∃ m,m<n∧∃ i σ' H',Inv X pins σ' H' s7∧tn i s7.heap∧(∀ b∈fp,H' b=none)∧W i m σ' H':=fun {σ7 H7} I7 n7=>by
   obtain⟨m',hm,w7⟩:=hN σ7 H7 n7
   refine⟨m',hm,i+1,σ7,H7,I7.gQ,T.keep _ _ _ st5 fun b hb o e=>(I7.pin (b,o) (List.mem_append_right _ (List.mem_append_right _ (dC hb e)))).1,fun b hb=>?_,w7⟩
   obtain⟨o,e,d⟩:=T.obj _ _ st5 b hb
   exact(I7.pin (b,o) (List.mem_append_right _ (List.mem_append_right _ (dC hb e)))).2.1
  cases f with
  | next=>obtain⟨σ7,H7,I7,n7⟩:=q7;exact again I7 n7
  | cont=>obtain⟨σ7,H7,I7,n7⟩:=q7;exact again I7 n7
  | brk=>obtain⟨σ7,H7,I7,q7⟩:=q7;exact⟨σ7,H7,I7.gQ,q7⟩
  | ret v=>obtain⟨x7,σ7,H7,I7,r7,q7⟩:=q7;exact⟨x7,σ7,H7,I7.gQ,r7,q7⟩
end

theorem bo {K:PySem.W.Frag}{a:Addr}{xs:List V}{g:TG}{tb:TS}{D:Ends}{σ:St}{H:Hp}(Pv:Nat→St→Hp→Prop)(h0:Pv 0 σ H)(hl:∀ i σ H,i≤xs.length→Pv i σ H→SqL K H a xs)
  (hs:∀ i x σ H,xs[i]?=some x→Pv i σ H→g x σ H fun σ2 H2=>tb { D with nx:=Pv (i+1),ct:=Pv (i+1),bk:=D.nx } σ2 H2) (hd:∀ σ H,Pv xs.length σ H→D.nx σ H) :
  ∃ W:Nat→Nat→St→Hp→Prop,(∃ m,W 0 m σ H)∧∀ i m σ H,W i m σ H →
   ((Itl K a).stop i H∧D.nx σ H)∨((Itl K a).go i H∧∃ N:St→Hp→Prop,(∀ σ' H',N σ' H'→∃ m',m'<m∧W (i+1) m' σ' H')∧∀ x H',(Itl K a).yld i H x H'→g x σ H' fun σ2 H2=>tb { D with nx:=N,ct:=N,bk:=D.nx } σ2 H2):=by
 refine⟨fun i m σ H=>m=xs.length-i∧i≤xs.length∧Pv i σ H,⟨xs.length,by simp,Nat.zero_le _,h0⟩,?_⟩
 rintro i m σ H ⟨rfl,hi,p⟩
 have q:=hl i σ H hi p
 by_cases hlt:i<xs.length
 ·refine .inr ⟨⟨xs,xs[i],q,by simp[hlt]⟩,Pv (i+1),fun σ' H' p'=>⟨xs.length-(i+1),by omega,rfl,hlt,p'⟩,fun x H' y=>?_⟩
  obtain⟨e,y⟩:=y
  subst e
  exact hs i x σ _ (y xs q) p
 ·have e:i=xs.length:=by omega
  subst e
  exact .inl ⟨⟨xs,q,Nat.le_refl _⟩,hd σ H p⟩
theorem eZ {lo:Int}{n:Nat}{g:TG}{tb:TS}{D:Ends}{σ:St}{H:Hp}(Pv:Nat→St→Hp→Prop)(h0:Pv 0 σ H)
  (hs:∀ i σ H,i<n→Pv i σ H→g (.int (lo+i)) σ H fun σ2 H2=>tb { D with nx:=Pv (i+1),ct:=Pv (i+1),bk:=D.nx } σ2 H2) (hd:∀ σ H,Pv n σ H→D.nx σ H) :
  ∃ W:Nat→Nat→St→Hp→Prop,(∃ m,W 0 m σ H)∧∀ i m σ H,W i m σ H →
   ((Itr lo n).stop i H∧D.nx σ H)∨((Itr lo n).go i H∧∃ N:St→Hp→Prop,(∀ σ' H',N σ' H'→∃ m',m'<m∧W (i+1) m' σ' H')∧∀ x H',(Itr lo n).yld i H x H'→g x σ H' fun σ2 H2=>tb { D with nx:=N,ct:=N,bk:=D.nx } σ2 H2):=by
 refine⟨fun i m σ H=>m=n-i∧i≤n∧Pv i σ H,⟨n,by simp,Nat.zero_le _,h0⟩,?_⟩
 rintro i m σ H ⟨rfl,hi,p⟩
 by_cases hlt:i<n
 ·refine .inr ⟨hlt,Pv (i+1),fun σ' H' p'=>⟨n-(i+1),by omega,rfl,hlt,p'⟩,fun x H' y=>?_⟩
  obtain⟨e,y⟩:=y
  subst e y
  exact hs i σ _ hlt p
 ·have e:i=n:=by omega
  subst e
  exact .inl ⟨Nat.le_refl _,hd σ H p⟩
end L2

namespace L2
open PySem PySem.Spec PyProof.Rows

noncomputable abbrev R2:=V→V→Hp→VK→Prop
noncomputable def OpR (X:Cx)(f:Value→Value→Sem Value)(r:R2):Prop :=
 ∀ (pins:List (Addr×Obj)) (s:Shared) (σ:St) (H:Hp) (x y:V) (v u:Value) (Q:VK),Inv X pins σ H s→RelV x v→RelV y u→r x y H Q →
  wpAny (model X.prog X.w) X.A (f v u) (EP X pins σ Q) X.xe s
noncomputable def UnR (X:Cx)(f:Value→Sem Value)(r:V→Hp→VK→Prop):Prop :=
 ∀ (pins:List (Addr×Obj)) (s:Shared) (σ:St) (H:Hp) (x:V) (v:Value) (Q:VK),Inv X pins σ H s→RelV x v→r x H Q →
  wpAny (model X.prog X.w) X.A (f v) (EP X pins σ Q) X.xe s
noncomputable def eO (X:Cx)(f:Value)(r:List V→Hp→VK→Prop):Prop :=
 ∀ (pins:List (Addr×Obj)) (s:Shared) (σ:St) (H:Hp) (xs:List V) (us:List Value) (Q:VK),Inv X pins σ H s→Vals xs us→r xs H Q →
  wpAny (model X.prog X.w) X.A (call f us) (EP X pins σ Q) X.xe s
noncomputable def tOp (r:R2)(ta tb:TE):TE:=fun σ H Q=>ta σ H fun x H1=>tb σ H1 fun y H2=>r x y H2 Q
noncomputable def tUn (r:V→Hp→VK→Prop)(ta:TE):TE:=fun σ H Q=>ta σ H fun x H1=>r x H1 Q
noncomputable def rI (C:Int→Int→Prop)(g:Int→Int→V):R2:=fun x y H Q=>∃ i j,x=.int i∧y=.int j∧C i j∧Q (g i j) H
noncomputable def rI0 (g:Int→Int→V):R2:=fun x y H Q=>∃ i j,x=.int i∧y=.int j∧Q (g i j) H
noncomputable def rU (g:Int→V):V→Hp→VK→Prop:=fun x H Q=>∃ i,x=.int i∧Q (g i) H

section
variable {X:Cx}{a b c:Expr}{ta tb tc:TE}{pos:Pos}

theorem zU (ha:PE X a ta)(hb:PE X b tb){pins:List (Addr×Obj)}{s:Shared}{σ:St}{H:Hp}{R:V→V→Hp→Prop}(I:Inv X pins σ H s)
  (h:ta σ H fun x H1=>tb σ H1 fun y H2=>R x y H2) {Q:Value→Shared→Prop} {f:Value→Value→Sem Value}
  (hf:∀ v u s2 x y H2,Inv X pins σ H2 s2→RelV x v→RelV y u→R x y H2→wpAny (model X.prog X.w) X.A (f v u) Q X.xe s2) :
  wpAny (model X.prog X.w) X.A (eval a X.env) (fun v s₁=>wpAny (model X.prog X.w) X.A (eval b X.env) (fun u s₂=>wpAny (model X.prog X.w) X.A (f v u) Q X.xe s₂) X.xe s₁) X.xe s:=by
 refine thn (ha pins s σ H _ I h) fun v s1 ⟨x,H1,I1,r1,q1⟩=>?_
 refine thn (hb pins s1 σ H1 _ I1 q1) fun u s2 ⟨y,H2,I2,r2,q2⟩=>?_
 exact hf v u s2 x y H2 I2 r1 r2 q2

theorem aD {op:Operator}{r:R2}(ho:OpR X (binaryOp op) r)(ha:PE X a ta)(hb:PE X b tb):PE X (.BinOp a op b pos) (tOp r ta tb):=by
 intro pins s σ H Q I h
 exact wpAny_BinOp (zU ha hb I h fun v u s2 x y H2 I2 rx ry q=>ho pins s2 σ H2 x y v u Q I2 rx ry q)
theorem mO {op:UnaryOp}{r:V→Hp→VK→Prop}(ho:UnR X (unaryOp op) r)(ha:PE X a ta):PE X (.UnaryOp op a pos) (tUn r ta):=by
 intro pins s σ H Q I h
 exact UnaryOp_ (thn (ha pins s σ H _ I h) fun v s1 ⟨x,H1,I1,r1,q1⟩=>ho pins s1 σ H1 x v Q I1 r1 q1)
theorem opI {f:Value→Value→Sem Value}{C:Int→Int→Prop}{g:Int→Int→Int}
  (rule:∀ (i j:Int) (t u:Tok) (s:Shared) (Q:Value→Shared→Prop) (E:Value→Shared→Prop),C i j→Q (.int (g i j) s.toks) { s with toks:=s.toks+1 }→wpAny (model X.prog X.w) X.A (f (.int i t) (.int j u)) Q E s) :
  OpR X f (rI C fun i j=>.int (g i j)):=by
 intro pins s σ H x y v u Q I rx ry h
 obtain⟨i,j,rfl,rfl,hc,q⟩:=h
 obtain⟨t,rfl⟩:=rx
 obtain⟨t',rfl⟩:=ry
 exact rule i j t t' s _ _ hc ⟨.int (g i j),H,I.tok _,⟨_,rfl⟩,q⟩
theorem Bu {f:Value→Value→Sem Value}{g:Int→Int→Int}
  (rule:∀ (i j:Int) (t u:Tok) (s:Shared) (Q:Value→Shared→Prop) (E:Value→Shared→Prop),Q (.int (g i j) s.toks) { s with toks:=s.toks+1 }→wpAny (model X.prog X.w) X.A (f (.int i t) (.int j u)) Q E s) :
  OpR X f (rI0 fun i j=>.int (g i j)):=by
 intro pins s σ H x y v u Q I rx ry h
 obtain⟨i,j,rfl,rfl,q⟩:=h
 obtain⟨t,rfl⟩:=rx
 obtain⟨t',rfl⟩:=ry
 exact rule i j t t' s _ _ ⟨.int (g i j),H,I.tok _,⟨_,rfl⟩,q⟩
theorem zV {f:Value→Value→Sem Value}{g:Int→Int→Bool}
  (rule:∀ (i j:Int) (t u:Tok) (s:Shared) (Q:Value→Shared→Prop) (E:Value→Shared→Prop),Q (.bool (g i j)) s→wpAny (model X.prog X.w) X.A (f (.int i t) (.int j u)) Q E s) :
  OpR X f (rI0 fun i j=>.bl (g i j)):=by
 intro pins s σ H x y v u Q I rx ry h
 obtain⟨i,j,rfl,rfl,q⟩:=h
 obtain⟨t,rfl⟩:=rx
 obtain⟨t',rfl⟩:=ry
 exact rule i j t t' s _ _ ⟨.bl (g i j),H,I,rfl,q⟩

noncomputable def CG (i j:Int):Prop:=0<j∧j<1073741824
noncomputable def CI (i j:Int):Prop:=0≤j∧j≤1000000∧i.natAbs<2 ^ 64
noncomputable def xN (i j:Int):Prop:=(-(2 ^ 64)<i∧i<2 ^ 64)∨(-(2 ^ 64)<j∧j<2 ^ 64)
theorem xN.ok {i j:Int}(h:xN i j):IntMulOk i j:=by
 rcases h with ⟨h1,h2⟩ | ⟨h1,h2⟩
 ·exact .of_left (intBits_le_64 h1 h2)
 ·exact .of_right (intBits_le_64 h1 h2)
theorem aX:OpR X (binaryOp .Add) (rI0 fun i j=>.int (i+j)):=Bu fun _ _ _ _ _ _ _ q=>add_int q
theorem iO:OpR X (binaryOp .Sub) (rI0 fun i j=>.int (i-j)):=Bu fun _ _ _ _ _ _ _ q=>sub_int q
theorem qJ:OpR X (binaryOp .Mult) (rI xN fun i j=>.int (i*j)):=opI fun _ _ _ _ _ _ _ hc q=>mul_int q hc.ok
theorem dM:OpR X (binaryOp .FloorDiv) (rI CG fun i j=>.int (i/j)):=opI fun i j _ _ _ _ _ hc q=>by
 have h1:(0:Int)<j:=hc.1
 have h2:j<1073741824:=hc.2
 exact floordiv_int (by omega) (by rw[Int.fdiv_eq_ediv_of_nonneg i (by omega)];exact q) (.inl (PyProof.noPylong_small (by omega)))
theorem bM:OpR X (binaryOp .Mod) (rI (fun _ j=>0<j) fun i j=>.int (i%j)):=opI fun i j _ _ _ _ _ hc q=>by
 have h1:(0:Int)<j:=hc
 exact mod_int' (by omega) (by rw[Int.fmod_eq_emod_of_nonneg i (by omega)];exact q)
theorem uZ:OpR X (binaryOp .Pow) (rI CI fun i j=>.int (i ^ j.toNat)):=opI fun _ _ _ _ _ _ _ hc q=>pow_int_small hc.1 hc.2.1 hc.2.2 q
theorem unI {f:Value→Sem Value}{g:Int→Int}
  (rule:∀ (i:Int) (t:Tok) (s:Shared) (Q:Value→Shared→Prop) (E:Value→Shared→Prop),Q (.int (g i) s.toks) { s with toks:=s.toks+1 }→wpAny (model X.prog X.w) X.A (f (.int i t)) Q E s) :
  UnR X f (rU fun i=>.int (g i)):=by
 intro pins s σ H x v Q I rx h
 obtain⟨i,rfl,q⟩:=h
 obtain⟨t,rfl⟩:=rx
 exact rule i t s _ _ ⟨.int (g i),H,I.tok _,⟨_,rfl⟩,q⟩
theorem jS:UnR X (unaryOp .USub) (rU fun i=>.int (-i)):=unI fun _ _ _ _ _ q=>neg_int q
end

noncomputable def Bv:V→V→Bool
 | .non,.non=>true | .non,.int _=>true | .int _,.non=>true | .non,.bl _=>true | .bl _,.non=>true | .non,.str _=>true | .str _,.non=>true
 | .int _,.int _=>true | .bl _,.bl _=>true | .str _,.str _=>true | .byt _,.byt _=>true
 | .int _,.str _=>true | .str _,.int _=>true | .bl _,.str _=>true | .str _,.bl _=>true
 | _,_=>false
noncomputable def rEq:R2:=fun x y H Q=>Bv x y=true∧Q (.bl (decide (x=y))) H
noncomputable def rNe:R2:=fun x y H Q=>Bv x y=true∧Q (.bl (!decide (x=y))) H

theorem sd {i j:Int}:decide (V.int i=V.int j)=(i == j):=by
 rw[Bool.eq_iff_iff]
 simp
theorem u6 {i j:Bool}:decide (V.bl i=V.bl j)=(i == j):=by
 rw[Bool.eq_iff_iff]
 simp
theorem se {i j:Str}:decide (V.str i=V.str j)=(i == j):=by
 rw[Bool.eq_iff_iff]
 simp
theorem sf {i j:Array UInt8}:decide (V.byt i=V.byt j)=(i.toList == j.toList):=by
 rw[Bool.eq_iff_iff]
 cases i
 cases j
 simp

section
variable {X:Cx}{a b c:Expr}{ta tb tc:TE}{pos:Pos}
theorem a7 {pins:List (Addr×Obj)}{σ:St}{H:Hp}{s:Shared}{Q:VK}{k k':Bool}(I:Inv X pins σ H s)(q:Q (.bl k) H)(e:k=k'):EP X pins σ Q (.bool k') s:=by
 subst e
 exact⟨.bl k,H,I,rfl,q⟩
theorem eP:OpR X (compareOp .Eq) rEq:=by
 intro pins s σ H x y v u Q I rx ry h
 obtain⟨hs,q⟩:=h
 cases x with
 | non =>
  cases rx
  cases y with
  | non=>cases ry;exact PySem.EqNone.eq_none_none (a7 I q (by simp))
  | bl j=>cases ry;exact PySem.EqNone.eq_none_bool (a7 I q (by simp))
  | int j=>obtain⟨t',rfl⟩:=ry;exact PySem.EqNone.eq_none_int (a7 I q (by simp))
  | str j=>obtain⟨t',rfl⟩:=ry;exact PySem.EqNone.eq_none_str (a7 I q (by simp))
  | _=>exact absurd (show false=true from hs) Bool.false_ne_true
 | bl i =>
  cases rx
  cases y with
  | non=>cases ry;exact PySem.EqNone.eq_bool_none (a7 I q (by simp))
  | bl j=>cases ry;exact eq_bool (a7 I q u6)
  | str j=>obtain⟨t',rfl⟩:=ry;exact PySem.EqMixed.eq_bool_str (a7 I q (by simp))
  | _=>exact absurd (show false=true from hs) Bool.false_ne_true
 | int i =>
  obtain⟨t,rfl⟩:=rx
  cases y with
  | non=>cases ry;exact PySem.EqNone.eq_int_none (a7 I q (by simp))
  | int j=>obtain⟨t',rfl⟩:=ry;exact eq_int (a7 I q sd)
  | str j=>obtain⟨t',rfl⟩:=ry;exact PySem.EqMixed.eq_int_str (a7 I q (by simp))
  | _=>exact absurd (show false=true from hs) Bool.false_ne_true
 | str i =>
  obtain⟨t,rfl⟩:=rx
  cases y with
  | non=>cases ry;exact PySem.EqNone.eq_str_none (a7 I q (by simp))
  | bl j=>cases ry;exact PySem.EqMixed.eq_str_bool (a7 I q (by simp))
  | int j=>obtain⟨t',rfl⟩:=ry;exact PySem.EqMixed.eq_str_int (a7 I q (by simp))
  | str j=>obtain⟨t',rfl⟩:=ry;exact eq_str (a7 I q se)
  | _=>exact absurd (show false=true from hs) Bool.false_ne_true
 | byt i =>
  obtain⟨t,rfl⟩:=rx
  cases y with
  | byt j=>obtain⟨t',rfl⟩:=ry;exact PySem.W.eq_bytes (a7 I q sf)
  | _=>exact absurd (show false=true from hs) Bool.false_ne_true
 | _=>cases y <;> exact absurd (show false=true from hs) Bool.false_ne_true
theorem Bw:OpR X (compareOp .NotEq) rNe:=by
 intro pins s σ H x y v u Q I rx ry h
 obtain⟨hs,q⟩:=h
 cases x with
 | non =>
  cases rx
  cases y with
  | non=>cases ry;exact PySem.EqNone.ne_none_none (a7 I q (by simp))
  | bl j=>cases ry;exact PySem.EqNone.ne_none_bool (a7 I q (by simp))
  | int j=>obtain⟨t',rfl⟩:=ry;exact PySem.EqNone.ne_none_int (a7 I q (by simp))
  | str j=>obtain⟨t',rfl⟩:=ry;exact PySem.EqNone.ne_none_str (a7 I q (by simp))
  | _=>exact absurd (show false=true from hs) Bool.false_ne_true
 | bl i =>
  cases rx
  cases y with
  | non=>cases ry;exact PySem.EqNone.ne_bool_none (a7 I q (by simp))
  | bl j=>cases ry;exact ne_bool (a7 I q (congrArg not u6))
  | str j=>obtain⟨t',rfl⟩:=ry;exact PySem.EqMixed.ne_bool_str (a7 I q (by simp))
  | _=>exact absurd (show false=true from hs) Bool.false_ne_true
 | int i =>
  obtain⟨t,rfl⟩:=rx
  cases y with
  | non=>cases ry;exact PySem.EqNone.ne_int_none (a7 I q (by simp))
  | int j=>obtain⟨t',rfl⟩:=ry;exact ne_int (a7 I q (congrArg not sd))
  | str j=>obtain⟨t',rfl⟩:=ry;exact PySem.EqMixed.ne_int_str (a7 I q (by simp))
  | _=>exact absurd (show false=true from hs) Bool.false_ne_true
 | str i =>
  obtain⟨t,rfl⟩:=rx
  cases y with
  | non=>cases ry;exact PySem.EqNone.ne_str_none (a7 I q (by simp))
  | bl j=>cases ry;exact PySem.EqMixed.ne_str_bool (a7 I q (by simp))
  | int j=>obtain⟨t',rfl⟩:=ry;exact PySem.EqMixed.ne_str_int (a7 I q (by simp))
  | str j=>obtain⟨t',rfl⟩:=ry;exact ne_str (a7 I q (congrArg not se))
  | _=>exact absurd (show false=true from hs) Bool.false_ne_true
 | byt i =>
  obtain⟨t,rfl⟩:=rx
  cases y with
  | byt j=>obtain⟨t',rfl⟩:=ry;exact PySem.W.ne_bytes (a7 I q (congrArg not sf))
  | _=>exact absurd (show false=true from hs) Bool.false_ne_true
 | _=>cases y <;> exact absurd (show false=true from hs) Bool.false_ne_true

theorem fW:OpR X (compareOp .Lt) (rI0 fun i j=>.bl (decide (i<j))):=zV fun _ _ _ _ _ _ _ q=>lt_int q
theorem u7:OpR X (compareOp .LtE) (rI0 fun i j=>.bl (decide (i≤j))):=zV fun _ _ _ _ _ _ _ q=>le_int q
theorem ki:OpR X (compareOp .Gt) (rI0 fun i j=>.bl (decide (j<i))):=zV fun _ _ _ _ _ _ _ q=>gt_int q
theorem nX:OpR X (compareOp .IsNot) (fun x y H Q=>y=.non∧Q (.bl (!decide (x=.non))) H):=by
 intro pins s σ H x y v u Q I rx ry h
 obtain⟨rfl,q⟩:=h
 cases ry
 refine isnot_none_gen (a7 I q ?_)
 cases x <;> first
  | (cases rx;rfl)
  | (obtain⟨t,rfl⟩:=rx;rfl)

theorem aI (b:Expr){op:CmpOp}(h:op≠.In:=by decide)(h2:op≠.NotIn:=by decide):behindInMarks op b=false:=by
 have e1:(op == CmpOp.In)=false:=by cases op <;> first | rfl | exact absurd rfl h
 have e2:(op == CmpOp.NotIn)=false:=by cases op <;> first | rfl | exact absurd rfl h2
 cases b <;> simp[behindInMarks,e1,e2]
theorem il {op:CmpOp}{r:R2}(ho:OpR X (compareOp op) r)(ha:PE X a ta)(hb:PE X b tb)(hm:behindInMarks op b=false):PE X (.Compare a [op] [b] pos) (tOp r ta tb):=by
 intro pins s σ H Q I h
 exact wpAny_Compare1 (zU ha hb I h fun v u s2 x y H2 I2 rx ry q=>ho pins s2 σ H2 x y v u Q I2 rx ry q) hm
noncomputable def zh (t:TE):TT:=fun σ H Q=>t σ H fun x H'=>∃ k,x=.bl k∧Q k H'
theorem aE {op:CmpOp}{r:R2}(ho:OpR X (compareOp op) r)(ha:PE X a ta)(hb:PE X b tb)(hm:behindInMarks op b=false):PT X (.Compare a [op] [b] pos) (zh (tOp r ta tb)):=by
 intro pins s σ H Q I h
 refine wpAny_isTrue_Compare1 (thn (ha pins s σ H _ I h) fun v s1 ⟨x,H1,I1,r1,q1⟩=>thn (hb pins s1 σ H1 _ I1 q1) fun u s2 ⟨y,H2,I2,r2,q2⟩ =>
  thn (ho pins s2 σ H2 x y v u _ I2 r1 r2 q2) fun c s3 ⟨z,H3,I3,r3,k,e,q3⟩=>?_) hm
 subst e
 cases r3
 exact wpAny_truthy_bool ⟨H3,I3,q3⟩
noncomputable def zW (r r':R2)(ta tb tc:TE):TE:=fun σ H Q=>ta σ H fun x H1=>tb σ H1 fun y H2=>r x y H2 fun z H3=>∃ k,z=.bl k ∧
 (if k=true then tc σ H3 fun w' H4=>r' y w' H4 Q else Q (.bl false) H3)
theorem u9 {op op':CmpOp}{r r':R2}(ho:OpR X (compareOp op) r)(ho':OpR X (compareOp op') r')(ha:PE X a ta)(hb:PE X b tb)(hc:PE X c tc)
  (hm:lastMarks [op,op'] [b,c]=false:=by with_unfolding_all rfl):PT X (.Compare a [op,op'] [b,c] pos) (zh (zW r r' ta tb tc)):=by
 intro pins s σ H Q I h
 refine isTrue_chain (thn (ha pins s σ H _ I h) fun v s1 ⟨x,H1,I1,r1,q1⟩=>test_link (thn (hb pins s1 σ H1 _ I1 q1) fun u s2 ⟨y,H2,I2,r2,q2⟩ =>
  thn (ho pins s2 σ H2 x y v u _ I2 r1 r2 q2) fun d s3 ⟨z,H3,I3,r3,k,e,q3⟩=>?_)) hm
 subst e
 cases r3
 refine wpAny_truthy_bool ?_
 cases k with
 | false =>
  obtain⟨k',e',q'⟩:=q3
  cases e'
  exact ite_ff ⟨H3,I3,q'⟩
 | true =>
  refine ite_tt (test_last (thn (hc pins s3 σ H3 _ I3 q3) fun w' s4 ⟨z',H4,I4,r4,q4⟩=>thn (ho' pins s4 σ H4 y z' u w' _ I4 r2 r4 q4) fun d' s5 ⟨z2,H5,I5,r5,k2,e2,q5⟩=>?_))
  subst e2
  cases r5
  exact wpAny_truthy_bool ⟨H5,I5,q5⟩

theorem nY:(sizeLine:Nat)<2 ^ 63:=by rw[sizeLine_eq];decide
theorem vals1 {x:V}{us:List Value}(r:Vals [x] us):∃ u,us=[u]∧RelV x u:=by
 cases r with
 | cons r1 r2=>cases r2;exact⟨_,rfl,r1⟩
theorem vals2 {x y:V}{us:List Value}(r:Vals [x,y] us):∃ u w',us=[u,w']∧RelV x u∧RelV y w':=by
 cases r with
 | cons r1 r2 =>
  cases r2 with
  | cons r3 r4=>cases r4;exact⟨_,_,rfl,r1,r3⟩
theorem va:eO X (.builtin "abs") (fun xs H Q=>∃ i,xs=[.int i]∧Q (.int (if i<0 then -i else i)) H):=by
 intro pins s σ H xs us Q I r h
 obtain⟨i,rfl,q⟩:=h
 obtain⟨u,rfl,t,rfl⟩:=vals1 r
 exact call_abs_int fun u tk=>⟨.int (if i<0 then -i else i),H,I.tok _,⟨_,rfl⟩,q⟩
theorem mP (hc:X.calm=true):eO X (.builtin "max") (fun xs H Q=>∃ i j,xs=[.int i,.int j]∧Q (.int (if j>i then j else i)) H):=by
 intro pins s σ H xs us Q I r h
 obtain⟨i,j,rfl,q⟩:=h
 obtain⟨u,w',rfl,⟨t,rfl⟩,⟨t',rfl⟩⟩:=vals2 r
 refine max_two_ints (I.ok.hd hc) fun h' tk k=>⟨_,H,I.kept k,?_,q⟩
 by_cases hj:j>i
 ·rw[if_pos hj,if_pos hj];exact⟨_,rfl⟩
 ·rw[if_neg hj,if_neg hj];exact⟨_,rfl⟩
theorem jT:eO X (.type "int") (fun xs H Q=>(∃ i,xs=[.int i]∧Q (.int i) H)∨∃ k,xs=[.bl k]∧Q (.int (if k then 1 else 0)) H):=by
 intro pins s σ H xs us Q I r h
 rcases h with ⟨i,rfl,q⟩ | ⟨k,rfl,q⟩
 ·obtain⟨u,rfl,t,rfl⟩:=vals1 r
  exact call_int_int ⟨.int i,H,I,⟨_,rfl⟩,q⟩
 ·obtain⟨u,rfl,r1⟩:=vals1 r
  cases r1
  exact call_int_bool ⟨.int (if k then 1 else 0),H,I.tok _,⟨_,rfl⟩,q⟩
end
end L2

namespace L2
open PySem PySem.Spec PyProof.Rows

structure zX (h:Heap) (x dx C:Addr) (mA:Str→Option Value):Prop where
 obj:h.get? x=some (PySem.W.instObj C dx)
 ns:h.Ns1 dx mA
 ne:dx≠x

theorem t4 {h:Heap}{dx:Addr}{mA:Str→Option Value}(n:h.Ns1 dx mA):∃ od,h.get? dx=some od∧∀ name,PySem.W.lookIn name od=some (mA name):=by
 obtain⟨o,es,ep,ho,hd,hk,_,hm⟩:=n
 refine⟨o,ho,fun name=>?_⟩
 have e:=hm name
 unfold nsFind findBy at e
 rw[← Array.find?_toList] at e
 unfold PySem.W.lookIn
 rw[hd]
 dsimp only
 split
 ·rename_i y q
  rw[q] at e
  exact congrArg some e
 ·rename_i q
  rw[q] at e
  have a:es.toList.any (·.refKey)=false:=by
   rw[List.any_eq_false]
   intro y hy
   obtain⟨z,t,mz⟩:=hk y (Array.mem_toList_iff.mp hy)
   simp[DictEntry.refKey,mz]
  have a':¬ es.toList.any (·.refKey)=true:=by rw[a];exact Bool.false_ne_true
  rw[if_neg a']
  exact congrArg some e

theorem zX.look {h:Heap}{x dx C:Addr}{mA:Str→Option Value}(I:zX h x dx C mA):∃ od,PySem.W.InstAt h x (PySem.W.instObj C dx) C (some od)∧∀ name,PySem.W.lookIn name od=some (mA name) :=
 let ⟨od,ho,hl⟩:=t4 I.ns
 ⟨od,⟨I.obj,rfl,rfl,ho⟩,hl⟩


theorem iD.some_of {v:V}{o:Option Value}(r:iD (some v) o):∃ u,o=some u∧RelV v u:=by
 cases o with
 | none=>exact(show False from r).elim
 | some u=>exact⟨u,rfl,r⟩
section
variable {P:Program}{w:World}{H H':Hp}{h h':Heap}{a C dx:Addr}{fs fs':List (Str×V)}
theorem xO (hok:HOk P w H h)(e:H a=some (.ins C dx fs)):∃ mA,zX h a dx C mA∧(∀ f,iD (fs.lookup f) (mA f))∧PySem.Within mA (fs.map (·.1))∧fs.length≤1000∧H dx=some (.own a):=by
 obtain⟨d,z,ne,ob,mA,n,r,q⟩:=(show bb P w H h a (.ins C dx fs) from hok a _ e)
 exact⟨mA,⟨ob,n,ne⟩,r,q,z,d⟩
end

structure Cls (K:PySem.W.Frag) (C:Addr):Prop where
 pg:PySem.W.plainGet K C Str.empty=true
 hd:PySem.W.hasDictIn K C=true
 po:PySem.W.plainOver K C=true
 sa:PySem.W.findIn K (.ref C) "__setattr__" = some (some (.builtin "object.__setattr__"))
theorem Cls.get {K:PySem.W.Frag}{C:Addr}(c:Cls K C)(f:Str):PySem.W.plainGet K C f=true:=c.pg


section
variable {X:Cx}{pins:List (Addr×Obj)}{σ:St}{H:Hp}{s:Shared}{A:Around}{E:Value→Shared→Prop}{Q:Value→Shared→Prop}{c:Value}{b:Bool}
inductive jU (K : PySem.W.Frag) (H : Hp) : V → Value → Prop where
  | non : jU K H .non (.type "NoneType")
  | bl (x : Bool) : jU K H (.bl x) (.type "bool")
  | int (i : Int) : jU K H (.int i) (.type "int")
  | str (x : Str) : jU K H (.str x) (.type "str")
  | flt (x : UInt64) : jU K H (.flt x) (.type "float")
  | lst {a : Addr} {xs : List V} (e : H a=some (.lst xs)) : jU K H (.ref a) (.type "list")
  | frz {a : Addr} {o : Obj} {xs : List V} (e : H a=some (.frz o (.lst xs))) : jU K H (.ref a) (.type "list")
  | tup {a : Addr} {xs : List V} (e : H a=some (.tup xs)) : jU K H (.ref a) (.type "tuple")
  | dK {a : Addr} {kvs : List (Key × V)} (e : H a=some (.dK kvs)) : jU K H (.ref a) (.type "dict")
  | dT {a : Addr} {kvs : List (List Key × V)} (e : H a=some (.dT kvs)) : jU K H (.ref a) (.type "dict")
  | ins {a C dx : Addr} {fs : List (Str × V)} (e : H a=some (.ins C dx fs)) (cl : Cls K C) (ha : PySem.W.findIn K (.ref C) "__class__" = some (some (.builtin "object.__class__")))
      (hn : PySem.W.specialIn K (.builtin "object.__class__") "__get__" = some (some (.builtin "getset_descriptor.__get__"))) (htk : PySem.W.takesIn K (.builtin "object.__class__")=some true)
      (hm : PySem.W.mroIn K C (.type "object")=some true) : jU K H (.ref a) (.ref C)
theorem t5 {x:V}{u t:Value}(I:Inv X pins σ H s)(rx:RelV x u)(ty:jU X.K H x t)(e:PySem.W.kitOne X.K t c=some b)(h:∀ tk,Q (.bool b) { s with toks:=tk }) :
  wpAny (model X.prog X.w) A (call (.builtin "isinstance") [u,c]) Q E s:=by
 cases ty with
 | non=>cases (show u=Value.none from rx);exact PySem.W.kia_one PySem.W.kitx_none I.kIn True.intro e (fun z=>nomatch z) h
 | bl y=>cases (show u=Value.bool y from rx);exact PySem.W.kia_one PySem.W.kitx_bool I.kIn True.intro e (fun z=>nomatch z) h
 | int i=>obtain⟨t,q⟩:=(show ∃ t,u=Value.int i t from rx);cases q;exact PySem.W.kia_one PySem.W.kitx_int I.kIn True.intro e (fun z=>nomatch z) h
 | str y=>obtain⟨t,q⟩:=(show ∃ t,u=Value.str y t from rx);cases q;exact PySem.W.kia_one PySem.W.kitx_str I.kIn True.intro e (fun z=>nomatch z) h
 | flt y=>obtain⟨t,q⟩:=(show ∃ t,u=Value.float y t from rx);cases q;exact PySem.W.kia_one PySem.W.kitx_float I.kIn True.intro e (fun z=>nomatch z) h
 | @lst a xs ea =>
  cases (show u=Value.ref a from rx)
  obtain⟨_,_,n,_,h1⟩:=(show bb X.prog X.w H s.heap a (.lst xs) from I.hok a _ ea)
  exact PySem.W.kia_one PySem.W.kitx_list I.kIn ⟨_,h1,rfl⟩ e (fun z=>nomatch z) h
 | @frz a ob xs ea =>
  cases (show u=Value.ref a from rx)
  obtain⟨_,_,_,n,_,h1⟩:=(show bb X.prog X.w H s.heap a (.frz ob (.lst xs)) from I.hok a _ ea)
  exact PySem.W.kia_one PySem.W.kitx_list I.kIn ⟨_,h1,rfl⟩ e (fun z=>nomatch z) h
 | @tup a xs ea =>
  cases (show u=Value.ref a from rx)
  obtain⟨_,_,_,p⟩:=(show bb X.prog X.w H s.heap a (.tup xs) from I.hok a _ ea)
  obtain⟨o,h1,h2,_⟩:=p
  exact PySem.W.kia_one PySem.W.kitx_tuple I.kIn ⟨o,h1,h2⟩ e (fun z=>nomatch z) h
 | @dK a kvs ea =>
  cases (show u=Value.ref a from rx)
  obtain⟨_,_,vs,_,p⟩:=(show bb X.prog X.w H s.heap a (.dK kvs) from I.hok a _ ea)
  obtain⟨o,es,ep,h1,h2,_⟩:=p
  exact PySem.W.kia_one PySem.W.kitx_dict I.kIn ⟨o,h1,h2.1⟩ e (fun z=>nomatch z) h
 | @dT a kvs ea =>
  cases (show u=Value.ref a from rx)
  obtain⟨_,_,xs,_,o,es,ep,h1,h2,_⟩:=(show bb X.prog X.w H s.heap a (.dT kvs) from I.hok a _ ea)
  exact PySem.W.kia_one PySem.W.kitx_dict I.kIn ⟨o,h1,h2.1⟩ e (fun z=>nomatch z) h
 | @ins a C dx fs ea cl ha hn htk hm =>
  cases (show u=Value.ref a from rx)
  obtain⟨mA,O,_⟩:=xO I.hok ea
  obtain⟨od,J,_⟩:=O.look
  exact PySem.W.kia_one (PySem.W.kitx_own (cl.get _) cl.hd ha hn htk hm) I.kIn J e (fun z=>nomatch z) h
end
end L2

namespace L2
open PySem PySem.Spec PyProof.Rows

structure fQ (k:Nat) (A:Around):Prop where
 hd:A.handled=none
 dp:A.depth+3*k+5<recursionLimit
 un:A.units+16*k+200<cLine
 gd:A.guards=some []
theorem fQ.mono {j k:Nat}{A:Around}(r:fQ k A)(h:j≤k):fQ j A:=⟨r.hd,by have:=r.dp;omega,by have:=r.un;omega,r.gd⟩
theorem fQ.deeper {k:Nat}{A:Around}(r:fQ (k+1) A)(env:Env):fQ k (A.deeper env) :=
 ⟨r.hd,by have:=r.dp;show A.depth+1+3*k+5<_;omega,by have:=r.un;show A.units+3+16*k+200<_;omega,r.gd⟩
theorem fQ.depth {k:Nat}{A:Around}(r:fQ k A):A.depth<recursionLimit:=by have:=r.dp;omega
theorem fQ.units {k:Nat}{A:Around}(r:fQ k A):A.units+64<cLine:=by have:=r.un;omega
noncomputable def zY:TA:=fun _ H Q=>Q [] H
noncomputable def zi (ta:TE)(tr:TA):TA:=fun σ H Q=>ta σ H fun x H1=>tr σ H1 fun xs H2=>Q (x::xs) H2
section
variable {X:Cx}{e:Expr}{es:List Expr}{te:TE}{t:TA}{pos:Pos}
theorem ai:PA X [] zY:=fun _ _ _ _ H Q I h=>Calls.spliced_nil ⟨[],H,I,.nil,h⟩
theorem ab (ha:PE X e te)(hr:PA X es t)(hs:starEach (e::es) X.env=(false,eval e X.env)::starEach es X.env:=by rfl):PA X (e::es) (zi te t):=by
 intro pos pins s σ H Q I h
 rw[hs]
 show wpAny _ _ (spliced ((false,eval e X.env)::backTo pos (starEach es X.env))) _ _ s
 refine Calls.spliced_cons (thn (ha pins s σ H _ I h) fun u s1 ⟨x,H1,I1,r1,q1⟩=>?_)
 exact thn (hr pos pins s1 σ H1 _ I1 q1) fun us s2 ⟨xs,H2,I2,r2,q2⟩=>⟨x::xs,H2,I2,.cons r1 r2,q2⟩

noncomputable def CJ (t:TA):TE:=fun σ H Q=>t σ H fun xs H1=>xs.length≤sizeLine∧∀ p,H1 p=none→Q (.ref p) (upd H1 p (.tup xs))
noncomputable def zZ (t:TA):TE:=fun σ H Q=>t σ H fun xs H1=>xs.length≤sizeLine∧∀ p,H1 p=none→Q (.ref p) (upd H1 p (.lst xs))
theorem iP {x1}(h:PA X es t):PE X (.Tuple es x1 pos) (CJ t):=by
 intro pins s σ H Q I hq
 refine wpAny_Tuple_spliced (thn (h pos pins s σ H _ I hq) fun us s1 ⟨xs,H1,I1,r,z,q⟩=>⟨by rw[← r.length];exact z,?_⟩)
 have hf:H1 s1.heap.objs.size=none:=I1.hok.fresh (Nat.le_refl _)
 refine⟨.ref s1.heap.objs.size,upd H1 s1.heap.objs.size (.tup xs),I1.laid (t':=s1.toks) (fun b u e=>Heap.get?_push_of_some _ e) (Nat.le_refl _) ?_,rfl,q _ hf⟩
 exact⟨z,us,r,⟨_,Heap.get?_push_size _ rfl,rfl,_,rfl⟩⟩
theorem bc (h:PA X es t):PE X (.List es pos) (zZ t):=by
 intro pins s σ H Q I hq
 refine wpAny_List_spliced (thn (h pos pins s σ H _ I hq) fun us s1 ⟨xs,H1,I1,r,z,q⟩=>⟨by rw[← r.length];exact z,?_⟩)
 have hf:H1 s1.heap.objs.size=none:=I1.hok.fresh (Nat.le_refl _)
 refine⟨.ref s1.heap.objs.size,upd H1 s1.heap.objs.size (.lst xs),I1.laid (t':=s1.toks) (fun b u e=>Heap.get?_push_of_some _ e) (Nat.le_refl _) ?_,rfl,q _ hf⟩
 exact⟨z,us,0,r,Heap.get?_push_size _ rfl⟩
end

noncomputable abbrev Sp:=List V→Hp→VK→XK→Prop
noncomputable abbrev CXT:=List Env→Hp→Shared→XK→Value→Shared→Prop

structure xP (P:Program) (w:World) (K:PySem.W.Frag) (mg:Str→Option Value) (base:Heap) (A:Around) (outer:List Env) (s:Shared) (H:Hp):Prop where
 frames:A.frames=some outer
 mod:Mod K mg base
 bs:∀ b o,base.get? b=some o→s.heap.get? b=some o∧H b=none
 bsz:base.objs.size≤s.heap.objs.size
 k6:s.heap.FunFrames base outer
 frf:∀ b∈frs outer,H b=none
 hok:HOk P w H s.heap
 bare:AllBare s.gens
noncomputable def CE (outer:List Env)(P:Program)(w:World)(H:Hp)(s:Shared)(Q:VK)(u:Value)(s':Shared):Prop :=
 ∃ v H',s'.os=s.os∧AllBare s'.gens∧Un (frs outer) [] H H' s.heap s'.heap∧HOk P w H' s'.heap∧RelV v u∧Q v H'
noncomputable def CR (CX:CXT)(outer:List Env)(P:Program)(w:World)(H:Hp)(s:Shared)(Q:VK)(E:XK)(r:Result)(s':Shared):Prop :=
 match r with
 | .ok (.ret u)=>CE outer P w H s Q u s'
 | .ok _=>False
 | .error e=>CX outer H s E e s'
structure aO (P:Program) (w:World) (K:PySem.W.Frag) (mg:Str→Option Value) (base:Heap) (CX:CXT) (k:Nat) (f:Addr) (fd:FuncData) (ps:List Str) (sp:Sp):Prop where
 len:∀ vs H Q E,sp vs H Q E→vs.length=ps.length
 run:∀ (A:Around) (outer:List Env) (s:Shared) (H:Hp) (args:Args) (us:List Value) (vs:List V) (Q:VK) (E:XK),fQ k A→xP P w K mg base A outer s H→BindsTo s fd args (ps.zip us)→Vals vs us→sp vs H Q E →
  codeAny (model P w) A (.call (.ref f) args) (CR CX outer P w H s Q E) s
section
variable {X:Cx}{pins:List (Addr×Obj)}{σ:St}{H:Hp}{s s':Shared}
theorem Inv.CK (I:Inv X pins σ H s):xP X.prog X.w X.K X.mg X.base X.A X.stack s H :=
 ⟨I.ok.frames,I.ok.mod,I.bs,Nat.le_trans I.ok.bsz I.sz,I.stack,I.rX,I.hok,I.bare⟩
theorem Inv.after {Q:VK}{u:Value}(I:Inv X pins σ H s)(h:CE X.stack X.prog X.w H s Q u s'):EP X pins σ Q u s':=by
 obtain⟨v,H',os,bare,un,hok,r,q⟩:=h
 obtain⟨hh,g,d,t,os'⟩:=s'
 obtain rfl:os'=s.os:=os
 exact⟨v,H',I.call (h':=hh) (g':=g) (d':=d) (t':=t) (ch:=[]) un hok bare (fun b z=>absurd z (by simp)),r,q⟩
end

noncomputable def zj (sp:Sp)(dvs:List V)(E:XK)(t:TA):TE:=fun σ H Q=>t σ H fun vs H1=>sp (vs++dvs) H1 Q E
noncomputable def Binds (K:PySem.W.Frag)(fd:FuncData)(ps:List Str)(ds:List Value):Prop :=
 ∀ (s:Shared) (us:List Value),K.In s.heap→(us++ds).length=ps.length→BindsTo s fd ⟨us,[]⟩ (ps.zip (us++ds))
theorem Binds.all {K:PySem.W.Frag}{fd:FuncData}{ps:List Str}(h:∀ us:List Value,us.length=ps.length→bindArgs fd ⟨us,[]⟩=pure (ps.zip us)):Binds K fd ps []:=fun s us _ hl=>by
 rw[List.append_nil] at hl ⊢
 exact .of_eq (h us hl)

noncomputable def Passes (CX:CXT)(X:Cx)(E:XK):Prop:=∀ (pins:List (Addr×Obj)) (σ:St) (H:Hp) (s:Shared) (e:Value) (s':Shared),Inv X pins σ H s→CX X.stack H s E e s'→X.xe e s'

section
variable {X:Cx}{CX:CXT}{k:Nat}{f C:Addr}{fd:FuncData}{ps:List Str}{sp:Sp}{dvs:List V}{ds:List Value}{E:XK}{x m:Str}{p pos apos:Pos}{e o:Expr}{es:List Expr}{ta:TE}{t:TA}

theorem z4 {pins:List (Addr×Obj)}{σ:St}{H:Hp}{s:Shared}{Q:VK}{us:List Value}{vs:List V}(F:aO X.prog X.w X.K X.mg X.base CX k f fd ps sp)(hr:fQ k X.A)(hb:Binds X.K fd ps ds)(hd:Vals dvs ds)(hx:Passes CX X E)
  (I:Inv X pins σ H s) (r:Vals vs us) (h:sp (vs++dvs) H Q E):wpAny (model X.prog X.w) X.A (call (.ref f) us) (EP X pins σ Q) X.xe s:=by
 have r2:Vals (vs++dvs) (us++ds):=r.append hd
 have hl:(us++ds).length=ps.length:=by rw[← r2.length];exact F.len _ _ _ _ h
 refine wpAny_call (codeAny_mono (F.run X.A X.stack s H ⟨us,[]⟩ (us++ds) (vs++dvs) Q E hr I.CK (hb s us I.kIn hl) r2 h) fun r s' hq=>?_)
 cases r with
 | error e=>exact hx pins σ H s e s' I hq
 | ok fl =>
  cases fl with
  | ret u=>exact I.after hq
  | next=>exact False.elim hq
  | brk=>exact False.elim hq
  | cont=>exact False.elim hq

theorem xQ (F:aO X.prog X.w X.K X.mg X.base CX k f fd ps sp)(hr:fQ k X.A)(hg:Gl X x)(hm:X.mg x=some (.ref f))(hk:PySem.W.keepIn X.K (.ref f)=true)(hb:Binds X.K fd ps ds)(hd:Vals dvs ds)(hx:Passes CX X E)
  (ha:PA X (e::es) t) (hdb:(x == ("__debug__":Str))=false:=by decide) (he:starEach (e::es) X.env=(false,eval e X.env)::starEach es X.env:=by rfl) (hpl:(backTo pos (starEach es X.env)).any (·.1)=false:=by rfl) :
  PE X (.Call (.Name x p) (e::es) [] pos) (zj sp dvs E t):=by
 intro pins s σ H Q I h
 refine wpAny_Call_Name_kw (xM I hg hm ?_ hdb)
 refine PySem.W.callWith_K (h₀:=X.base) I.ok.mod.kin hk (thn (ha pos pins s σ H _ I h) fun us s1 ⟨vs,H1,I1,r,q⟩=>⟨I1.kIn,?_⟩) he hpl
 exact z4 F hr hb hd hx I1 r q
end


structure aN (N P:List Str) (sc:Scope):Prop where
 kind:sc.kind=.function
 co:sc.isCoroutine=false
 gen:sc.isGenerator=false
 nd:N.Nodup
 pre:N.take P.length=P
 par:∀ x∈P,sc.names.lookup x=some .local∨sc.names.lookup x=some .cell
 z5:∀ y∈sc.names,y.2≠.free

theorem mQ {kindOf:Str→Option NameKind}{x:Str}:∀ {binds:List (Str×Value)} {m:Str→Option Value},(∀ v,(x,v) ∉ binds)→bindL kindOf binds m x=m x
 | [],_,_=>rfl
 | (n,v)::r,m,h=>by
  unfold bindL
  rw[mQ fun w hw=>h w (List.mem_cons_of_mem _ hw)]
  split
  ·have:x≠n:=by rintro rfl;exact h v List.mem_cons_self
   simp[this]
  ·rfl
theorem mT {kindOf:Str→Option NameKind}{x:Str}:∀ {binds:List (Str×Value)} {m:Str→Option Value},(∀ v,(x,v) ∉ binds)→bindC kindOf binds m x=m x
 | [],_,_=>rfl
 | (n,v)::r,m,h=>by
  unfold bindC
  rw[mT fun w hw=>h w (List.mem_cons_of_mem _ hw)]
  split
  ·rfl
  ·have:x≠n:=by rintro rfl;exact h v List.mem_cons_self
   simp[this]
theorem mU {kindOf:Str→Option NameKind}{x:Str}{v:Value}:∀ {P:List Str} {vs:List Value} {i:Nat} {m:Str→Option Value},P.Nodup→P[i]?=some x→vs[i]?=some v→kindOf x=some .local →
  bindL kindOf (P.zip vs) m x=some v
 | [],_,_,_,_,h,_,_=>by simp at h
 | _::_,[],_,_,_,_,h,_=>by simp at h
 | p::P,w::vs,0,m,nd,h1,h2,hk=>by
  simp at h1 h2;subst h1;subst h2
  show bindL kindOf ((p,w)::P.zip vs) m p=_
  unfold bindL
  rw[mQ fun v hv=>(List.nodup_cons.mp nd).1 (List.of_mem_zip hv).1,if_pos hk]
  simp
 | p::P,w::vs,i+1,m,nd,h1,h2,hk=>by
  show bindL kindOf ((p,w)::P.zip vs) m x=_
  unfold bindL
  exact mU (i:=i) (List.nodup_cons.mp nd).2 (by simpa using h1) (by simpa using h2) hk
theorem mV {kindOf:Str→Option NameKind}{x:Str}{v:Value}:∀ {P:List Str} {vs:List Value} {i:Nat} {m:Str→Option Value},P.Nodup→P[i]?=some x→vs[i]?=some v→kindOf x≠some .local →
  bindC kindOf (P.zip vs) m x=some v
 | [],_,_,_,_,h,_,_=>by simp at h
 | _::_,[],_,_,_,_,h,_=>by simp at h
 | p::P,w::vs,0,m,nd,h1,h2,hk=>by
  simp at h1 h2;subst h1;subst h2
  show bindC kindOf ((p,w)::P.zip vs) m p=_
  unfold bindC
  rw[mT fun v hv=>(List.nodup_cons.mp nd).1 (List.of_mem_zip hv).1,if_neg hk]
  simp
 | p::P,w::vs,i+1,m,nd,h1,h2,hk=>by
  show bindC kindOf ((p,w)::P.zip vs) m x=_
  unfold bindC
  exact mV (i:=i) (List.nodup_cons.mp nd).2 (by simpa using h1) (by simpa using h2) hk

noncomputable def start (N:List Str)(vs:List V):St:=vs.map some++List.replicate (N.length-vs.length) none

noncomputable def t7 (CX:CXT)(P:Program)(w:World)(K:PySem.W.Frag)(mg:Str→Option Value)(base:Heap)(N:List Str)(qual:Str)(scope:Scope)(f:Addr)(cd:Value)(A:Around)(outer:List Env)(s:Shared)(H:Hp)(E:XK):Cx where
 prog:=P
 w:=w
 K:=K
 mg:=mg
 base:=base
 A:=A.deeper (envOfC qual scope s.heap.objs.size f cd)
 N:=N
 s₀:=s
 H₀:=H
 env:=envOfC qual scope s.heap.objs.size f cd
 outer:=outer
 stack:=envOfC qual scope s.heap.objs.size f cd::outer
 ex:=[]
 calm:=true
 fn:=fun _=>true
 pn:=[]
 xe:=fun e s'=>wpAny (model P w) (A.deeper (envOfC qual scope s.heap.objs.size f cd)) (leaving (envOfC qual scope s.heap.objs.size f cd) e) (fun _ s''=>CX outer H s E e s'') (fun e' s''=>CX outer H s E e' s'') s'

theorem pA {sc:Scope}{n:Nat}{x:Str}(h:sc.names.lookup x=some .cell):∃ c,(cellsFrom n sc.names []).lookup x=some c:=by
 have q:=PySem.W.cellsFrom_some sc.names n [] (.inl h)
 exact Option.isSome_iff_exists.mp q

theorem t9 {CX:CXT}{P:Program}{w:World}{K:PySem.W.Frag}{mg:Str→Option Value}{base:Heap}{N ps:List Str}{qual:Str}{scope:Scope}{f:Addr}{cd:Value}{A:Around}{outer:List Env}{s s1:Shared}{H:Hp}{E:XK}{us:List Value}{vs:List V}
  (S:aN N ps scope) (hd:A.handled=none) (e0:xP P w K mg base A outer s H) (hl:vs.length=ps.length) (r:Vals vs us)
  (x:InCallC s s.heap.objs.size (bindL (envOfC qual scope s.heap.objs.size f cd).kindOf (ps.zip us) fun _=>none) (cellsFrom (s.heap.objs.size+1) scope.names []) (bindC (envOfC qual scope s.heap.objs.size f cd).kindOf (ps.zip us) fun _=>none) s1) :
  Inv (t7 CX P w K mg base N qual scope f cd A outer s H E) [] (start N vs) H s1:=by
 have hpl:ps.length≤N.length:=by have:=congrArg List.length S.pre;rw[List.length_take] at this;omega
 obtain⟨h1,tk,rfl,hk⟩:=x.done
 have noA:∀ b:Addr,b ∉ (t7 CX P w K mg base N qual scope f cd A outer s H E).ex:=fun b z=>absurd (show b∈([]:List Addr) from z) (by simp)
 refine⟨⟨e0.mod,S.kind,rfl,rfl,Nat.le_refl _,fun y z c h1 h2=>?_,fun y hy=>?_,fun y c _ h=>?_,fun _=>hd,Around.frames_deeper e0.frames,.inr ⟨rfl,rfl⟩,fun b z=>absurd z (noA b),e0.bs,e0.bsz,fun b _ _=>noA b,fun b z=>absurd z (noA b),e0.k6,e0.frf⟩,
  rfl,e0.bare,Un.kept hk,⟨_,x.toInCall.ns,fun i y v h1 h2 h3=>?_⟩,fun y c h=>⟨_,x.cell y c h⟩,e0.hok.fresh (Nat.le_refl _),fun y c h=>?_,fun p hp=>absurd (show p∈([]:List (Addr×Obj)) from hp) (by simp),e0.hok.kept hk,?_⟩
 ·exact name_of_addr x.apart (PySem.mem_of_lookup h1) (PySem.mem_of_lookup h2)
 ·have hy:scope.names.lookup y=some .cell∨scope.names.lookup y=some .free:=hy
  rcases hy with hy | hy
  ·exact pA hy
  ·exact absurd rfl (S.z5 _ (PySem.mem_of_lookup hy))
 ·exact Nat.le_of_lt (x.above y c (PySem.mem_of_lookup h))
 ·have hi:i<vs.length:=by
   unfold start at h2
   by_cases hi:i<vs.length
   ·exact hi
   ·rw[List.getElem?_append_right (by simpa using hi)] at h2
    rw[List.getElem?_replicate] at h2
    split at h2 <;> cases h2
  have ha:vs[i]?=some v:=by
   unfold start at h2
   rw[List.getElem?_append_left (by simpa using hi),List.getElem?_map] at h2
   cases e:vs[i]? with
   | none=>rw[e] at h2;cases h2
   | some a=>rw[e] at h2;cases h2;rfl
  obtain⟨u,hu,rv⟩:=r.get ha
  have hp:ps[i]?=some y:=by
   rw[← S.pre,List.getElem?_take_of_lt (by omega)];exact h1
  have ndP:ps.Nodup:=by rw[← S.pre];exact S.nd.sublist (List.take_sublist _ _)
  refine⟨u,rv,?_⟩
  rcases S.par y (List.mem_of_getElem? hp) with k | k
  ·exact .inl ⟨k,mU ndP hp hu k⟩
  ·obtain⟨c,e⟩:=pA (n:=s.heap.objs.size+1) k
   refine .inr ⟨.inl k,c,e,?_⟩
   have q:=x.cell y c e
   rw[mV ndP hp hu (by show scope.names.lookup y≠_;rw[k];decide)] at q
   exact q
 ·exact e0.hok.fresh (Nat.le_of_lt (x.above y c (PySem.mem_of_lookup h)))
 ·unfold start
  show _=N.length
  rw[List.length_append,List.length_map,List.length_replicate]
  omega

theorem Bx {CX:CXT}{P:Program}{w:World}{K:PySem.W.Frag}{mg:Str→Option Value}{base:Heap}{k:Nat}{f:Addr}{name qual:Str}{params:Arguments}{body:List Stmt}{scope:Scope}{dV kV doc pm cdv ct oc:Value}{an od:Option Addr}
  {osl:Array (Option Value)} {N ps:List Str} {sp:Sp} (lk:K.lookup f=some ⟨oc,od,.func (PySem.W.fnOf name qual params body scope dV kV doc pm an cdv ct),osl⟩) (hcd:PySem.W.codeIn K cdv qual=true) (S:aN N ps scope)
  (len:∀ vs H Q E,sp vs H Q E→vs.length=ps.length)
  (vb:∀ (A:Around) (outer:List Env) (s:Shared) (H:Hp) (vs:List V) (Q:VK) (E:XK),fQ k (A.deeper (envOfC qual scope s.heap.objs.size f cdv))→sp vs H Q E →
   ∃ t,PSs (t7 CX P w K mg base N qual scope f cdv A outer s H E) body t∧t { nx:=fun _ H'=>Q .non H',rt:=Q } (start N vs) H) :
  aO P w K mg base CX (k+1) f (PySem.W.fnOf name qual params body scope dV kV doc pm an cdv ct) ps sp:=by
 refine⟨len,fun A outer s H args us vs Q E hr e0 hb r hsp=>?_⟩
 have hl:=len _ _ _ _ hsp
 have KX:K.In s.heap:=e0.mod.kin.keeps fun b o e=>(e0.bs b o e).1
 have lim:s.heap.NoLimit:=e0.mod.nolimit.keeps fun b o e=>(e0.bs b o e).1
 have jc:∀ y∈ps.zip us,scope.names.lookup y.1=some .local∨(scope.names.lookup y.1=some .cell∧((cellsFrom (s.heap.objs.size+1) scope.names []).lookup y.1).isSome=true):=fun ⟨n,v⟩ hy=>by
  rcases S.par n (List.of_mem_zip hy).1 with q | q
  ·exact .inl q
  ·exact .inr ⟨q,PySem.W.cellsFrom_some _ _ _ (.inl q)⟩
 refine codeAny_call_function hr.depth (KX _ _ lk) rfl S.co S.gen rfl (PySem.W.codeRec_of KX hcd) (hb _ _ _ _ ?_)
 refine wpAny_newFunctionEnv_cells S.kind jc fun env he s1 x=>?_
 subst he
 refine⟨lim.keeps x.toInCall.keep,codeAny_func ?_⟩
 obtain⟨t,ht,hq⟩:=vb A outer s H vs Q E (hr.deeper _) hsp
 have I:Inv (t7 CX P w K mg base N qual scope f cdv A outer s H E) [] (start N vs) H s1:=t9 S hr.hd e0 hl r x
 refine wpAny_mono (ht [] s1 (start N vs) H _ I hq) (fun fl s' hs=>?_) fun e s' hs=>hs
 have fin:∀ {σ':St} {H':Hp} {v:V} {u:Value},Inv (t7 CX P w K mg base N qual scope f cdv A outer s H E) [] σ' H' s'→RelV v u→Q v H'→CE outer P w H s Q u s' :=
  fun {σ' H' v u} J rv q=>⟨v,H',J.os,J.bare,J.base,J.hok,rv,q⟩
 cases fl with
 | ret u =>
  obtain⟨v,σ',H',J,rv,q⟩:=hs
  exact fin J rv q
 | next =>
  obtain⟨σ',H',J,q⟩:=hs
  exact fin (v:=V.non) (u:=Value.none) J rfl q
 | brk =>
  obtain⟨_,_,_,q⟩:=hs
  exact False.elim q
 | cont =>
  obtain⟨_,_,_,q⟩:=hs
  exact False.elim q
end L2

namespace L2
open PySem PySem.Spec PyProof.Rows
section
variable {X:Cx}{x:Str}{p pos:Pos}{e:Expr}{es:List Expr}{t:TA}{id T:String}{r:List V→Hp→VK→Prop}

noncomputable def tCB (r:List V→Hp→VK→Prop)(t:TA):TE:=fun σ H Q=>t σ H fun vs H1=>r vs H1 Q
theorem aG (hc:eO X (.builtin id) r)(hg:Gl X x)(hm:X.mg x=none)(hv:bootBuiltins x=some (.builtin id))(ha:PA X (e::es) t)(hn:x≠"__name__":=by decide)(hdb:(x == ("__debug__":Str))=false:=by decide)
  (he:starEach (e::es) X.env=(false,eval e X.env)::starEach es X.env:=by rfl) (hpl:(backTo pos (starEach es X.env)).any (·.1)=false:=by rfl):PE X (.Call (.Name x p) (e::es) [] pos) (tCB r t):=by
 intro pins s σ H Q I h
 refine wpAny_Call_Name_kw (gv I hg hm hv ?_ hn hdb)
 exact PyProof.Rows.callWith_builtin1 (thn (ha pos pins s σ H _ I h) fun us s1 ⟨vs,H1,I1,r1,q1⟩=>hc pins s1 σ H1 vs us Q I1 r1 q1) he hpl
theorem bN (hc:eO X (.type T) r)(hg:Gl X x)(hm:X.mg x=none)(hv:bootBuiltins x=some (.type T))(ha:PA X (e::es) t)(hn:x≠"__name__":=by decide)(hdb:(x == ("__debug__":Str))=false:=by decide)
  (he:starEach (e::es) X.env=(false,eval e X.env)::starEach es X.env:=by rfl) (hpl:(backTo pos (starEach es X.env)).any (·.1)=false:=by rfl):PE X (.Call (.Name x p) (e::es) [] pos) (tCB r t):=by
 intro pins s σ H Q I h
 refine wpAny_Call_Name_kw (gv I hg hm hv ?_ hn hdb)
 exact PyProof.Rows.callWith_type1 (thn (ha pos pins s σ H _ I h) fun us s1 ⟨vs,H1,I1,r1,q1⟩=>hc pins s1 σ H1 vs us Q I1 r1 q1) he hpl
end
end L2

namespace L2
open PySem PySem.Spec PyProof.Rows

section
variable {κ:Type}[DecidableEq κ]
noncomputable def bj (kvs:List (κ×V))(k:κ):Option V:=(kvs.find? fun kv=>decide (kv.1=k)).map (·.2)
noncomputable def putK (kvs:List (κ×V))(k:κ)(v:V):List (κ×V) :=
 if (kvs.any fun kv=>decide (kv.1=k))=true then kvs.map (fun kv=>if kv.1=k then (kv.1,v) else kv) else kvs++[(k,v)]
theorem bU {p:κ×V}{r:List (κ×V)}{k:κ}(e:p.1=k):bj (p::r) k=some p.2:=by simp[bj,List.find?_cons,e]
theorem bV {p:κ×V}{r:List (κ×V)}{k:κ}(e:¬ p.1=k):bj (p::r) k=bj r k:=by simp[bj,List.find?_cons,e]
theorem dU (k:κ):∀ kvs:List (κ×V),(kvs.any fun kv=>decide (kv.1=k))=(bj kvs k).isSome
 | []=>rfl
 | p::r=>by
  rw[List.any_cons]
  by_cases e:p.1=k
  ·simp only[bU e,decide_eq_true e,Bool.true_or,Option.isSome_some]
  ·rw[bV e,decide_eq_false e,Bool.false_or];exact dU k r
theorem pB (k j:κ)(y:V):∀ kvs:List (κ×V),bj (kvs.map fun kv=>if kv.1=k then (kv.1,y) else kv) j=(bj kvs j).map fun x=>if j=k then y else x
 | []=>rfl
 | p::r=>by
  have ih:=pB k j y r
  rw[List.map_cons]
  by_cases h:p.1=k
  ·rw[if_pos h]
   by_cases e:p.1=j
   ·rw[bU (p:=(p.1,y)) e,bU e,Option.map_some,if_pos (e.symm.trans h)]
   ·rw[bV (p:=(p.1,y)) e,bV e,ih]
  ·rw[if_neg h]
   by_cases e:p.1=j
   ·rw[bU (p:=p) e,bU e,Option.map_some,if_neg (fun z=>h (e.trans z))]
   ·rw[bV (p:=p) e,bV e,ih]
theorem mW (k j:κ)(y:V):∀ kvs:List (κ×V),bj kvs k=none→bj (kvs++[(k,y)]) j=if j=k then some y else bj kvs j
 | [],_=>by
  by_cases e:k=j
  ·rw[if_pos e.symm];exact bU (p:=(k,y)) e
  ·rw[if_neg (fun z=>e z.symm)];exact bV (p:=(k,y)) e
 | p::r,hn=>by
  rw[List.cons_append]
  have hk:¬ p.1=k:=fun z=>by rw[bU z] at hn;cases hn
  rw[bV hk] at hn
  have ih:=mW k j y r hn
  by_cases e:p.1=j
  ·rw[bU e,bU e,if_neg (fun z=>hk (e.trans z))]
  ·rw[bV e,bV e,ih]
theorem fX (kvs:List (κ×V))(k j:κ)(y:V):bj (putK kvs k y) j=if j=k then some y else bj kvs j:=by
 unfold putK
 by_cases a:(kvs.any fun kv=>decide (kv.1=k))=true
 ·rw[if_pos a,pB]
  rw[dU] at a
  by_cases e:j=k
  ·obtain⟨x,hx⟩:=Option.isSome_iff_exists.mp a
   rw[if_pos e,e,hx,Option.map_some,if_pos rfl]
  ·rw[if_neg e]
   cases bj kvs j with
   | none=>rfl
   | some x=>rw[Option.map_some,if_neg e]
 ·rw[if_neg a]
  refine mW k j y kvs ?_
  rw[dU] at a
  cases q:bj kvs k with
  | none=>rfl
  | some x=>rw[q] at a;exact(a rfl).elim
theorem cm (kvs:List (κ×V))(k:κ)(v:V):(putK kvs k v).length≤kvs.length+1:=by
 unfold putK
 split
 ·rw[List.length_map];omega
 ·rw[List.length_append,List.length_cons,List.length_nil];omega
theorem gR {kvs:List (κ×V)}{k:κ}(v:V)(h:bj kvs k=none):putK kvs k v=kvs++[(k,v)]:=by
 unfold putK
 rw[dU,h]
 exact if_neg (by decide)

theorem iD.mX {o:Option V}{u:Option Value}(r:iD o u):o.isSome=u.isSome:=by
 cases o with
 | none=>cases u with
  | none=>rfl
  | some _=>exact(show False from r).elim
 | some _=>cases u with
  | none=>exact(show False from r).elim
  | some _=>rfl
theorem iD.getD {o:Option V}{u:Option Value}{d:V}{d':Value}(r:iD o u)(rd:RelV d d'):RelV (o.getD d) (u.getD d'):=by
 cases o with
 | none=>cases u with
  | none=>exact rd
  | some _=>exact(show False from r).elim
 | some _=>cases u with
  | none=>exact(show False from r).elim
  | some _=>exact r

theorem KV.val {kvs:List (κ×V)}{vs:List (κ×Value)}(r:KV kvs vs)(k:κ):iD (bj kvs k) (valueAt vs k):=by
 unfold KV at r
 induction r with
 | nil=>exact True.intro
 | @cons p q ps qs h t ih =>
  obtain⟨h1,h2⟩:=h
  by_cases e:p.1=k
  ·have e':q.1=k:=h1.symm.trans e
   have b:valueAt (q::qs) k=some q.2:=by simp[valueAt,List.find?_cons,e']
   rw[bU e,b];exact h2
  ·have e':¬ q.1=k:=fun z=>e (h1.trans z)
   have b:valueAt (q::qs) k=valueAt qs k:=by simp[valueAt,List.find?_cons,e']
   rw[bV e,b];exact ih
theorem KV.any {kvs:List (κ×V)}{vs:List (κ×Value)}(r:KV kvs vs)(k:κ):(kvs.any fun kv=>decide (kv.1=k))=vs.any fun kv=>decide (kv.1=k):=by
 unfold KV at r
 induction r with
 | nil=>rfl
 | cons h t ih=>rw[List.any_cons,List.any_cons,ih,h.1]
theorem KV.z6 {kvs:List (κ×V)}{vs:List (κ×Value)}(r:KV kvs vs)(k:κ){y:V}{u:Value}(ry:RelV y u) :
  KV (kvs.map fun kv=>if kv.1=k then (kv.1,y) else kv) (vs.map fun kv=>if kv.1=k then (kv.1,u) else kv):=by
 unfold KV at r ⊢
 induction r with
 | nil=>exact .nil
 | @cons p q ps qs h t ih =>
  rw[List.map_cons,List.map_cons]
  refine .cons ?_ ih
  obtain⟨h1,h2⟩:=h
  by_cases e:p.1=k
  ·rw[if_pos e,if_pos (h1.symm.trans e)];exact⟨h1,ry⟩
  ·rw[if_neg e,if_neg (fun z=>e (h1.trans z))];exact⟨h1,h2⟩
theorem KV.put {kvs:List (κ×V)}{vs:List (κ×Value)}(r:KV kvs vs)(k:κ){y:V}{u:Value}(ry:RelV y u):KV (putK kvs k y) (stored vs k u):=by
 unfold putK stored
 rw[r.any k]
 by_cases e:(vs.any fun kv=>decide (kv.1=k))=true
 ·rw[if_pos e,if_pos e];exact r.z6 k ry
 ·rw[if_neg e,if_neg e];exact Paired.snoc r ⟨rfl,ry⟩
theorem KV.length {kvs:List (κ×V)}{vs:List (κ×Value)}(r:KV kvs vs):kvs.length=vs.length:=Paired.length r
end


theorem mY {P:Program}{w:World}{k:Key}{u:Value}(r:RelV (kV k) u):(aP P w).is k u=true:=by
 cases k with
 | inl i=>obtain⟨t,e⟩:=(show ∃ t,u=Value.int i t from r);subst e;exact o9 P w i t
 | inr x=>obtain⟨t,e⟩:=(show ∃ t,u=Value.str x t from r);subst e;exact pe P w x t
theorem mZ {P:Program}{w:World}:∀ {ks:List Key} {us:List Value},Vals (ks.map kV) us→ItemsAre (aP P w) ks us
 | [],_,r=>by rw[List.map_nil] at r;cases r;exact .nil
 | k::ks,_,r=>by
  rw[List.map_cons] at r
  cases r with
  | cons h t=>exact .cons (mY h) (mZ t)

noncomputable abbrev KT (H:Hp):List (List Key×V)→List (List Key×Addr×Value)→Prop:=Paired fun p q=>p.1=q.1∧H q.2.1=some (.tup (p.1.map kV))∧RelV p.2 q.2.2
theorem KT.val {H:Hp}{kvs:List (List Key×V)}{xs:List (List Key×Addr×Value)}(r:KT H kvs xs)(k:List Key):iD (bj kvs k) ((atKey xs k).map (·.2)):=by
 induction r with
 | nil=>exact True.intro
 | @cons p q ps qs h t ih =>
  obtain⟨h1,_,h2⟩:=h
  by_cases e:p.1=k
  ·have e':q.1=k:=h1.symm.trans e
   have b:atKey (q::qs) k=some q.2:=by simp[atKey,List.find?_cons,e']
   rw[bU e,b];exact h2
  ·have e':¬ q.1=k:=fun z=>e (h1.trans z)
   have b:atKey (q::qs) k=atKey qs k:=by simp[atKey,List.find?_cons,e']
   rw[bV e,b];exact ih
theorem KT.z6 {H:Hp}{kvs:List (List Key×V)}{xs:List (List Key×Addr×Value)}(r:KT H kvs xs)(k:List Key){y:V}{u:Value}(ry:RelV y u) :
  KT H (kvs.map fun kv=>if kv.1=k then (kv.1,y) else kv) (xs.map (putAt k u)):=by
 induction r with
 | nil=>exact .nil
 | @cons p q ps qs h t ih =>
  rw[List.map_cons,List.map_cons]
  refine .cons ?_ ih
  obtain⟨h1,h2,h3⟩:=h
  unfold putAt
  by_cases e:p.1=k
  ·rw[if_pos e,if_pos (h1.symm.trans e)];exact⟨h1,h2,ry⟩
  ·rw[if_neg e,if_neg (fun z=>e (h1.trans z))];exact⟨h1,h2,h3⟩
theorem KT.put {H:Hp}{kvs:List (List Key×V)}{xs:List (List Key×Addr×Value)}(r:KT H kvs xs)(k:List Key){b:Addr}{y:V}{u:Value}(hb:H b=some (.tup (k.map kV)))(ry:RelV y u) :
  KT H (putK kvs k y) (storedH xs k b u):=by
 have e:(kvs.any fun kv=>decide (kv.1=k))=(atKey xs k).isSome:=by
  rw[dU,(r.val k).mX,Option.isSome_map]
 unfold putK storedH
 rw[e]
 by_cases q:(atKey xs k).isSome=true
 ·rw[if_pos q,if_pos q];exact r.z6 k ry
 ·rw[if_neg q,if_neg q];exact Paired.snoc r ⟨rfl,hb,ry⟩
theorem KT.keeps {H H':Hp}{kvs:List (List Key×V)}{xs:List (List Key×Addr×Value)}(r:KT H kvs xs)(ht:∀ b ys,H b=some (.tup ys)→H' b=some (.tup ys)):KT H' kvs xs :=
 Paired.mn r fun _ _ z=>⟨z.1,ht _ _ z.2.1,z.2.2⟩

section
variable {P:Program}{w:World}{H:Hp}{h:Heap}{a:Addr}
theorem zk {u:HO}(ok:HOk P w H h)(e:Rd H a u):bb P w H h a u:=e.ok ok
theorem sh {kvs:List (Key×V)}(ok:HOk P w H h)(e:Rd H a (.dK kvs)):kvs.length≤sizeLine∧(a == sysModules)=false∧∃ vs,KV kvs vs∧h.DictOf (aP P w) a vs :=
 show bb P w H h a (.dK kvs) from zk ok e
theorem pC {kvs:List (Key×V)}(ok:HOk P w H h)(e:H a=some (.dK kvs)):kvs.length≤sizeLine∧(a == sysModules)=false∧∃ vs,KV kvs vs∧h.DictOf (aP P w) a vs:=sh ok (.inl e)
theorem jV {ks:List Key}(ok:HOk P w H h)(e:H a=some (.tup (ks.map kV))):(tupleKind (aP P w)).is h ks a:=by
 obtain⟨_,its,r,o,h1,h2,n,h3⟩:=(show bb P w H h a (.tup (ks.map kV)) from ok a _ e)
 exact⟨o,its.toArray,n,h1,h2,h3,by simpa using mZ r⟩
theorem si {kvs:List (List Key×V)}(ok:HOk P w H h)(e:Rd H a (.dT kvs)):kvs.length≤sizeLine∧(a == sysModules)=false ∧
  ∃ xs,KT H kvs xs∧h.DictOfH (tupleKind (aP P w)) a xs:=by
 obtain⟨z,y,xs,r,o,es,ep,h1,h2,h3,h4,h5⟩:=(show bb P w H h a (.dT kvs) from zk ok e)
 refine⟨z,y,xs,r,o,es,ep,h1,h2,h3,h4,fun x hx=>?_,h5⟩
 have all:∀ {l:List (List Key×V)} {m:List (List Key×Addr×Value)},KT H l m→∀ x∈m,(tupleKind (aP P w)).is h x.1 x.2.1:=by
  intro l m q
  induction q with
  | nil=>intro x hx;exact nomatch hx
  | @cons p q ps qs hq t ih =>
   intro x hx
   rcases List.mem_cons.mp hx with e | hx
   ·subst e
    exact jV ok (by rw[← hq.1];exact hq.2.1)
   ·exact ih x hx
 exact all r x hx
theorem vc {kvs : List (List Key × V)}(ok : HOk P w H h)(e : H a=some (.dT kvs)) : kvs.length ≤ sizeLine ∧ (a == sysModules)=false ∧
    ∃ xs, KT H kvs xs ∧ h.DictOfH (tupleKind (aP P w)) a xs := si ok (.inl e)
end

noncomputable def pD (H:Hp)(a:Addr)(y:V)(r:Option V):Prop :=
 (∃ kvs k,Rd H a (.dK kvs)∧y=kV k∧r=bj kvs k)∨∃ kvs k b,Rd H a (.dT kvs)∧y=.ref b∧H b=some (.tup (k.map kV))∧r=bj kvs k
noncomputable def ua (H:Hp)(a:Addr)(y v:V)(H':Hp):Prop :=
 (∃ kvs k,H a=some (.dK kvs)∧y=kV k∧kvs.length<sizeLine∧H'=upd H a (.dK (putK kvs k v))) ∨
 ∃ kvs k b,H a=some (.dT kvs)∧y=.ref b∧H b=some (.tup (k.map kV))∧kvs.length<sizeLine∧H'=upd H a (.dT (putK kvs k v))
theorem pD.k {H:Hp}{a:Addr}{kvs:List (Key×V)}{k:Key}(e:H a=some (.dK kvs)):pD H a (kV k) (bj kvs k):=.inl ⟨kvs,k,.inl e,rfl,rfl⟩
theorem ua.k {H:Hp}{a:Addr}{kvs:List (Key×V)}{k:Key}{v:V}(e:H a=some (.dK kvs))(hl:kvs.length<sizeLine):ua H a (kV k) v (upd H a (.dK (putK kvs k v))):=.inl ⟨kvs,k,e,rfl,hl,rfl⟩
section
variable {X:Cx}{pins:List (Addr×Obj)}{σ:St}{H:Hp}{s:Shared}{a:Addr}{y v:V}{u r:Value}{o:Option V}{A:Around}{E:Value→Shared→Prop}

theorem Inv.big (I:Inv X pins σ H s):sysModules<s.heap.objs.size:=by
 have h:mainGlobals<s.heap.objs.size:=(I.mod.glob.keeps I.bk).lt
 exact Nat.lt_trans (by decide) h

theorem ub {Q:Value→Shared→Prop}(hu:A.units+1<cLine)(I:Inv X pins σ H s)(g:pD H a y (some v))(ry:RelV y u)(h:∀ w' s',Inv X pins σ H s'→RelV v w'→Q w' s') :
  wpAny (model X.prog X.w) A (getItem (.ref a) u) Q E s:=by
 rcases g with ⟨kvs,k,e,ey,l⟩ | ⟨kvs,k,b,e,ey,eb,l⟩
 ·subst ey
  obtain⟨z,hd,vs,rel,dd⟩:=sh I.hok e
  obtain⟨w',hw,rw'⟩:=iD.some_of (v:=v) (o:=valueAt vs k) (by rw[l];exact rel.val k)
  exact wpAny_getItem_of (mY ry) dd.mapOf hw (h w' _ (I.tok _) rw')
 ·subst ey
  cases (show u=Value.ref b from ry)
  obtain⟨z,hd,xs,rel,dd⟩:=si I.hok e
  obtain⟨w',hw,rw'⟩:=iD.some_of (v:=v) (o:=(atKey xs k).map (·.2)) (by rw[l];exact rel.val k)
  obtain⟨p,hp,hp2⟩:=Option.map_eq_some_iff.mp hw
  refine wpAny_getItem_heap (tupleKind_room_in1 hu) (jV I.hok eb) dd hp ?_
  rw[hp2]
  exact h w' _ (I.tok _) rw'
theorem ip {h':Heap}{t':Nat}{ob:HO}(I:Inv X pins σ H s)(mu:Mut (H a))(hs:Heap.SameBut a s.heap h')(he:∃ q,h'.get? a=some q)(new:bb X.prog X.w (upd H a ob) h' a ob) :
  Inv X pins σ (upd H a ob) { s with heap:=h',toks:=t' } :=
 I.write (x:=a) (e:=a) mu (.inl rfl) (fun b q hb z=>(hs.2 b hb).trans z) he new
theorem vd {P : Program}{w : World}{H' : Hp}{h' : Heap}{kvs : List (Key × V)}{vs : List (Key × Value)}(z : kvs.length ≤ sizeLine)(hd : (a == sysModules)=false)(rel : KV kvs vs)(dd : h'.DictOf (aP P w) a vs) :
    bb P w H' h' a (.dK kvs) := ⟨z, hd, vs, rel, dd⟩
theorem uc {H':Hp}{Q:Unit→Shared→Prop}(hu:A.units+1<cLine)(I:Inv X pins σ H s)(g:ua H a y v H')(ry:RelV y u)(rv:RelV v r)(h:∀ s',Inv X pins σ H' s'→Q () s') :
  wpAny (model X.prog X.w) A (setItem (.ref a) u r) Q E s:=by
 rcases g with ⟨kvs,k,e,ey,l,eH⟩ | ⟨kvs,k,b,e,ey,eb,l,eH⟩
 ·subst ey eH
  obtain⟨z,hd,vs,rel,dd⟩:=pC I.hok e
  have hz:vs.length≤sizeLine:=by rw[← rel.length];exact z
  have hl:(putK kvs k v).length≤sizeLine:=by have:=cm kvs k v;omega
  refine wpAny_setItem_pairs (hsz:=hz) (mY ry) dd fun h' dd' hs=>h _ ?_
  have he:∃ q,h'.get? a=some q:=let ⟨q,_,_,hq,_⟩:=dd';⟨q,hq⟩
  exact ip I (by rw[e];exact True.intro) hs he (vd hl hd (rel.put k rv) dd')
 ·subst ey eH
  cases (show u=Value.ref b from ry)
  obtain⟨z,hd,xs,rel,dd⟩:=vc I.hok e
  have hz:xs.length≤sizeLine:=by rw[← Paired.length rel];exact z
  have hl:(putK kvs k v).length≤sizeLine:=by have:=cm kvs k v;omega
  refine wpAny_setItem_heap (hsz:=hz) (tupleKind_room_in1 hu) (jV I.hok eb) dd fun h' dd' hs=>h _ ?_
  obtain⟨q,es,ep,hq,h2,h3,h4,_,h5⟩:=dd'
  refine ip I (by rw[e];exact True.intro) hs ⟨q,hq⟩ ⟨hl,hd,_,(rel.put k eb rv).keeps fun c ys ec=>?_,q,es,ep,hq,h2,h3,h4,h5⟩
  rw[ao (uS ec e (fun z=>nomatch z))]
  exact ec
end



noncomputable def ve (i:Expr):Prop:=∀ ov iv,subscripted i false ov iv=operate [ov,iv] (getItem ov iv)
theorem nZ {prog:Program}{w:World}{A:Around}{E:Value→Shared→Prop}{s:Shared}{env:Env}{value slice:Expr}{pos:Pos}{T id:String}{Q:Value→Shared→Prop}
  (hl:typeLookup (.type T) "__getitem__" = pure (some (.builtin id))) (hs:ve slice)
  (h:wpAny (model prog w) A (eval value env) (fun o s₁=>wpAny (model prog w) A (eval slice env) (fun i s₂=>s₂.TypeIs o T∧wpAny (model prog w) A (getItem o i) Q E s₂) E s₁) E s) :
  wpAny (model prog w) A (eval (.Subscript value slice pos) env) Q E s:=by
 refine Subscript_ (wpAny_mono h (fun o s₁ h₁=>wpAny_mono h₁ (fun i s₂ h₂=>?_) fun _ _ x=>x) fun _ _ x=>x)
 obtain⟨hT,h₂⟩:=h₂
 unfold subscriptTail
 refine wpAny_bind ?_
 rw[getitemInPython_of_ne hT.not_modules]
 refine wpAny_bind (wpAny_specialOf hT hl ?_)
 have fin:wpAny (model prog w) A (subscripted slice false o i) (fun r s₃=>wpAny (model prog w) A (letTemporaryGo value o r >>= fun _=>pure r) Q E s₃) E s₂:=by
  rw[hs o i]
  exact wpAny_operating (wpAny_mono h₂ (fun r s₃ h₃=>wpAny_bind (wpAny_letTemporaryGo (wpAny_pure h₃))) fun _ _ x=>x)
 first
  | exact wpAny_pure (wpAny_bind fin)
  | exact wpAny_bind (wpAny_pure (wpAny_bind fin))
  | exact wpAny_bind fin

theorem pE {X:Cx}{pins:List (Addr×Obj)}{σ:St}{H:Hp}{s:Shared}{a:Addr}{y:V}{o:Option V}(I:Inv X pins σ H s)(g:pD H a y o):s.TypeIs (.ref a) "dict":=by
 rcases g with ⟨kvs,k,e,_,_⟩ | ⟨kvs,k,b,e,_,_,_⟩
 ·obtain⟨_,_,vs,_,dd⟩:=sh I.hok e
  exact dd.typeIs
 ·obtain⟨_,_,xs,_,dd⟩:=si I.hok e
  exact dd.typeIs
noncomputable def By (td ty:TE):TE:=fun σ H Q=>td σ H fun x H1=>ty σ H1 fun y H2=>∃ a v,x=.ref a∧pD H2 a y (some v)∧Q v H2
noncomputable def Bz (td ty tv:TE):TS:=fun D σ H=>tv σ H fun v H1=>td σ H1 fun x H2=>ty σ H2 fun y H3=>∃ a H4,x=.ref a∧ua H3 a y v H4∧D.nx σ H4
section
variable {X:Cx}{o i e value:Expr}{pos pos' CL:Pos}{td ty tv:TE}
theorem n0 (hu:X.A.units+1<cLine)(ho:PE X o td)(hi:PE X i ty)(hs:ve i):PE X (.Subscript o i pos) (By td ty):=by
 intro pins s σ H Q I h
 refine nZ PySem.F.slot_dict_getitem.lookup hs (thn (ho pins s σ H _ I h) fun u s1 ⟨x,H1,I1,rx,q1⟩=>thn (hi pins s1 σ H1 _ I1 q1) fun iv s2 ⟨y,H2,I2,ry,a,v,ex,g,q2⟩=>?_)
 subst ex
 obtain rfl:u=Value.ref a:=rx
 exact⟨pE I2 g,ub hu I2 g ry fun w' s3 I3 rw'=>⟨v,H2,I3,rw',q2⟩⟩
theorem sj (hu:X.A.units+1<cLine)(ho:PE X o td)(hi:PE X i ty)(hv:PE X value tv)(hs:swapsWith value (some (.Subscript o i pos')) pos.line X.env=pure false) :
  PS X (.Assign [.Subscript o i pos'] value pos) (Bz td ty tv):=by
 intro pins s σ H D I h
 refine wpAny_Assign_Subscript (thn (hv pins s σ H _ I h) fun r s1 ⟨v,H1,I1,rv,q1⟩=>thn (ho pins s1 σ H1 _ I1 q1) fun u s2 ⟨x,H2,I2,rx,q2⟩=>thn (hi pins s2 σ H2 _ I2 q2) fun iv s3 ⟨y,H3,I3,ry,a,H4,ex,g,q3⟩=>?_) hs
 subst ex
 obtain rfl:u=Value.ref a:=rx
 exact uc hu I3 g ry rv fun s4 I4=>⟨σ,H4,I4,q3⟩
end


theorem vf {P:Program}{w:World}{H:Hp}(h:Heap)(hb:sysModules<h.objs.size):bb P w H (h.push { cls:=.type "dict",data:=.dict #[] }) h.objs.size (.dK []) :=
 ⟨Nat.zero_le _,beq_eq_false_iff_ne.mpr (Ne.symm (Nat.ne_of_lt hb)),[],.nil,Heap.DictOf.new h⟩
theorem vg {P:Program}{w:World}{H:Hp}(h:Heap)(hb:sysModules<h.objs.size):bb P w H (h.push { cls:=.type "dict",data:=.dict #[] }) h.objs.size (.dT []) :=
 ⟨Nat.zero_le _,beq_eq_false_iff_ne.mpr (Ne.symm (Nat.ne_of_lt hb)),[],.nil,_,#[],0,Heap.get?_push_size _ rfl,⟨rfl,rfl,rfl⟩,rfl,rfl,List.nodup_nil⟩
noncomputable def z7:TE:=fun _ H Q=>∀ p,H p=none→Q (.ref p) (upd H p (.dK []))
noncomputable def Aa:TE:=fun _ H Q=>∀ p,H p=none→Q (.ref p) (upd H p (.dT []))
section
variable {X:Cx}{pos:Pos}
theorem lh:PE X (.Dict [] [] pos) z7:=fun pins s σ H Q I h =>
 wpAny_Dict_empty ⟨.ref s.heap.objs.size,_,I.laid (a:=s.heap.objs.size) (o:=.dK []) (t':=s.toks) (fun _ _ q=>Heap.get?_push_of_some _ q) (Nat.le_refl _) (vf s.heap I.big),rfl,h _ (I.hok.fresh (Nat.le_refl _))⟩
theorem vh:PE X (.Dict [] [] pos) Aa:=fun pins s σ H Q I h =>
 wpAny_Dict_empty ⟨.ref s.heap.objs.size,_,I.laid (a:=s.heap.objs.size) (o:=.dT []) (t':=s.toks) (fun _ _ q=>Heap.get?_push_of_some _ q) (Nat.le_refl _) (vg s.heap I.big),rfl,h _ (I.hok.fresh (Nat.le_refl _))⟩
end

structure M2 (X:Cx) (o:Expr) (m:Str) (apos:Pos) (e f:Expr) (cp:Pos):Prop where
 base:attributeBase o m X.env (eval o X.env)=eval o X.env
 few:((backTo cp (starEach [e,f] X.env)).all (fun x=>!x.1)&&(backToKw cp (keywordEach [] X.env)).all (fun x=>x.1.isSome)
  && decide (([e,f]:List Expr).length+([]:List Keyword).length+(if ([]:List Keyword).isEmpty then 0 else 1)<30))=true
 line:(apos.endLine == cp.line)=true
 trees:backTo cp (starEach [e,f] X.env)=[(false,eval e X.env),(false,eval f X.env)]

noncomputable def IsD (H:Hp)(a:Addr):Prop:=(∃ kvs,Rd H a (.dK kvs))∨∃ kvs,Rd H a (.dT kvs)
theorem vi {X:Cx}{pins:List (Addr×Obj)}{σ:St}{H:Hp}{s:Shared}{a:Addr}(I:Inv X pins σ H s)(d:IsD H a) :
  s.TypeIs (.ref a) "dict"∧(∀ b,Value.ref a=.ref b→∃ ob,s.heap.get? b=some ob∧ob.dict=none)∧(a == sysModules)=false:=by
 rcases d with ⟨kvs,e⟩ | ⟨kvs,e⟩
 ·obtain⟨_,hd,vs,_,dd⟩:=sh I.hok e
  refine⟨dd.typeIs,fun b q=>?_,hd⟩
  cases q
  obtain⟨ob,_,_,h1,h2,_⟩:=dd
  exact⟨ob,h1,h2.2.1⟩
 ·obtain⟨_,hd,xs,_,dd⟩:=si I.hok e
  refine⟨dd.typeIs,fun b q=>?_,hd⟩
  cases q
  obtain⟨ob,_,_,h1,h2,_⟩:=dd
  exact⟨ob,h1,h2.2.1⟩





end L2


namespace HT
open PySem PyProof.Rows


section
variable {prog:Program}{w:World}{A:Around}{E:Value→Shared→Prop}{s:Shared}

theorem xR {t b:Addr}{vs ws:List Value}{Q:Value→Shared→Prop}(ht:IsTup s.heap t vs.toArray)(hb:IsTup s.heap b ws.toArray)(hv:vs≠[])
  (h1:ws=[]→Q (.ref t) s) (h2:ws≠[]→Q (.ref s.heap.objs.size) { s with heap:=s.heap.push { cls:=.type "tuple",data:=.seq (vs++ws).toArray } })
  (hsz:vs.length+ws.length≤sizeLine):wpAny (model prog w) A (binaryOp .Add (.ref t) (.ref b)) Q E s:=by
 obtain⟨⟨cls,dd,data,sl⟩,ho,hc,n,hd⟩:=id ht
 obtain⟨⟨BA,dd2,data2,sl2⟩,ho2,hc2,n2,hd2⟩:=id hb
 simp only at hc hd hc2 hd2
 subst hc hd hc2 hd2
 have e:vs.toArray++ws.toArray=(vs++ws).toArray:=by simp
 by_cases hw:ws=[]
 ·exact concat_meets ⟨_,ho,rfl⟩ ⟨_,ho2,rfl⟩ noFill_tuple_add seq_tuple_add PySem.F.slot_tuple_add PySem.F.entry_tuple_add (PySem.F.args_tuple_add_2 _ _)
   (tuple_addW1 t b vs.toArray ws.toArray n n2 dd dd2 sl sl2 (by simpa using hv) (by simp[hw])) ⟨ho,ho2,h1 hw⟩
 ·refine concat_meets ⟨_,ho,rfl⟩ ⟨_,ho2,rfl⟩ noFill_tuple_add seq_tuple_add PySem.F.slot_tuple_add PySem.F.entry_tuple_add (PySem.F.args_tuple_add_2 _ _)
   (tuple_addW2 t b vs.toArray ws.toArray n n2 dd dd2 sl sl2 (by simpa using hv) (by simpa using hw) (by rw[List.size_toArray,List.size_toArray];exact hsz)) ⟨ho,ho2,?_⟩
  rw[e]
  exact h2 hw

noncomputable def sIx (n d:Nat):Option Int→Nat
 | none=>d
 | some v=>if v<0 then (v+(n:Int)).toNat else min v.toNat n
end
end HT

namespace L2
open PySem PySem.Spec PyProof.Rows

noncomputable abbrev TO:=St→Hp→(Option Int→Hp→Prop)→Prop
noncomputable def PO (X:Cx)(e:Option Expr)(t:TO):Prop :=
 ∀ (pins:List (Addr×Obj)) (s:Shared) (σ:St) (H:Hp) (Q:Option Int→Hp→Prop),Inv X pins σ H s→t σ H Q →
  wpAny (model X.prog X.w) X.A (evalPart e X.env) (fun u s'=>∃ o H',Inv X pins σ H' s'∧IsPart u o∧Q o H') X.xe s
noncomputable def xS:TO:=fun _ H Q=>Q none H
noncomputable def BB (t:TE):TO:=fun σ H Q=>t σ H fun x H1=>∃ i,x=.int i∧Q (some i) H1

section
variable {X:Cx}{e:Expr}{te:TE}{lo hi:Option Expr}{tl th:TO}{pos p2:Pos}

theorem c7:PO X none xS:=by
 intro pins s σ H Q I h
 rw[evalPart_none]
 exact wpAny_pure ⟨none,H,I,.none,h⟩
theorem c8 (h:PE X e te):PO X (some e) (BB te):=by
 intro pins s σ H Q I hw
 rw[evalPart_some]
 refine thn (h pins s σ H _ I hw) fun u s1 ⟨x,H1,I1,r1,q1⟩=>?_
 obtain⟨i,rfl,q⟩:=q1
 obtain⟨t,rfl⟩:=r1
 exact⟨some i,H1,I1,.int i t,q⟩

noncomputable def SlR (X:Cx)(r:V→Option Int→Option Int→Hp→VK→Prop):Prop :=
 ∀ (pins:List (Addr×Obj)) (s:Shared) (σ:St) (H:Hp) (x:V) (v vl vu:Value) (lo hi:Option Int) (sl:Addr) (Q:VK),Inv X pins σ H s→RelV x v→s.heap.IsSliceOf sl vl vu .none→IsPart vl lo→IsPart vu hi→r x lo hi H Q →
  ∃ T id,typeLookup (.type T) "__getitem__" = pure (some (.builtin id))∧s.TypeIs v T∧wpAny (model X.prog X.w) X.A (getItem v (.ref sl)) (EP X pins σ Q) X.xe s
noncomputable def tSl (r:V→Option Int→Option Int→Hp→VK→Prop)(te:TE)(tl th:TO):TE:=fun σ H Q=>te σ H fun x H1=>tl σ H1 fun l H2=>th σ H2 fun u H3=>r x l u H3 Q
theorem cq {r:V→Option Int→Option Int→Hp→VK→Prop}(hr:SlR X r)(he:PE X e te)(hl:PO X lo tl)(hu:PO X hi th):PE X (.Subscript e (.Slice lo hi none p2) pos) (tSl r te tl th):=by
 intro pins s σ H Q I h
 refine Subscript_ (thn (he pins s σ H _ I h) fun v s1 ⟨x,H1,I1,r1,q1⟩=>?_)
 refine wpAny_Slice (thn (hl pins s1 σ H1 _ I1 q1) fun vl s2 ⟨l,H2,I2,pl,q2⟩=>thn (hu pins s2 σ H2 _ I2 q2) fun vu s3 ⟨u,H3,I3,pu,q3⟩=>?_)
 rw[evalPart_none]
 refine wpAny_pure ?_
 have I4:Inv X pins σ H3 { s3 with heap:=s3.heap.push { cls:=.type "slice",data:=.fields #[vl,vu,.none] } }:=I3.kept (t':=s3.toks) fun b ob q=>Heap.get?_push_of_some _ q
 obtain⟨T,id,hT,ht,hg⟩:=hr pins { s3 with heap:=s3.heap.push { cls:=.type "slice",data:=.fields #[vl,vu,.none] } } σ H3 x v vl vu l u s3.heap.objs.size Q I4 r1 (Heap.IsSliceOf.new ..) pl pu q3
 show wpAny (model X.prog X.w) X.A (subscriptTail e (.Slice lo hi none p2) v (.ref s3.heap.objs.size)) (EP X pins σ Q) X.xe { s3 with heap:=s3.heap.push { cls:=.type "slice",data:=.fields #[vl,vu,.none] } }
 exact tail_any (ops:=[.ref s3.heap.objs.size,v]) ht hT hg (by with_unfolding_all rfl)

noncomputable def jd (xs:List V)(lo hi:Option Int):List V:=(xs.drop (HT.sIx xs.length 0 lo)).take (HT.sIx xs.length xs.length hi-HT.sIx xs.length 0 lo)
theorem pF (xs:List V)(lo hi:Option Int):(jd xs lo hi).length≤xs.length:=by
 unfold jd
 rw[List.length_take,List.length_drop]
 omega
noncomputable def BC (K:PySem.W.Frag):R2:=fun x y H Q=>∃ a b xs ys,x=.ref a∧y=.ref b∧SqT K H a xs∧SqT K H b ys∧xs≠[]∧xs.length+ys.length≤sizeLine ∧
 (ys=[]→Q (.ref a) H)∧(ys≠[]→∀ p,H p=none→Q (.ref p) (upd H p (.tup (xs++ys))))
theorem Vals.je {xs:List V}{us:List Value}(r:Vals xs us):us=[]↔xs=[]:=by
 cases r with
 | nil=>simp
 | cons _ _=>simp
theorem sm:OpR X (binaryOp .Add) (BC X.K):=by
 intro pins s σ H x y v u Q I rx ry h
 obtain⟨a,b,xs,ys,rfl,rfl,ha,hb,hx,hz,q1,q2⟩:=h
 cases rx
 cases ry
 obtain⟨its,r1,p1,_⟩:=I.tuple ha
 obtain⟨kJ,r2,p2,_⟩:=I.tuple hb
 refine HT.xR p1 p2 (fun z=>hx (r1.je.mp z)) (fun z=>⟨.ref a,H,I,rfl,q1 (r2.je.mp z)⟩) (fun z=>?_) (by rw[← r1.length,← r2.length];exact hz)
 refine⟨.ref s.heap.objs.size,_,I.laid (t':=s.toks) (o:=.tup (xs++ys)) (fun b ob q=>Heap.get?_push_of_some _ q) (Nat.le_refl _) ?_,rfl,q2 (fun w=>z (r2.je.mpr w)) _ (I.hok.fresh (Nat.le_refl _))⟩
 exact⟨by rw[List.length_append];exact hz,_,r1.append r2,IsTup.new _ _⟩
end
end L2

namespace L2
open PySem PySem.Spec PyProof.Rows

noncomputable def ixN (n:Nat)(i:Int):Option Nat:=if 0≤i then (if i<n then some i.toNat else none) else if -(n:Int)≤i then some (i+n).toNat else none
noncomputable def atI {α:Type}(xs:List α)(i:Int):Option α:=(ixN xs.length i).bind fun j=>xs[j]?
theorem so {n:Nat}{i:Int}{j:Nat}(h:ixN n i=some j):seqIndex? i n=some j∧j<n∧-(n:Int)≤i∧i<n:=by
 unfold ixN at h
 by_cases h0:0≤i
 ·rw[if_pos h0] at h
  by_cases h1:i<n
  ·rw[if_pos h1] at h
   have e:i.toNat=j:=Option.some.inj h
   exact⟨by rw[seqIndex_of h0 h1,e],by omega,by omega,h1⟩
  ·rw[if_neg h1] at h;cases h
 ·rw[if_neg h0] at h
  by_cases h1:-(n:Int)≤i
  ·rw[if_pos h1] at h
   have e:(i+n).toNat=j:=Option.some.inj h
   exact⟨by rw[seqIndex_neg (by omega) h1,e],by omega,h1,by omega⟩
  ·rw[if_neg h1] at h;cases h
theorem sq {α:Type}{xs:List α}{i:Int}{v:α}(h:atI xs i=some v):∃ j,seqIndex? i xs.length=some j∧xs[j]?=some v∧j<xs.length∧-(xs.length:Int)≤i∧i<xs.length:=by
 unfold atI at h
 cases e:ixN xs.length i with
 | none=>rw[e] at h;cases h
 | some j =>
  rw[e] at h
  obtain⟨h1,h2,h3,h4⟩:=so e
  exact⟨j,h1,h,h2,h3,h4⟩
theorem aW {α:Type}{xs:List α}{j:Nat}{v:α}(h:xs[j]?=some v):atI xs (j:Int)=some v:=by
 have hj:j<xs.length:=(List.getElem?_eq_some_iff.mp h).1
 have e:ixN xs.length (j:Int)=some j:=by
  unfold ixN
  rw[if_pos (by omega),if_pos (by omega)];simp
 unfold atI;rw[e];exact h
theorem vj {α:Type}(xs:List α)(v:α):atI (xs++[v]) (-1)=some v:=by
 have hl:(xs++[v]).length=xs.length+1:=by simp
 have e:ixN (xs++[v]).length (-1)=some xs.length:=by
  unfold ixN
  rw[hl,if_neg (by decide),if_pos (by omega)]
  congr 1
  omega
 unfold atI
 rw[e]
 show (xs++[v])[xs.length]?=some v
 simp

noncomputable def xT (b:Expr):Prop:=∀ o i,subscripted b false o i=operate [o,i] (getItem o i)
noncomputable def IxR (X:Cx)(r:R2):Prop :=
 ∀ (value slice:Expr) (pins:List (Addr×Obj)) (s:Shared) (σ:St) (H:Hp) (x y:V) (v u:Value) (Q:VK),Inv X pins σ H s→RelV x v→RelV y u→r x y H Q →
  subscripted slice false v u=operate [v,u] (getItem v u)→wpAny (model X.prog X.w) X.A (subscriptTail value slice v u) (EP X pins σ Q) X.xe s
noncomputable def MtR (X:Cx)(id:String)(r:V→List V→Hp→VK→Prop):Prop :=
 ∀ (pins:List (Addr×Obj)) (s:Shared) (σ:St) (H:Hp) (x:V) (xs:List V) (v:Value) (us:List Value) (Q:VK),Inv X pins σ H s→RelV x v→Vals xs us→r x xs H Q →
  wpAny (model X.prog X.w) X.A (call (.builtin id) (v::us)) (EP X pins σ Q) X.xe s
section
variable {X:Cx}{a b:Expr}{ta tb:TE}{pos:Pos}
theorem aR {r:R2}(hr:IxR X r)(ha:PE X a ta)(hb:PE X b tb)(hs:xT b):PE X (.Subscript a b pos) (tOp r ta tb):=by
 intro pins s σ H Q I h
 exact Subscript_ (zU ha hb I h fun v u s2 x y H2 I2 rx ry q=>hr a b pins s2 σ H2 x y v u Q I2 rx ry q (hs _ _))

noncomputable def vk (K:PySem.W.Frag):R2:=fun x y H Q=>∃ p xs i v,x=.ref p∧y=.int i∧SqL K H p xs∧atI xs i=some v∧Q v H
noncomputable def BD (K:PySem.W.Frag):R2:=fun x y H Q=>∃ p xs i v,x=.ref p∧y=.int i∧SqT K H p xs∧atI xs i=some v∧Q v H
theorem a9:IxR X (vk X.K):=by
 intro value slice pins s σ H x y v u Q I rx ry h hs
 obtain⟨p,xs,i,z,rfl,rfl,hq,he,q⟩:=h
 cases rx
 obtain⟨t,rfl⟩:=ry
 obtain⟨its,r,pl,hz⟩:=I.list hq
 obtain⟨j,h1,h2,h3,h4,h5⟩:=sq he
 obtain⟨w,ew,rw'⟩:=r.get h2
 have hl:=r.length
 have hn:=nY
 have fin:EP X pins σ Q w s:=⟨z,H,I,rw',q⟩
 by_cases h0:0≤i
 ·have hj:i.toNat=j:=by
   rw[seqIndex_of h0 h5] at h1
   exact Option.some.inj h1
  exact item_listR pl.isList h0 (by omega) (by rw[hj];simpa using ew) fin hs
 ·have hj:(i+(its.toArray.size:Int)).toNat=j:=by
   rw[seqIndex_neg (by omega) h4] at h1
   rw[List.size_toArray,← hl]
   exact Option.some.inj h1
  exact subscriptTail_builtinR (x:=w) pl.isList.typeIs slot_list_getitem.lookup
   (wpAny_getItem_list_neg (Q:=fun r s'=>r=w∧EP X pins σ Q r s') pl.isList (by omega) (by rw[List.size_toArray] <;> omega) (by omega) (by rw[hj];simpa using ew) ⟨rfl,fin⟩) hs
theorem gT:IxR X (BD X.K):=by
 intro value slice pins s σ H x y v u Q I rx ry h hs
 obtain⟨p,xs,i,z,rfl,rfl,hq,he,q⟩:=h
 cases rx
 obtain⟨t,rfl⟩:=ry
 obtain⟨its,r,pl,hz⟩:=I.tuple hq
 obtain⟨j,h1,h2,h3,h4,h5⟩:=sq he
 obtain⟨w,ew,rw'⟩:=r.get h2
 have hl:=r.length
 have hn:=nY
 have fin:EP X pins σ Q w s:=⟨z,H,I,rw',q⟩
 exact subscriptTail_builtinR (x:=w) pl.typeIs slot_tuple_getitem.lookup
  (getItem_tuple (j:=j) (Q:=fun r s'=>r=w∧EP X pins σ Q r s') pl (by omega) (by omega) (by rw[List.size_toArray,← hl];exact h1) (by simpa using ew) ⟨rfl,fin⟩) hs
theorem qK (its:List Value)(n j:Nat)(u:Value):Obj.mapSeq (·.setIfInBounds j u) { cls:=.type "list",data:=.seq its.toArray n } = { cls:=.type "list",data:=.seq (its.set j u).toArray n }:=by
 simp[Obj.mapSeq]
theorem Inv.lst {pins:List (Addr×Obj)}{σ:St}{H:Hp}{s:Shared}{p:Addr}{xs:List V}(I:Inv X pins σ H s)(h:H p=some (.lst xs)) :
  ∃ (its:List Value) (n:Nat),Vals xs its∧s.heap.get? p=some { cls:=.type "list",data:=.seq its.toArray n }∧xs.length≤sizeLine:=by
 obtain⟨z,its,n,r,e⟩:=I.hok p _ h
 exact⟨its,n,r,e,z⟩
theorem Inv.Ac {pins:List (Addr×Obj)}{σ:St}{H:Hp}{s:Shared}{p:Addr}{xs ys:List V}{its its':List Value}{n n':Nat}{f:Obj→Obj}(I:Inv X pins σ H s)(h:H p=some (.lst xs))
  (ho:s.heap.get? p=some { cls:=.type "list",data:=.seq its.toArray n }) (hf:f { cls:=.type "list",data:=.seq its.toArray n } = { cls:=.type "list",data:=.seq its'.toArray n' }) (r:Vals ys its') (hz:ys.length≤sizeLine) (t:Nat) :
  Inv X pins σ (upd H p (.lst ys)) { s with heap:=s.heap.update p f,toks:=t }:=by
 have e:(s.heap.update p f).get? p=some { cls:=.type "list",data:=.seq its'.toArray n' }:=by
  rw[Heap.get?_update_self f ho (by rw[hf] <;> rfl),hf]
 refine I.write (x:=p) (e:=p) (by rw[h];trivial) (.inl rfl) (fun b u hb q=>(Heap.get?_update_other _ _ (Ne.symm hb)).trans q) ⟨_,e⟩ ?_
 exact⟨hz,its',n',r,e⟩
noncomputable def BE:V→V→V→Hp→(Hp→Prop)→Prop:=fun o i v H Q=>∃ p xs k j,o=.ref p∧i=.int k∧H p=some (.lst xs)∧ixN xs.length k=some j∧Q (upd H p (.lst (xs.set j v)))
theorem set_list:Bp X BE:=by
 intro pins s σ H o i v ov iv u Q I ro ri rv h
 obtain⟨p,xs,k,j,rfl,rfl,hp,hj,q⟩:=h
 cases ro
 obtain⟨t,rfl⟩:=ri
 obtain⟨its,n,r,ho,hz⟩:=I.lst hp
 obtain⟨h1,h2,h3,h4⟩:=so hj
 have hl:=r.length
 have hn:=nY
 have I':Inv X pins σ (upd H p (.lst (xs.set j v))) { s with heap:=s.heap.update p (Obj.mapSeq (·.setIfInBounds j u)) } :=
  I.Ac hp ho (qK its n j u) (r.set rv j) (by rw[List.length_set];exact hz) s.toks
 by_cases h0:0≤k
 ·have hk:k.toNat=j:=by
   rw[seqIndex_of h0 h4] at h1
   exact Option.some.inj h1
  exact PySem.W.ki_setAt ho h0 (by omega) (by rw[List.size_toArray,← hl];exact h4) (by rw[hk];exact⟨_,I',q⟩)
 ·have hk:(k+(its.toArray.size:Int)).toNat=j:=by
   rw[seqIndex_neg (by omega) h3] at h1
   rw[List.size_toArray,← hl]
   exact Option.some.inj h1
  exact PySem.W.ki_setBack ho (by omega) (by rw[List.size_toArray,← hl];exact h3) (by omega) (by rw[hk];exact⟨_,I',q⟩)

theorem n4 (lo hi:Option Int)(n:Nat):(sliceBounds lo hi none n).1=((HT.sIx n 0 lo:Nat):Int)∧(sliceBounds lo hi none n).2.1=((HT.sIx n n hi:Nat):Int)∧(sliceBounds lo hi none n).2.2=1:=by
 refine⟨?_,?_,rfl⟩
 ·cases lo with
  | none=>simp[sliceBounds,HT.sIx]
  | some i =>
   simp only[sliceBounds,HT.sIx,Option.getD_none,show (1:Int)>0 by decide,if_true]
   by_cases h:i<0
   ·simp only[h,if_true] <;> omega
   ·simp only[h,if_false] <;> omega
 ·cases hi with
  | none=>simp[sliceBounds,HT.sIx]
  | some i =>
   simp only[sliceBounds,HT.sIx,Option.getD_none,show (1:Int)>0 by decide,if_true]
   by_cases h:i<0
   ·simp only[h,if_true] <;> omega
   ·simp only[h,if_false] <;> omega
theorem mB (its:List Value)(lo hi:Option Int):slicePick its.toArray lo hi none=((its.drop (HT.sIx its.length 0 lo)).take (HT.sIx its.length its.length hi-HT.sIx its.length 0 lo)).toArray:=by
 obtain⟨h1,h2,h3⟩:=n4 lo hi its.toArray.size
 unfold slicePick
 rw[h1,h2,h3]
 simp only[sliceRange_one,pick_run,List.size_toArray] <;> rfl
noncomputable def CM (K:PySem.W.Frag):V→Option Int→Option Int→Hp→VK→Prop:=fun x lo hi H Q=>∃ a xs,x=.ref a∧SqL K H a xs∧∀ p,H p=none→Q (.ref p) (upd H p (.lst (jd xs lo hi)))
theorem c9:SlR X (CM X.K):=by
 intro pins s σ H x v vl vu lo hi sl Q I rx hs pl pu h
 obtain⟨a,xs,rfl,hx,q⟩:=h
 cases rx
 obtain⟨its,r,ht,hz⟩:=I.list hx
 have hlen:=r.length
 refine⟨"list",_,slot_list_getitem.lookup,ht.isList.typeIs,?_⟩
 refine wpAny_getItem_list_slice ht.isList hs pl pu .none (by simp) ?_ (by rw[List.size_toArray] <;> omega)
 rw[mB,← hlen]
 refine⟨.ref s.heap.objs.size,_,I.laid (t':=s.toks) (o:=.lst (jd xs lo hi)) (fun b ob q=>Heap.get?_push_of_some _ q) (Nat.le_refl _) ?_,rfl,q _ (I.hok.fresh (Nat.le_refl _))⟩
 exact⟨Nat.le_trans (pF xs lo hi) hz,_,0,(r.drop (HT.sIx xs.length 0 lo)).take (HT.sIx xs.length xs.length hi-HT.sIx xs.length 0 lo),Heap.get?_push_size _ rfl⟩

noncomputable def fY:V→Bool
 | .non=>true
 | .bl _=>true
 | .int _=>true
 | .str _=>true
 | _=>false
noncomputable def eqV:V→V→Bool
 | .non,.non=>true
 | .bl a,.bl b=>a == b
 | .bl a,.int b=>(if a then 1 else 0) == b
 | .int a,.bl b=>a == (if b then 1 else 0)
 | .int a,.int b=>a == b
 | .str a,.str b=>a == b
 | _,_=>false
theorem qL {A:Around}{s:Shared}{y x:V}{u v:Value}(ry:RelV y u)(rx:RelV x v)(fy:fY y=true)(fx:fY x=true):SeqAt.EqAt A s u v (eqV y x):=by
 cases y with
 | non =>
  cases ry
  cases x with
  | non=>cases rx;exact SeqAt.EqAt.same _
  | bl b=>cases rx;exact SeqAt.EqAt.none_bool b
  | int b=>obtain⟨t,rfl⟩:=rx;exact SeqAt.EqAt.none_int b t
  | str b=>obtain⟨t,rfl⟩:=rx;exact SeqAt.EqAt.none_str b t
  | _=>exact absurd (show false=true from fx) Bool.false_ne_true
 | bl a =>
  cases ry
  cases x with
  | non=>cases rx;exact SeqAt.EqAt.bool_none a
  | bl b=>cases rx;exact SeqAt.EqAt.bool_bool a b
  | int b=>obtain⟨t,rfl⟩:=rx;exact SeqAt.EqAt.bool_int a b t
  | str b=>obtain⟨t,rfl⟩:=rx;exact SeqAt.EqAt.bool_str a b t
  | _=>exact absurd (show false=true from fx) Bool.false_ne_true
 | int a =>
  obtain⟨t',rfl⟩:=ry
  cases x with
  | non=>cases rx;exact SeqAt.EqAt.int_none a t'
  | bl b=>cases rx;exact SeqAt.EqAt.int_bool a t' b
  | int b=>obtain⟨t,rfl⟩:=rx;exact SeqAt.EqAt.int_int a t' b t
  | str b=>obtain⟨t,rfl⟩:=rx;exact SeqAt.EqAt.int_str a t' b t
  | _=>exact absurd (show false=true from fx) Bool.false_ne_true
 | str a =>
  obtain⟨t',rfl⟩:=ry
  cases x with
  | non=>cases rx;exact SeqAt.EqAt.str_none a t'
  | bl b=>cases rx;exact SeqAt.EqAt.str_bool a t' b
  | int b=>obtain⟨t,rfl⟩:=rx;exact SeqAt.EqAt.str_int a t' b t
  | str b=>obtain⟨t,rfl⟩:=rx;exact SeqAt.EqAt.str_str a t' b t
  | _=>exact absurd (show false=true from fx) Bool.false_ne_true
 | _=>exact absurd (show false=true from fy) Bool.false_ne_true
noncomputable def eqU (x:V)(u:Value):Bool:=match u with
 | .none=>eqV .non x
 | .bool b=>eqV (.bl b) x
 | .int i _=>eqV (.int i) x
 | .str z _=>eqV (.str z) x
 | _=>false
theorem vm {x y:V}{u:Value}(r:RelV y u)(f:fY y=true):eqU x u=eqV y x:=by
 cases y with
 | non=>cases r;rfl
 | bl b=>cases r;rfl
 | int i=>obtain⟨t,rfl⟩:=r;rfl
 | str z=>obtain⟨t,rfl⟩:=r;rfl
 | _=>exact absurd (show false=true from f) Bool.false_ne_true
theorem n6 {x:V}:∀ {xs:List V} {us:List Value},Vals xs us→xs.all fY=true→us.any (eqU x)=xs.any fun y=>eqV y x
 | _,_,.nil,_=>rfl
 | y::xs,u::us,.cons r t,f=>by
  rw[List.all_cons,Bool.and_eq_true] at f
  rw[List.any_cons,List.any_cons,vm r f.1,n6 t f.2]
theorem lj {A:Around}{s:Shared}{x:V}{v:Value}(rx:RelV x v)(fx:fY x=true):∀ {xs:List V} {us:List Value},Vals xs us→xs.all fY=true→∀ u∈us,SeqAt.EqAt A s u v (eqU x u)
 | _,_,.nil,_=>fun u hu=>by cases hu
 | y::xs,u::us,.cons r t,f=>fun u' hu=>by
  rw[List.all_cons,Bool.and_eq_true] at f
  rcases List.mem_cons.mp hu with rfl | hu
  ·rw[vm r f.1];exact qL r rx f.1 fx
  ·exact lj rx fx t f.2 u' hu
noncomputable def inV (x:V)(xs:List V):Bool:=xs.any fun y=>eqV y x
noncomputable def rIn (K:PySem.W.Frag)(neg:Bool):R2:=fun x y H Q=>∃ p xs,y=.ref p∧(SqL K H p xs∨SqT K H p xs)∧fY x=true∧xs.all fY=true∧Q (.bl (if neg then !inV x xs else inV x xs)) H
theorem jf:OpR X (compareOp .NotIn) (rIn X.K true):=by
 intro pins s σ H x y v u Q I rx ry h
 obtain⟨p,xs,rfl,hq,fx,fs,q⟩:=h
 cases ry
 rcases hq with hq | hq
 ·obtain⟨its,r,pl,hz⟩:=I.list hq
  refine SeqAt.notIn_listAt (eqU x) pl.isList (fun w hw=>lj rx fx r fs w (by simpa using hw)) ⟨.bl _,H,I,rfl,?_⟩
  rw[show its.toArray.any (eqU x)=its.any (eqU x) by simp,n6 r fs]
  exact q
 ·obtain⟨its,r,pl,hz⟩:=I.tuple hq
  refine SeqAt.notIn_tupleAt (eqU x) pl (fun w hw=>lj rx fx r fs w (by simpa using hw)) ⟨.bl _,H,I,rfl,?_⟩
  rw[show its.toArray.any (eqU x)=its.any (eqU x) by simp,n6 r fs]
  exact q
theorem aF:eO X (.builtin "len") (fun xs H Q=>∃ p ys,xs=[.ref p]∧(SqL X.K H p ys∨SqT X.K H p ys)∧Q (.int ys.length) H):=by
 intro pins s σ H xs us Q I r h
 obtain⟨p,ys,rfl,hq,q⟩:=h
 obtain⟨u,rfl,rx⟩:=vals1 r
 cases rx
 have hn:=nY
 rcases hq with hq | hq
 ·obtain⟨its,r',pl,hz⟩:=I.list hq
  have hlen:=r'.length
  exact Calls.call_len_list pl.isList (by simp only[List.size_toArray] <;> omega) ⟨.int ys.length,H,I.tok _,⟨s.toks+1,by rw[List.size_toArray,hlen]⟩,q⟩
 ·obtain⟨its,r',pl,hz⟩:=I.tuple hq
  have hlen:=r'.length
  exact len_tuple pl (by simp only[List.size_toArray] <;> omega) ⟨.int ys.length,H,I.tok _,⟨s.toks+1,by rw[List.size_toArray,hlen]⟩,q⟩
theorem jg:eO X (.type "list") (fun xs H Q=>∃ p ys,xs=[.ref p]∧(SqL X.K H p ys∨SqT X.K H p ys)∧∀ l,H l=none→Q (.ref l) (upd H l (.lst ys))):=by
 intro pins s σ H xs us Q I r h
 obtain⟨p,ys,rfl,hq,q⟩:=h
 obtain⟨u,rfl,rx⟩:=vals1 r
 cases rx
 have fin:∀ (its:List Value),Vals ys its→ys.length≤sizeLine→∀ (h':Heap) (c':Nat),(∀ b o',s.heap.get? b=some o'→h'.get? b=some o') →
   h'.get? s.heap.objs.size=some { cls:=.type "list",dict:=none,data:=.seq its.toArray c',slots:=#[] }→EP X pins σ Q (.ref s.heap.objs.size) { s with heap:=h' }:=fun its r' hz h' c' kp e =>
  ⟨.ref s.heap.objs.size,_,I.laid (t':=s.toks) kp (Nat.le_refl _) (show bb X.prog X.w _ h' _ (.lst ys) from ⟨hz,its,c',r',e⟩),rfl,q _ (I.hok.fresh (Nat.le_refl _))⟩
 rcases hq with hq | hq
 ·obtain⟨its,r',pl,hz⟩:=I.list hq
  have hlen:=r'.length
  obtain⟨o,ho,hc,n,hd⟩:=pl.isList
  exact call_list_seq p (.inl rfl) ho hc hd (fun h' c' kp e=>fin its r' hz h' c' kp e) (by simp only[List.size_toArray] <;> omega)
 ·obtain⟨its,r',pl,hz⟩:=I.tuple hq
  have hlen:=r'.length
  obtain⟨o,ho,hc,n,hd⟩:=pl
  exact call_list_seq p (.inr rfl) ho hc hd (fun h' c' kp e=>fin its r' hz h' c' kp e) (by simp only[List.size_toArray] <;> omega)
theorem mC:eO X (.type "tuple") (fun xs H Q=>∃ p ys,xs=[.ref p]∧((SqL X.K H p ys∧∀ l,H l=none→Q (.ref l) (upd H l (.tup ys)))∨(SqT X.K H p ys∧Q (.ref p) H))):=by
 intro pins s σ H xs us Q I r h
 obtain⟨p,ys,rfl,h⟩:=h
 obtain⟨u,rfl,rx⟩:=vals1 r
 cases rx
 rcases h with ⟨hq,q⟩ | ⟨hq,q⟩
 ·obtain⟨its,r',pl,hz⟩:=I.list hq
  have hlen:=r'.length
  refine call_tuple_list pl.isList (fun h' kp=>?_) (by simp only[List.size_toArray] <;> omega)
  have I1:Inv X pins σ H { s with heap:=h' }:=I.kept (t':=s.toks) kp
  have I2:Inv X pins σ (upd H h'.objs.size (.tup ys)) { s with heap:=h'.push { cls:=.type "tuple",data:=.seq its.toArray } } :=
   I1.laid (t':=s.toks) (fun b o e=>Heap.get?_push_of_some _ e) (Nat.le_refl _) (show bb X.prog X.w _ _ _ (.tup ys) from ⟨hz,its,r',IsTup.new _ _⟩)
  exact⟨.ref h'.objs.size,_,I2,rfl,q _ (I1.hok.fresh (Nat.le_refl _))⟩
 ·obtain⟨its,r',pl,hz⟩:=I.tuple hq
  exact call_tuple_same pl ⟨.ref p,H,I,rfl,q⟩

noncomputable def tyV (K : PySem.W.Frag)(T : String)(x : V)(H : Hp) : Prop := match x with
  | .str _ => T = "str"
  | .int _ => T = "int"
  | .ref p => (T = "list" ∧ ∃ xs, SqL K H p xs) ∨ (T = "tuple" ∧ ∃ o, K.lookup p=some o ∧ o.cls=.type "tuple" ∧ o.dict=none) ∨
      (T = "dict" ∧ ((∃ kvs, H p=some (.dK kvs)) ∨ ∃ kvs, H p=some (.dT kvs))) ∨ (T = "set" ∧ ∃ S n, H p=some (.set S n))
  | _ => False
theorem qM {pins:List (Addr×Obj)}{σ:St}{H:Hp}{s:Shared}{T:String}{x:V}{v:Value}(I:Inv X pins σ H s)(r:RelV x v)(ty:tyV X.K T x H) :
  s.TypeIs v T∧∀ a,v=.ref a→∃ ob,s.heap.get? a=some ob∧ob.dict=none:=by
 cases x with
 | str z =>
  obtain⟨t,rfl⟩:=r
  cases (show T = "str" from ty)
  exact⟨typeIs_str s z t,fun _ e=>nomatch e⟩
 | int i =>
  obtain⟨t,rfl⟩:=r
  cases (show T = "int" from ty)
  exact⟨typeIs_int s i t,fun _ e=>nomatch e⟩
 | ref p =>
  cases r
  rcases ty with ⟨rfl,xs,hq⟩ | ⟨rfl,o,hk,hc,hd⟩ | ⟨rfl,hk⟩ | ⟨rfl,S,n,hk⟩
  ·obtain⟨its,_,pl,_⟩:=I.list hq
   refine⟨pl.isList.typeIs,fun a e=>?_⟩
   cases e
   obtain⟨o,n,e,c,hd,_⟩:=pl
   exact⟨o,e,hd⟩
  ·refine⟨⟨o,I.kIn p o hk,hc⟩,fun a e=>?_⟩
   cases e
   exact⟨o,I.kIn _ o hk,hd⟩
  ·have z:∃ o,s.heap.get? p=some o∧o.ExactDict:=by
    rcases hk with ⟨kvs,hk⟩ | ⟨kvs,hk⟩
    ·obtain⟨_,_,_,_,o,_,_,e,ex,_⟩:=I.hok p _ hk
     exact⟨o,e,ex⟩
    ·obtain⟨_,_,_,_,o,_,_,e,ex,_⟩:=I.hok p _ hk
     exact⟨o,e,ex⟩
   obtain⟨o,e,ex⟩:=z
   refine⟨⟨o,e,ex.1⟩,fun a e2=>?_⟩
   cases e2
   exact⟨o,e,ex.2.1⟩
  ·obtain⟨o,_,_,_,e,ex,_⟩:=I.hok p _ hk
   refine⟨⟨o,e,ex.1⟩,fun a e2=>?_⟩
   cases e2
   exact⟨o,e,ex.2.1⟩
 | _=>exact False.elim ty
noncomputable def tBM (K:PySem.W.Frag)(T:String)(r:V→List V→Hp→VK→Prop)(to:TE)(t:TA):TE:=fun σ H Q=>to σ H fun x H1=>tyV K T x H1∧t σ H1 fun xs H2=>r x xs H2 Q
variable {o e:Expr}{es:List Expr}{to:TE}{t:TA}{name:Str}{apos cp:Pos}{T id:String}{r:V→List V→Hp→VK→Prop}
theorem fj (pa:PlainAttrs T)(slot:Slot T name id)(hty:typeOf (.builtin id)=pure (.type "method_descriptor"))(hm:MtR X id r)(ho:PE X o to)(ha:PA X (e::es) t)
  (jh:attributeBase o name X.env (eval o X.env)=eval o X.env:=by rfl)
  (vn:((backTo cp (starEach (e::es) X.env)).all (fun x=>!x.1)&&(backToKw cp (keywordEach [] X.env)).all (fun x=>x.1.isSome)
   && decide ((e::es).length+([]:List Keyword).length+(if ([]:List Keyword).isEmpty then 0 else 1)<30))=true:=by rfl)
  (ji:(apos.endLine == cp.line)=true:=by rfl) (hs:starEach (e::es) X.env=(false,eval e X.env)::starEach es X.env:=by rfl) (lq:(backTo cp (starEach es X.env)).any (·.1)=false:=by rfl) :
  PE X (.Call (.Attribute o name apos) (e::es) [] cp) (tBM X.K T r to t):=by
 intro pins s σ H Q I h
 refine wpAny_Call_method_late jh vn ji rfl (thn (ho pins s σ H _ I h) fun v s1 ⟨x,H1,I1,r1,ty,q1⟩=>?_)
 obtain⟨h1,h2⟩:=qM I1 r1 ty
 refine⟨T,id,pa,slot,hty,h1,h2,?_⟩
 have hA:=ha cp pins s1 σ H1 _ I1 q1
 rw[hs] at hA ⊢
 refine Calls.callWith_builtin (by show (false||(backTo cp (starEach es X.env)).any (·.1))=false;rw[lq] <;> rfl) (Calls.evalArgs_plain ?_)
 exact thn hA fun us s2 ⟨vs,H2,I2,r2,q2⟩=>hm pins s2 σ H2 x vs v us Q I2 r1 r2 q2
/- xs.append(e), list.index on a BF tuple .. are MtR facts of 06m -/
end
end L2

namespace L2
open PySem PySem.Spec PyProof.Rows

noncomputable def MtM (X:Cx)(id:String)(r:V→List V→Hp→VK→Prop):Prop :=
 ∀ (pins:List (Addr×Obj)) (s:Shared) (σ:St) (H:Hp) (x:V) (xs:List V) (v:Value) (us:List Value) (Q:VK),Inv X pins σ H s→RelV x v→Vals xs us→r x xs H Q →
  wpAny (model X.prog X.w) X.A (call (.builtin id) (v::us)) (EP X pins σ Q) X.xe s

theorem Vals.one:∀ {x:V} {us:List Value},Vals [x] us→∃ u,us=[u]∧RelV x u
 | _,_,.cons r .nil=>⟨_,rfl,r⟩
theorem Vals.two:∀ {x y:V} {us:List Value},Vals [x,y] us→∃ u v,us=[u,v]∧RelV x u∧RelV y v
 | _,_,_,.cons r (.cons q .nil)=>⟨_,_,rfl,r,q⟩
theorem Vals.eraseIdx:∀ {xs:List V} {us:List Value} (i:Nat),Vals xs us→Vals (xs.eraseIdx i) (us.eraseIdx i)
 | _,_,_,.nil=>.nil
 | _,_,0,.cons _ t=>t
 | _,_,i+1,.cons r t=>.cons r (Vals.eraseIdx i t)
theorem m4 {α:Type}:∀ (l:List α) (i:Nat),(l.eraseIdx i).length≤l.length
 | [],_=>Nat.le_refl _
 | _::_,0=>Nat.le_succ _
 | _::r,i+1=>Nat.succ_le_succ (m4 r i)
section
variable {X:Cx}{pins:List (Addr×Obj)}{σ:St}{H:Hp}{s:Shared}{l b:Addr}{xs ys zs:List V}

theorem Inv.Ad {its its':List Value}{n:Nat}{f:Array Value→Array Value}{t':Nat}(I:Inv X pins σ H s)(hH:H l=some (.lst xs))
  (e:s.heap.get? l=some { cls:=.type "list",data:=.seq its.toArray n }) (hf:f its.toArray=its'.toArray) (hv:Vals ys its') (hz:ys.length≤sizeLine) :
  Inv X pins σ (upd H l (.lst ys)) { s with heap:=s.heap.update l (Obj.mapSeq f),toks:=t' }:=by
 have q:=PySem.IsL.update e f
 rw[hf] at q
 refine I.write (x:=l) (e:=l) (by rw[hH];exact trivial) (.inl rfl) (fun b' u hb hu=>(Heap.get?_update_other s.heap (Obj.mapSeq f) (Ne.symm hb)).trans hu) ⟨_,q⟩ ?_
 exact⟨hz,its',_,hv,q⟩
theorem Inv.Ae {its:List Value}{t':Nat}(I:Inv X pins σ H s)(hv:Vals ys its)(hz:ys.length≤sizeLine) :
  Inv X pins σ (upd H s.heap.objs.size (.lst ys)) { s with heap:=s.heap.push { cls:=.type "list",data:=.seq its.toArray },toks:=t' } :=
 I.laid (fun _ _ q=>Heap.get?_push_of_some _ q) (Nat.le_refl _) ⟨hz,its,0,hv,Heap.get?_push_size _ rfl⟩
theorem Inv.fresh (I:Inv X pins σ H s):H s.heap.objs.size=none:=I.hok.fresh (Nat.le_refl _)
theorem Inv.pG (I:Inv X pins σ H s)(hH:H l=some (.lst xs)):xs.length≤sizeLine∧∃ (its:List Value) (n:Nat),Vals xs its∧xs.length=its.length∧s.heap.get? l=some { cls:=.type "list",data:=.seq its.toArray n }:=by
 obtain⟨z,its,n,r,e⟩:=I.hok l _ hH
 exact⟨z,its,n,r,r.length,e⟩

theorem vo {n:Nat}(h:n≤sizeLine):Builtin.List.listTooLong n=false:=by
 unfold Builtin.List.listTooLong
 exact decide_eq_false (by omega)
end

section
variable {X:Cx}

noncomputable def xU:V→List V→Hp→VK→Prop:=fun x vs H Q=>∃ l xs y,x=.ref l∧vs=[y]∧H l=some (.lst xs)∧xs.length<sizeLine∧Q .non (upd H l (.lst (xs++[y])))
theorem bE:MtM X "list.append" xU:=by
 intro pins s σ H x vs v us Q I rx rv h
 obtain⟨l,xs,y,rfl,rfl,hH,hz,q⟩:=h
 cases rx
 obtain⟨u,rfl,ru⟩:=rv.one
 obtain⟨z,its,n,r,hl,e⟩:=I.pG hH
 refine call_meets F.slot_list_append ⟨_,e,rfl⟩ F.entry_list_append (F.args_list_append_2 _ _) (PySem.list_append l its.toArray n u (by rw[List.size_toArray];omega)) ⟨e,?_⟩
 refine⟨.non,_,I.Ad (its':=its++[u]) hH e (by simp) (r.append (.cons ru .nil)) ?_,rfl,q⟩
 rw[List.length_append,List.length_singleton]
 omega

noncomputable def xW:V→List V→Hp→VK→Prop:=fun x vs H Q=>∃ l b xs zs,x=.ref l∧vs=[.ref b]∧H l=some (.lst xs)∧H b=some (.lst zs)∧xs.length+zs.length≤sizeLine∧Q .non (upd H l (.lst (xs++zs)))
theorem m5:MtM X "list.extend" xW:=by
 intro pins s σ H x vs v us Q I rx rv h
 obtain⟨l,b,xs,zs,rfl,rfl,hH,hB,hz,q⟩:=h
 cases rx
 obtain⟨u,rfl,ru⟩:=rv.one
 cases ru
 obtain⟨z,its,n,r,hl,e⟩:=I.pG hH
 obtain⟨z2,kJ,n2,r2,hl2,e2⟩:=I.pG hB
 have hsz:its.toArray.size+kJ.toArray.size≤sizeLine:=by rw[List.size_toArray,List.size_toArray];omega
 have BG:¬ (!its.toArray.isEmpty&&Builtin.List.listTooLong (its.toArray.size+kJ.toArray.size))=true:=by
  rw[vo hsz,Bool.and_false]
  exact Bool.false_ne_true
 refine call_meets F.slot_list_extend ⟨_,e,rfl⟩ F.entry_list_extend (F.args_list_extend_2 _ _)
  (AutoSeq1.list_extend_list_list_0 l its.toArray n b kJ.toArray n2 BG (by rw[List.size_toArray];omega) (by omega)) ⟨e,e2,?_⟩
 refine⟨.non,_,I.Ad (its':=its++kJ) hH e (by simp) (r.append r2) ?_,rfl,q⟩
 rw[List.length_append]
 omega

noncomputable def BH:R2:=fun x y H Q=>∃ l b xs zs,x=.ref l∧y=.ref b∧H l=some (.lst xs)∧H b=some (.lst zs)∧xs.length+zs.length≤sizeLine∧∀ p,H p=none→Q (.ref p) (upd H p (.lst (xs++zs)))
theorem eG:OpR X (binaryOp .Add) BH:=by
 intro pins s σ H x y v u Q I rx ry h
 obtain⟨l,b,xs,zs,rfl,rfl,hH,hB,hz,q⟩:=h
 cases rx
 cases ry
 obtain⟨z,its,n,r,hl,e⟩:=I.pG hH
 obtain⟨z2,kJ,n2,r2,hl2,e2⟩:=I.pG hB
 refine PySem.P.add_list e e2 ?_ (by rw[List.size_toArray,List.size_toArray];omega)
 have ea:its.toArray++kJ.toArray=(its++kJ).toArray:=by simp
 rw[ea]
 exact⟨.ref _,_,I.Ae (t':=s.toks) (r.append r2) (by rw[List.length_append];omega),rfl,q _ I.fresh⟩
end


end L2

namespace Att
open PySem PySem.W PySem.Calls PyProof.Rows

theorem kK {P:Params}{h:Heap}:∀ (ns:List Int) (vs:List Value),WellAll P h vs (ns.map WData.int)→IntsAre vs ns:=by
 intro ns
 induction ns with
 | nil =>
  intro vs w
  rw[List.map_nil] at w
  cases w
  exact .nil
 | cons n ns ih =>
  intro vs w
  rw[List.map_cons] at w
  cases w with
  | cons a b =>
   cases a
   exact .cons _ _ (ih _ b)

theorem ud {l:OpenLaw}{n:Nat}(hn:l.most=some n){P:Params}{h:Heap}{args:List WData}{vals:List Value}
  (xX:l.row.toRowW.claim.pre args=true) (hwl:WellAll P h vals args) :
  ∃ a vs ns,vals=[Value.ref a]∧args=[WData.list (ns.map WData.int)]∧h.get? a=some { cls:=.type "list",data:=.seq vs.toArray }∧IntsAre vs ns∧ns.length≤n:=by
 have hsh:WShape.hasAll [] args [.list .int]=true:=(pre_splitW xX).1
 have hc:l.pre.holds [] { args:=args }=true:=(pre_splitW xX).2
 obtain⟨d,r,rfl,h1,h2⟩:=hasAllW_cons hsh
 obtain rfl:=hasAllW_nil h2
 obtain⟨xs,rfl,h3⟩:=hasW_list h1
 obtain⟨ns,rfl⟩:=items_int h3
 have hlen:ns.length≤n:=by
  unfold OpenLaw.pre at hc
  have h4:(WTm.not (.lt (.lit (.int (n:Int))) (.len (.arg 0)))).holds [] { args:=[.list (ns.map .int)] }=true:=by
   have h4:=(holds_andW hc).1
   rw[hn] at h4
   exact h4
  have h5:=condW_of h4 (w_not (w_lt w_lit (w_len_list (w_arg rfl))))
  rw[List.length_map] at h5
  refine Nat.le_of_not_lt fun q=>?_
  have q':(n:Int)<((ns.length:Nat):Int):=by omega
  first
   | (rw[decide_eq_true q'] at h5;exact absurd h5 (by decide))
   | (simp at h5;omega)
 cases hwl with
 | cons w1 w2 =>
  cases w2
  cases w1 with
  | list ho mD=>exact⟨_,_,ns,rfl,rfl,ho,kK ns _ mD,hlen⟩

theorem ue (l:OpenLaw)(args:List WData):l.row.toRowW.claim.post args (.bool true) args=true :=
 postW_of (r:=l.row.toRowW) (X:=(true == true))
  (show WShape.has [] (.bool true) .bool=true by first | rfl | decide | simp[WShape.has,WShape.arms,WShape.armsAll])
  (show (WTm.eq .res (.lit (.bool true))).value [] { args:=args,res:=some (.bool true),after:=args }=some (.bool (true == true)) from w_eq_bool (w_res rfl) w_lit) rfl

theorem pH {l:OpenLaw}{n:Nat}{q:Program}{loose:List Str}{XP:(Str→Option Value)→Heap→Prop}{YP:World→Heap→Prop}{d:DefRec}
  (hn:l.most=some n) (hdf:d.params.defaults=[])
  (call:∀ (w:World) (s₀ s₁:Shared) (mg mb:Str→Option Value) (fa:Addr) (o:Obj) (pm cd doc:Value) (a:Addr) (vs:List Value) (ns:List Int),
   Ground q loose [] XP w s₀ mg mb s₁.heap→YP w s₁.heap →
   s₁.heap.get? fa=some o→o.data=.func (docDef d.name d.params d.body d.scope pm cd doc)→s₁.heap.CodeRec cd d.name→mg d.name=some (.ref fa) →
   s₁.heap.get? a=some { cls:=.type "list",data:=.seq vs.toArray }→IntsAre vs ns→ns.length≤n→s₁.gens = #[] →
   codeAny (model l.prog w) callerA (.call (.ref fa) ⟨[.ref a],[]⟩) (fun r s'=>r=.ok (.ret (.bool true))∧OldK s₁.heap s'.heap∧s'.os=s₁.os∧AllBare s'.gens) s₁) :
  WalkO q loose XP YP l.row.toRowW d [] (fun f vs=>PySem.call f vs):=by
 intro w s₀ s₁ mg mb G Y fa o pm cd doc dV kV ho hd hcd hD hmg hg args vals as xX D5 hrd hwl hlo
 obtain rfl:dV=.none:=Dflts.none hD hdf
 obtain rfl:kV=.none:=Dflts.noKw hD
 obtain⟨a,vs,ns,rfl,rfl,Af,hints,hlen⟩:=ud hn xX hwl
 refine enter_call (codeAny_mono (call w s₀ s₁ mg mb fa o pm cd doc a vs ns G Y ho (fd_plain hd) hcd hmg Af hints hlen hg) fun r s' hq=>?_)
 obtain⟨rfl,h2,h3,h4⟩:=hq
 exact⟨.inl ⟨.bool true,.bool true,[],rfl,fun _=>rfl,.bool true,ue l _,fun _=>⟨List.Pairwise.nil,fun _ hm=>(nomatch hm)⟩⟩,h2,h3,h4⟩

end Att

namespace L2
open PySem PySem.Spec PyProof.Rows

theorem m6:∀ {vs:List Value} {ns:List Int},IntsAre vs ns→Vals (ns.map V.int) vs
 | _,_,.nil=>.nil
 | _,_,.cons n t h=>.cons ⟨t,rfl⟩ (m6 h)

noncomputable def Ag (H:Hp):Prop:=∀ b,H b=none∨∃ o xs,H b=some (.frz o (.lst xs))

theorem vp {P:Program}{w:World}{K:PySem.W.Frag}{mg mb:Str→Option Value}{CX:CXT}{k:Nat}{fa a:Addr}{fd:FuncData}{x:Str}{sp:Sp}{s₁:Shared}{vs:List Value}{ns:List Int}
  (KX:K.In s₁.heap) (hns:s₁.heap.Ns mainGlobals mg) (hb:s₁.heap.Ns builtinsNs mb) (hbb:∀ x:Str,x≠"__name__"→mb x=bootBuiltins x) (CN:s₁.heap.NoLimit) (hg:s₁.gens = #[])
  (ha:s₁.heap.get? a=some { cls:=.type "list",data:=.seq vs.toArray }) (hi:IntsAre vs ns) (hl:ns.length≤sizeLine) (hr:fQ k callerA)
  (F:∀ base:Heap,K.In base→base.Ns mainGlobals mg→aO P w K mg base CX k fa fd [x] sp) (BI:∀ (s:Shared) (u:Value),BindsTo s fd ⟨[u],[]⟩ [(x,u)])
  (hsp:∀ H:Hp,Ag H→SqL K H a (ns.map V.int)→sp [.ref a] H (fun v _=>v=.bl true) fun _ _ _=>False)
  (hCX:∀ H e s',CX [] H s₁ (fun _ _ _=>False) e s'→False) :
  codeAny (model P w) callerA (.call (.ref fa) ⟨[.ref a],[]⟩) (fun r s'=>r=.ok (.ret (.bool true))∧OldK s₁.heap s'.heap∧s'.os=s₁.os∧AllBare s'.gens) s₁:=by
 have rv:=m6 hi
 have CO:=hi.length
 have core:∀ H:Hp,Ag H→SqL K H a (ns.map V.int)→HOk P w H s₁.heap→(∀ b,H b≠none→b=a)→(H a≠none→K.lookup a=none) →
   codeAny (model P w) callerA (.call (.ref fa) ⟨[.ref a],[]⟩) (fun r s'=>r=.ok (.ret (.bool true))∧OldK s₁.heap s'.heap∧s'.os=s₁.os∧AllBare s'.gens) s₁:=by
  intro H hO hS hok hA hK
  have sr:∀ {b:Addr} {o:Obj},s₁.heap.get? b=some o→H b=none→(nU s₁.heap H).get? b=some o:=fun e n=>uT e n
  have noA:∀ {b:Addr} {o:Obj} {es:Array DictEntry} {ep:Nat},s₁.heap.get? b=some o→o.data=.dict es ep→H b=none:=fun {b o es ep} e d=>by
   cases q:H b with
   | none=>rfl
   | some u =>
    have e':b=a:=hA b (by rw[q];simp)
    subst e'
    rw[ha] at e;cases e
    have d':Data.seq vs.toArray _=Data.dict es ep:=d
    cases d'
  have nsK:∀ {b:Addr} {m:Str→Option Value},s₁.heap.Ns b m→(nU s₁.heap H).Ns b m:=fun {b m} ⟨o,es,ep,e,d,r⟩=>⟨o,es,ep,sr e (noA e d),d,r⟩
  have hKb:K.In (nU s₁.heap H):=fun b o e=>sr (KX b o e) (by
   cases q:H b with
   | none=>rfl
   | some u =>
    have e':b=a:=hA b (by rw[q];simp)
    subst e'
    rw[hK (by rw[q];simp)] at e;cases e)
  have hM:Mod K mg (nU s₁.heap H):=⟨hKb,nsK hns,⟨mb,nsK hb,hbb⟩,let ⟨mc,h1,h2⟩:=CN;⟨mc,nsK h1,h2⟩⟩
  have e0:xP P w K mg (nU s₁.heap H) callerA [] s₁ H:=⟨rfl,hM,fun b o e=>xI e,Nat.le_of_eq (tW _ _),trivial,fun b hb=>absurd (show b∈([]:List Addr) from hb) (by simp),hok,.of_eq hg⟩
  refine codeAny_mono ((F _ hKb (nsK hns)).run callerA [] s₁ H ⟨[.ref a],[]⟩ [.ref a] [.ref a] _ _ hr e0 (BI s₁ (.ref a)) (.cons rfl .nil) (hsp H hO hS)) fun r s' h=>?_
  cases r with
  | error e=>exact(hCX H e s' h).elim
  | ok fl =>
   cases fl with
   | next=>exact False.elim h
   | brk=>exact False.elim h
   | cont=>exact False.elim h
   | ret u =>
    obtain⟨v,H',os,bare,un,CP,r',q⟩:=h
    have q':v=.bl true:=q
    subst q'
    obtain rfl:u=Value.bool true:=r'
    refine⟨rfl,OldK.of_keep fun b o e=>?_,os,bare⟩
    cases q:H b with
    | none=>exact un.keep b o e q (by intro z;exact absurd (show b∈([]:List Addr) from z) (by simp)) (by simp)
    | some u =>
     rcases hO b with z | ⟨ob,xs,z⟩
     ·rw[q] at z;cases z
     ·have z2:=un.mq b ob _ z
      obtain⟨e1,_⟩:=hok b _ z
      obtain⟨e2,_⟩:=CP b _ z2
      rw[e] at e1;cases e1
      exact e2
 cases hk:K.lookup a with
 | some o =>
  have e:=KX a o hk
  rw[ha] at e
  cases e
  refine core (fun _=>none) (fun _=>.inl rfl) (.inr ⟨_,vs.toArray,_,hk,rfl,rfl,rfl,by rw[List.size_toArray,CO];exact hl,by simpa using rv⟩) (fun b u z=>by have z':(none:Option HO)=some u:=z;cases z') (fun b z=>absurd rfl z) fun z=>absurd rfl z
 | none =>
  refine core (fun b=>if b=a then some (.frz { cls:=.type "list",data:=.seq vs.toArray } (.lst (ns.map V.int))) else none) (fun b=>?_) (.inl (.inr ⟨{ cls:=.type "list",data:=.seq vs.toArray },if_pos rfl⟩)) (fun b u z=>?_) (fun b z=>?_) fun _=>hk
  ·by_cases hb:b=a
   ·exact .inr ⟨_,_,if_pos hb⟩
   ·exact .inl (if_neg hb)
  ·by_cases hb:b=a
   ·have z':=(if_pos hb).symm.trans z
    cases z'
    subst hb
    exact⟨ha,by rw[List.length_map];exact hl,vs,_,rv,ha⟩
   ·have z':=(if_neg hb).symm.trans z
    cases z'
  ·by_cases hb:b=a
   ·exact hb
   ·exact absurd (if_neg hb) z
end L2

namespace L2
open PySem PySem.Spec PyProof.Rows

theorem su {l:PySem.W.OpenLaw}{n k:Nat}{q:Program}{loose:List Str}{XP:(Str→Option Value)→Heap→Prop}{YP:World→Heap→Prop}{d:DefRec}{K:Params→PySem.W.Frag}{CX:World→CXT}{sp:World→Sp}{x:Str}
  (hn:l.most=some n) (hn2:n≤sizeLine) (hdf:d.params.defaults=[]) (hr:fQ k callerA)
  (hY:∀ (w:World) (h:Heap),YP w h→(K w.params).In h)
  (F:∀ (w:World) (mg:Str→Option Value) (fa:Addr) (h:Heap),(K w.params).In h→h.Ns mainGlobals mg→mg d.name=some (.ref fa) →
   ∃ fd:FuncData,(∀ (s:Shared) (u:Value),BindsTo s fd ⟨[u],[]⟩ [(x,u)]) ∧
    ∀ base:Heap,(K w.params).In base→base.Ns mainGlobals mg→aO l.prog w (K w.params) mg base (CX w) k fa fd [x] (sp w))
  (hsp:∀ (w:World) (H:Hp) (a:Addr) (ns:List Int),ns.length≤n→Ag H→SqL (K w.params) H a (ns.map V.int)→sp w [.ref a] H (fun v _=>v=.bl true) fun _ _ _=>False)
  (hCX:∀ (w:World) (H:Hp) (s:Shared) (e:Value) (s':Shared),CX w [] H s (fun _ _ _=>False) e s'→False) :
  PySem.W.WalkO q loose XP YP l.row.toRowW d [] (fun f vs=>PySem.call f vs):=by
 refine Att.pH hn hdf fun w s₀ s₁ mg mb fa o pm cd doc a vs ns G Y ho hd hcd hmg Af hints hlen hg=>?_
 have KX:=hY w _ Y
 obtain⟨fd,hb,hF⟩:=F w mg fa _ KX G.T.g hmg
 exact vp KX G.T.g G.T.b G.T.builtins G.T.nolimit hg Af hints (Nat.le_trans hlen hn2) hr hF hb (fun H hO hS=>hsp w H a ns hlen hO hS) fun H e s'=>hCX w H s₁ e s'
end L2

/- THE D6 Ci (shape; LID, My.* are DU):
   My.Adr: a structure of the addresses xJ D7 DV names (classes, Bf); My.Txt K t: a structure (Prop) of the equations over K;
   My.Ah : {K} {implicit addresses ..} (e1 : nsIn K mainGlobals "law" = some (some (.ref f))) (e2 : K.lookup f = some ⟨oc, od, .func (fnOf "law" "law" params body scope dV kV doc pm an cdv ct), sl⟩) (e3 : codeIn K cdv "law" = true) .. : ∃ t, My.Txt K t

set_option maxRecDepth 100000 in
set_option maxHeartbeats 0 in
theorem PySem.Challenge.xY : PySem.Challenge.Ai.Holds := by
 w_on;o_law;k_head;(case hw=>w_witness2)
 k_fill
 refine L2.su (l:=PySem.Challenge.Ai) (n:=63) (k:=40) (x:="script") (CX:=fun w=>..) (sp:=fun _=>My.CQ) rfl (by decide) rfl ⟨rfl,by decide,by decide⟩ (fun w h Y=>PySem.W.kIn_of Y) ?F ?S ?C
 case F =>
  intro w mg fa h KX G hmg
  have T:∃ t,My.Txt (L2.KOf KX) t:=by
   dsimp only [L2.KOf]                          -- K D8 DW as «<heap const> w.params» for k_is
   refine' My.Ah ?e1 ?e2 ?e3 ..
   (case e1 => PySem.W.k_is)                    -- in the order: a name -> its address -> its object -> its parts
   (case e2=>PySem.W.k_is)
   ..
  obtain ⟨t,T⟩:=T
  have e0:=hmg.symm.trans (PySem.W.mg_of KX G T.law)
  cases e0                                       -- fa is the DX own address
  exact ⟨_, fun s u => .of_eq rfl, fun base kb nb => My.Aj T kb nb⟩     -- if «.of_eq rfl» comes too early: refine' ⟨_, ?b, fun base kb nb => My.Aj T kb nb⟩; exact fun s u => .of_eq rfl
 case S=>exact fun w H a ns hl hO hS=>..
 case C=>exact ..
(the tactic k_is has no namespace: write k_is) -/

namespace L2
open PySem PySem.Spec PyProof.Rows

noncomputable def bF (s:Stmt):Arguments:=match s with
 | .FunctionDef _ a _ _ _ _ _ _ _ _=>a
 | _=>{ posonlyargs:=[],args:=[],vararg:=none,kwonlyargs:=[],kw_defaults:=[],kwarg:=none,defaults:=[] }
noncomputable def bB (s:Stmt):List Stmt:=match s with
 | .FunctionDef _ _ b _ _ _ _ _ _ _=>b
 | _=>[]
noncomputable def aA (s:Stmt):Scope:=match s with
 | .FunctionDef _ _ _ _ _ _ sc _ _ _=>sc
 | _=>{ kind:=.function,names:=[],isGenerator:=false,isCoroutine:=false }

noncomputable abbrev CX0:CXT:=fun _ _ _ _ _ _=>False
noncomputable abbrev E0:XK:=fun _ _ _=>False
theorem BJ {X:Cx}:Passes CX0 X E0:=fun _ _ _ _ _ _ _ h=>h.elim

structure Fun (K:PySem.W.Frag) (x qual:Str) (st:Stmt) (f:Addr) (fd:FuncData):Prop where
 ex:∃ (oc:Value) (od:Option Addr) (kV doc pm:Value) (an:Option Addr) (cdv ct:Value) (osl:Array (Option Value)),
  fd=PySem.W.fnOf x qual (bF st) (bB st) (aA st) .none kV doc pm an cdv ct∧K.lookup f=some ⟨oc,od,.func fd,osl⟩∧PySem.W.codeIn K cdv qual=true
 kp:PySem.W.keepIn K (.ref f)=true
section
variable {P:Program}{w:World}{K:PySem.W.Frag}{mg:Str→Option Value}{base:Heap}
theorem Fun.ok {x qual:Str}{st:Stmt}{f:Addr}{fd:FuncData}{N ps:List Str}{k:Nat}{sp:Sp}(F:Fun K x qual st f fd)(S:aN N ps (aA st))(len:∀ vs H Q E,sp vs H Q E→vs.length=ps.length)
  (vb:∀ (cdv:Value) (A:Around) (outer:List Env) (s:Shared) (H:Hp) (vs:List V) (Q:VK) (E:XK),fQ k (A.deeper (envOfC qual (aA st) s.heap.objs.size f cdv))→sp vs H Q E →
   ∃ t,PSs (t7 CX0 P w K mg base N qual (aA st) f cdv A outer s H E).nox (bB st) t∧t { nx:=fun _ H'=>Q .non H',rt:=Q } (start N vs) H):aO P w K mg base CX0 (k+1) f fd ps sp:=by
 obtain⟨oc,od,kV,doc,pm,an,cdv,ct,osl,rfl,lk,hcd⟩:=F.ex
 refine Bx lk hcd S len fun A outer s H vs Q E hr hsp=>?_
 obtain⟨t,h,q⟩:=vb cdv A outer s H vs Q E hr hsp
 exact⟨t,h.nox,q⟩
theorem Fun.binds {x qual:Str}{st:Stmt}{f:Addr}{fd:FuncData}{ps:List Str}(F:Fun K x qual st f fd)
  (h:∀ (kV doc pm:Value) (an:Option Addr) (cdv ct:Value) (us:List Value),us.length=ps.length→bindArgs (PySem.W.fnOf x qual (bF st) (bB st) (aA st) .none kV doc pm an cdv ct) ⟨us,[]⟩=pure (ps.zip us)):Binds K fd ps []:=by
 obtain⟨oc,od,kV,doc,pm,an,cdv,ct,osl,rfl,lk,hcd⟩:=F.ex
 exact .all (h kV doc pm an cdv ct)
theorem oe {x qual : Str}{st : Stmt}{f : Addr}{oc : Value}{od an : Option Addr}{osl : Array (Option Value)}{kV doc pm cdv ct : Value}(l : K.lookup f=some ⟨oc, od, .func (PySem.W.fnOf x qual (bF st) (bB st) (aA st) .none kV doc pm an cdv ct), osl⟩)
    (c : PySem.W.codeIn K cdv qual=true) (k : PySem.W.keepIn K (.ref f)=true) : Fun K x qual st f (PySem.W.fnOf x qual (bF st) (bB st) (aA st) .none kV doc pm an cdv ct) := ⟨⟨oc, od, kV, doc, pm, an, cdv, ct, osl, rfl, l, c⟩, k⟩
end
theorem vq {A:Around}{k:Nat}(hr:fQ k A):A.units+1<cLine:=Nat.lt_of_le_of_lt (Nat.add_le_add_left (by decide:1≤64) _) hr.units
theorem aw {n:Nat}(h:n≤1000):n<sizeLine:=Nat.lt_of_le_of_lt h (by decide)

section
variable {X:Cx}
theorem pv (i : Nat){x : Str}{pos : Pos}(hN : X.N[i]?=some x := by rfl)(hv : Vis X.env.scope x := by first | exact Or.inl rfl | exact Or.inr (Or.inl rfl) | exact Or.inr (Or.inr rfl))(hd : (x == ("__debug__" : Str))=false := by decide)
    (hcd : (x == ("__classdict__" : Str))=false := by decide) : PE X (.Name x pos) (qF i) := zL hN hv hd hcd
end

theorem cJ {A B:Prop}(h:B):if false=true then A else B:=by
 rw[if_neg Bool.false_ne_true]
 exact h
theorem gw {A B:Prop}(h:A):if true=true then A else B:=by
 rw[if_pos rfl]
 exact h
theorem fR {c A B:Prop}[Decidable c](h1:c→A)(h2:¬ c→B):if c then A else B:=by
 by_cases h:c
 ·rw[if_pos h]
  exact h1 h
 ·rw[if_neg h]
  exact h2 h
noncomputable def aq (H H':Hp):Prop:=∀ b o,H b=some o→H' b=some o
theorem aq.refl (H:Hp):aq H H:=fun _ _ h=>h
theorem aq.trans {H H1 H2:Hp}(a:aq H H1)(b:aq H1 H2):aq H H2:=fun c o h=>b c o (a c o h)
theorem aq.free {H H':Hp}(e:aq H H'){l:Addr}(h:H' l=Option.none):H l=Option.none:=by
 cases q:H l with
 | none=>rfl
 | some o =>
  rw[e l o q] at h
  cases h
theorem aq.seq {K:PySem.W.Frag}{H H':Hp}{a:Addr}{xs:List V}(e:aq H H')(h:SqL K H a xs):SqL K H' a xs:=by
 rcases h with (h | ⟨o,h⟩) | h
 ·exact .inl (.inl (e _ _ h))
 ·exact .inl (.inr ⟨o,e _ _ h⟩)
 ·exact .inr h

end L2


namespace L2
open PySem PySem.Spec PyProof.Rows
section
variable {κ:Type}[DecidableEq κ]
theorem vt {kvs:List (κ×V)}{k:κ}(h:bj kvs k=none):¬ k∈kvs.map (·.1):=by
 intro m
 obtain⟨p,hp,e⟩:=List.mem_map.mp m
 have q:(kvs.any fun kv=>decide (kv.1=k))=true:=List.any_eq_true.mpr ⟨p,hp,decide_eq_true e⟩
 rw[dU,h] at q
 exact absurd q (by simp)
theorem og {kvs:List (κ×V)}{k:κ}{v:V}(h:bj kvs k=some v):k∈kvs.map (·.1):=by
 have q:(kvs.any fun kv=>decide (kv.1=k))=true:=by
  rw[dU,h]
  all_goals rfl
 obtain⟨p,hp,e⟩:=List.any_eq_true.mp q
 exact List.mem_map.mpr ⟨p,hp,of_decide_eq_true e⟩
end
end L2

namespace L2
open PySem PySem.Spec PyProof.Rows

theorem gU {α:Type}{t:Sem α}{Q Q':α→Shared→Prop}{M:Model}{A:Around}{E:Value→Shared→Prop}{s:Shared}(h:wpAny M A t Q (fun _ _=>False) s)(hQ:∀ a s,Q a s→Q' a s):wpAny M A t Q' E s :=
 wpAny_mono h hQ fun _ _ z=>z.elim
theorem gV:∀ {xs:List V} {us:List Value},xs.length=us.length→(∀ (i:Nat) (x:V) (u:Value),xs[i]?=some x→us[i]?=some u→RelV x u)→Vals xs us
 | [],[],_,_=>.nil
 | [],_::_,h,_=>by simp at h
 | _::_,[],h,_=>by simp at h
 | x::xs,u::us,h,f=>.cons (f 0 x u rfl rfl) (gV (by simpa using h) fun i y w e1 e2=>f (i+1) y w (by simpa using e1) (by simpa using e2))

noncomputable def bD (X:Cx)(scope:Scope)(cl:List (Str×Addr))(NC:List Str)(fp:List Addr)(C:Addr)(s₀:Shared)(H₀:Hp):Cx where
 prog:=X.prog
 w:=X.w
 K:=X.K
 mg:=X.mg
 base:=X.base
 A:=X.A
 N:=NC
 s₀:=s₀
 H₀:=H₀
 env:=compEnvC scope cl C X.env
 outer:=X.stack
 stack:=X.stack
 ex:=fp
 fn:=fun _=>false
 calm:=X.calm
 pn:=[]
 xe:=fun _ _=>False
structure iQ (X:Cx) (scope:Scope) (cl:List (Str×Addr)) (NC:List Str) (ini:List (Option Nat)):Prop where
 vw:closureFor scope X.env=pure cl
 cell:∀ y∈scope.names,y.2≠.cell
 kind:scope.kind=.function
 names:∀ y∈scope.names,y.2=.local→scope.names.lookup y.1=some .local
 cls:∀ x c,cl.lookup x=some c→X.env.cells.lookup x=some c
 has:∀ x,((relabel scope X.env).names.lookup x=some .cell∨(relabel scope X.env).names.lookup x=some .free)→∃ c,cl.lookup x=some c
 len:ini.length=NC.length
 src:∀ (i j:Nat) (x:Str),ini[i]?=some (some j)→NC[i]?=some x→X.N[j]?=some x∧(X.env.kindOf x=some .cell∨X.env.kindOf x=some .free) ∧
  ((relabel scope X.env).names.lookup x=some .cell∨(relabel scope X.env).names.lookup x=some .free)
noncomputable def sx (ini:List (Option Nat))(σ:St):St:=ini.map fun o=>o.bind fun j=>(σ[j]?).join
section
variable {X:Cx}{scope:Scope}{cl:List (Str×Addr)}{NC:List Str}{ini:List (Option Nat)}{pins:List (Addr×Obj)}{σ:St}{H:Hp}{s:Shared}{fp:List Addr}
theorem pI {h₁:Heap}{tk:Nat}{m:Str→Option Value}(O:iQ X scope cl NC ini)(I:Inv X pins σ H s)(hf:∀ b∈fp,jQ X pins H b)(ho:∀ b∈fp,∃ o,s.heap.get? b=some o)
  (hn:h₁.Ns s.heap.objs.size m) (hk:∀ b o,s.heap.get? b=some o→h₁.get? b=some o) :
  Inv (bD X scope cl NC fp s.heap.objs.size s H) [] (sx ini σ) H { s with heap:=h₁,toks:=tk }:=by
 have lt:∀ b∈fp,b<s.heap.objs.size:=fun b hb=>let ⟨o,e⟩:=ho b hb;Heap.lt_size e
 refine⟨⟨I.ok.mod,O.kind,I.ok.glob,I.ok.blt,Nat.le_refl _,fun x y c h1 h2=>I.ok.inj x y c (O.cls x c h1) (O.cls y c h2),O.has,fun x c h=>(Bool.false_ne_true h).elim,I.ok.hd,I.ok.frames,.inl rfl,
   fun b hb=>⟨Nat.ne_of_lt (lt b hb),fun x c h=>(hf b hb).2.2.2.2.1 x c (O.cls x c h)⟩,I.bs,Nat.le_trans I.ok.bsz I.sz,fun b o e hb=>?_,fun b hb hs=>?_,I.stack,I.rX⟩,
  rfl,I.bare,Un.kept hk,⟨m,hn,fun i x v e1 e2 e3=>?_⟩,fun x c h=>?_,I.hok.fresh (Nat.le_refl _),fun x c h=>I.iJ x c (O.cls x c h),fun p hp=>absurd (show p∈([]:List (Addr×Obj)) from hp) (by simp),I.hok.kept hk,?_⟩
 ·rcases(hf b hb).2.2.2.1 with z | z
  ·exact I.ok.uU b o e z
  ·exact absurd (Nat.lt_of_lt_of_le (Heap.lt_size e) (Nat.le_trans I.ok.bsz z)) (Nat.lt_irrefl _)
 ·rcases List.mem_cons.mp (I.k7 b hs) with e | e
  ·exact(hf b hb).2.1 e
  ·exact(hf b hb).2.2.1 e
 ·have e2:(ini.map fun o=>o.bind fun j=>(σ[j]?).join)[i]?=some (some v):=e2
  rw[List.getElem?_map] at e2
  cases q:ini[i]? with
  | none=>rw[q] at e2;cases e2
  | some oj =>
   rw[q] at e2
   cases oj with
   | none=>cases e2
   | some j =>
    have e4:(σ[j]?).join=some v:=Option.some.inj e2
    have e5:σ[j]?=some (some v):=by
     cases z:σ[j]? with
     | none=>rw[z] at e4;cases e4
     | some y =>
      rw[z] at e4
      have e4:y=some v:=e4
      rw[e4]
    obtain⟨a1,a2,a3⟩:=O.src i j x q e1
    obtain⟨m0,hn0,hl⟩:=I.loc
    obtain⟨u,r,l⟩:=hl j x v a1 e5 (.inr a2)
    refine⟨u,r,?_⟩
    rcases l with ⟨k,_⟩ | ⟨_,c,e,z⟩
    ·rcases a2 with a2 | a2
     ·rw[k] at a2;cases a2
     ·rw[k] at a2;cases a2
    ·obtain⟨c',e'⟩:=O.has x a3
     have e6:=O.cls x c' e'
     rw[e] at e6
     cases e6
     obtain⟨oc,h1,h2⟩:=z
     exact .inr ⟨a3,c,e',oc,hk _ _ h1,h2⟩
 ·obtain⟨v,oc,h1,h2⟩:=I.cell x c (O.cls x c h)
  exact⟨v,oc,hk _ _ h1,h2⟩
 ·show (ini.map _).length=NC.length
  rw[List.length_map]
  exact O.len
theorem comp_back {BK:List (Addr×Obj)}{σ':St}{H':Hp}{s':Shared}{h':Heap}(I:Inv X pins σ H s)(hf:∀ b∈fp,jQ X pins H b)(J:Inv (bD X scope cl NC fp s.heap.objs.size s H) BK σ' H' s')
  (hs:Heap.SameBut s.heap.objs.size s'.heap h'):Inv X pins σ H' { s' with heap:=h' }:=by
 have ne:∀ {b:Addr} {o:Obj},s.heap.get? b=some o→b≠s.heap.objs.size:=fun e=>Nat.ne_of_lt (Heap.lt_size e)
 have pj:H' s.heap.objs.size=none:=J.free
 have B:Un (frs X.stack) fp H H' s.heap s'.heap:=J.base
 refine I.Bj (s':={ s' with heap:=h' }) (ch:=fp) J.os ⟨fun b o q n hb hx=>(hs.2 b (ne q)).trans (B.keep b o q n hb hx),fun b o q n hb hx=>?_,B.free,fun b o q hx=>?_,B.nR,B.mq,B.nS⟩ (fun b u e=>?_) J.bare
  fun b hb=>⟨(hf b hb).2.2.2.1,(hf b hb).2.1,(hf b hb).2.2.2.2.1,(hf b hb).2.2.2.2.2⟩
 ·obtain⟨sl,e⟩:=B.slot b o q n hb hx
  exact⟨sl,(hs.2 b (ne q)).trans e⟩
 ·obtain⟨o',e⟩:=B.there b o q hx
  exact⟨o',(hs.2 b (ne q)).trans e⟩
 ·refine(J.hok b u e).pf (fun c v hc q=>(hs.2 c ?_).trans q) (fun _ q=>q) fun _ _ q=>q
  rintro rfl
  rcases hc with hc | hc
  ·rw[← hc,pj] at e;cases e
  ·rw[pj] at hc;cases hc
end

noncomputable def PTs (X:Cx)(ifs:List Expr)(t:TT):Prop :=
 ∀ (pins:List (Addr×Obj)) (s:Shared) (σ:St) (H:Hp) (Q:Bool→Hp→Prop),Inv X pins σ H s→t σ H Q →
  wpAny (model X.prog X.w) X.A (forIn ifs true fun c r=>if r=true then do let ok ← isTrue c X.env (eval c X.env);pure (ForInStep.yield ok) else pure (ForInStep.yield r)) (TP X pins σ Q) X.xe s
noncomputable def BL:TT:=fun _ H Q=>Q true H
theorem jW {i:Nat}{v:V}{σ:St}{H:Hp}{A B:St→Hp→Prop}(h:A (σ.set i (some v)) H):r9 i v σ H (fun σ3 H3=>BL σ3 H3 fun b H4=>if b=true then A σ3 H4 else B σ3 H4):=h
theorem cF {X:Cx}:PTs X [] BL:=fun _ _ _ H _ I h=>wpAny_tests_nil ⟨H,I,h⟩
theorem b6 {X:Cx}{c:Expr}{t:TT}(h:PT X c t):PTs X [c] t:=fun pins s σ H Q I hw=>wpAny_tests_one (h pins s σ H Q I hw)

noncomputable def km (J:It)(g:TG)(tt:TT)(te:TE)(D:Addr)(Q:VK)(σ₀:St)(H₀:Hp):Prop :=
 ∃ W:Nat→Nat→St→Hp→Prop,(∃ m,W 0 m σ₀ H₀)∧∀ i m σ' H',W i m σ' H' →
  (J.stop i H'∧Q (.ref D) H')∨(J.go i H'∧∃ N:St→Hp→Prop,(∀ σ2 H2,N σ2 H2→∃ m',m'<m∧W (i+1) m' σ2 H2) ∧
   ∀ x H2,J.yld i H' x H2→g x σ' H2 fun σ3 H3=>tt σ3 H3 fun b H4=>if b=true then te σ3 H4 fun v H5=>∃ ys,H5 D=some (.lst ys)∧ys.length<sizeLine∧N σ3 (upd H5 D (.lst (ys++[v]))) else N σ3 H4)
noncomputable def zm (wi:TI)(g:TG)(tt:TT)(te:TE)(ini:List (Option Nat)):TE:=fun σ H Q=>wi σ H fun J H1=>∀ D,H1 D=none→km J g tt te D Q (sx ini σ) (upd H1 D (.lst []))
theorem cG {X:Cx}{elt iter tg:Expr}{ifs:List Expr}{scope:Scope}{pos:Pos}{cl:List (Str×Addr)}{NC:List Str}{ini:List (Option Nat)}{wi:TI}{g:TG}{tt:TT}{te:TE}
  (hc:X.calm=true) (O:iQ X scope cl NC ini) (hi:PI X tg iter wi)
  (hg:∀ fp C s₀ H₀,PG (bD X scope cl NC fp C s₀ H₀) tg g) (ht:∀ fp C s₀ H₀,PTs (bD X scope cl NC fp C s₀ H₀) ifs tt) (he:∀ fp C s₀ H₀,PE (bD X scope cl NC fp C s₀ H₀) elt te)
  (hs:∀ x,foldedSetIterable iter X.env x=pure x:=by intro _;rfl):PE X (.ListComp elt [⟨tg,iter,ifs,0⟩] scope pos) (zm wi g tt te ini):=by
 intro pins s σ H Q I h
 rw[eval_ListComp]
 refine wpAny_comprehension_free (use:=none) rfl hs O.vw O.kind O.names (thn (hi pins s σ H _ I h) fun v s1 h1=>thn h1 fun itv s2 h2=>?_)
 obtain⟨it,fp,tn,J,H2,e,I2,T,st2,f2,h2⟩:=h2
 subst e
 have hD:H2 s2.heap.objs.size=none:=I2.hok.fresh (Nat.le_refl _)
 obtain⟨W,⟨m0,w0⟩,turn⟩:=h2 _ hD
 refine wpAny_newObj_type (wpAny_newFunctionEnv O.cell (by intro y hy;simp at hy) (fun h₁ iR iS=>?_) O.kind)
 dsimp only at iR iS ⊢
 have I3:Inv X pins σ (upd H2 s2.heap.objs.size (.lst [])) { s2 with heap:=s2.heap.push { cls:=.type "list",dict:=none,data:=.seq ([]:List Value).toArray } }:=I2.Ae (its:=[]) (t':=s2.toks) .nil (by decide)
 have ob2:∀ b∈fp,∃ o,s2.heap.get? b=some o:=fun b hb=>let ⟨o,e,_⟩:=T.obj 0 _ st2 b hb;⟨o,e⟩
 have neD:∀ b∈fp,b≠s2.heap.objs.size:=fun b hb=>let ⟨o,e⟩:=ob2 b hb;Nat.ne_of_lt (Heap.lt_size e)
 have f3:∀ b∈fp,jQ X pins (upd H2 s2.heap.objs.size (.lst [])) b:=fun b hb=>⟨by rw[ao (neD b hb)];exact(f2 b hb).1,(f2 b hb).2⟩
 generalize hs3:({ s2 with heap:=s2.heap.push { cls:=.type "list",dict:=none,data:=.seq ([]:List Value).toArray } }:Shared)=s3 at I3
 have hh3:s2.heap.push { cls:=.type "list",dict:=none,data:=.seq ([]:List Value).toArray }=s3.heap:=by rw[← hs3]
 have ob3:∀ b∈fp,∃ o,s3.heap.get? b=some o:=fun b hb=>let ⟨o,e⟩:=ob2 b hb;⟨o,by rw[← hh3];exact Heap.get?_push_of_some _ e⟩
 rw[hh3] at iR iS ⊢
 have old:∀ b o,s3.heap.get? b=some o→h₁.get? b=some o:=fun b o e=>iS.extBut b o (Nat.ne_of_lt (Heap.lt_size e)) (Heap.get?_push_of_some _ e)
 have st1:tn 0 h₁:=T.keep 0 _ _ st2 fun b hb o e=>old b o (by rw[← hh3];exact Heap.get?_push_of_some _ e)
 have IC:∀ tk,Inv (bD X scope cl NC fp s3.heap.objs.size s3 (upd H2 s2.heap.objs.size (.lst []))) [] (sx ini σ) (upd H2 s2.heap.objs.size (.lst [])) { s3 with heap:=h₁,toks:=tk }:=fun tk=>pI O I3 f3 ob3 iR old
 have k9:∀ {H':Hp},(∀ b∈fp,H' b=none)→∀ b∈fp,jQ (bD X scope cl NC fp s3.heap.objs.size s3 (upd H2 s2.heap.objs.size (.lst []))) [] H' b:=fun {H'} hn b hb=>by
  obtain⟨o,e⟩:=ob3 b hb
  refine⟨hn b hb,Nat.ne_of_lt (Heap.lt_size e),fun z=>?_,.inl hb,fun x c hx=>(f3 b hb).2.2.2.2.1 x c (O.cls x c hx),fun p hp=>absurd (show p∈([]:List (Addr×Obj)) from hp) (by simp)⟩
  rcases List.mem_cons.mp (I3.k7 b z) with q | q
  ·exact(f3 b hb).2.1 q
  ·exact(f3 b hb).2.2.1 q
 have loop:∀ s₃:Shared,s₃ = { s2 with heap:=h₁,toks:=s2.toks+([]:List (Str×Value)).length } →
   codeAny (model X.prog X.w) X.A (.compLoop (.ListComp elt [⟨tg,iter,ifs,0⟩] scope pos) 0 (.ref it) (.ref s2.heap.objs.size) (compEnvC scope cl s3.heap.objs.size X.env))
    (compPost (model X.prog X.w) X.A X.xe none (EP X pins σ Q) (.ref s2.heap.objs.size) s3.heap.objs.size) s₃:=by
  rintro s₃ rfl
  refine codeAny_loop rfl (fun n s'=>∃ i σ' H',Inv (bD X scope cl NC fp s3.heap.objs.size s3 (upd H2 s2.heap.objs.size (.lst []))) [] σ' H' s'∧tn i s'.heap∧(∀ b∈fp,H' b=none)∧W i n σ' H') (fun n s' hI=>?_) m0
   ⟨0,_,_,by have z:=IC (s2.toks+([]:List (Str×Value)).length);rw[← hs3] at z ⊢;exact z,st1,fun b hb=>(f3 b hb).1,w0⟩
  show wpAny _ X.A ((compTurn (.ListComp elt [⟨tg,iter,ifs,0⟩] scope pos) 0 (.ref it) (.ref s2.heap.objs.size) (compEnvC scope cl s3.heap.objs.size X.env)).onRaise (fun x=>do noteFrame x (compEnvC scope cl s3.heap.objs.size X.env);theTreesLotGoes x)) _ _ s'
  refine wpAny_noted ?_
  rw[compTurn_list]
  obtain⟨i,σ3,H3,I3',st3,fr3,w3⟩:=hI
  rcases turn i n σ3 H3 w3 with ⟨stop,qn⟩ | ⟨go,N,hN,step⟩
  ·refine wpAny_bind (wpAny_standAt (wpAny_bind (thn (T.done (bD X scope cl NC fp s3.heap.objs.size s3 (upd H2 s2.heap.objs.size (.lst []))) rfl rfl rfl hc i [] s' σ3 H3 _ I3' (k9 fr3) st3 stop) fun r s4 ⟨hr,I4⟩=>?_)))
   subst hr
   obtain⟨m',hn',_⟩:=I4.loc
   exact wpAny_pure ⟨m',hn',fun h' hs'=>⟨.ref s2.heap.objs.size,H3,comp_back I3 f3 I4 hs',rfl,qn⟩⟩
  ·refine wpAny_bind (wpAny_standAt (wpAny_bind (thn (T.item (bD X scope cl NC fp s3.heap.objs.size s3 (upd H2 s2.heap.objs.size (.lst []))) rfl rfl rfl hc i [] s' σ3 H3 _ I3' (k9 fr3) st3 go) fun r s4 ⟨u,hr,h4⟩=>?_)))
   subst hr
   refine wpAny_bind (thn h4 fun _ s5 ⟨x,H5,I5,r5,y5,st5,fr5⟩=>?_)
   have I5':=I5.pinned (k9 fr5) (T.obj _ _ st5)
   refine wpAny_bind (gU (hg fp _ s3 _ _ s5 σ3 H5 x u _ I5' r5 (step x H5 y5)) fun _ s6 ⟨σ6,H6,I6,q6⟩=>?_)
   have again:∀ {s7:Shared} {H7:Hp},Inv (bD X scope cl NC fp s3.heap.objs.size s3 (upd H2 s2.heap.objs.size (.lst []))) ([]++jR fp s5.heap) σ6 H7 s7→N σ6 H7 →
     ∃ m,m<n∧∃ i σ' H',Inv (bD X scope cl NC fp s3.heap.objs.size s3 (upd H2 s2.heap.objs.size (.lst []))) [] σ' H' s7∧tn i s7.heap∧(∀ b∈fp,H' b=none)∧W i m σ' H':=fun {s7 H7} I7 n7=>by
    obtain⟨m',hm,w7⟩:=hN σ6 H7 n7
    refine⟨m',hm,i+1,σ6,H7,I7.gQ,T.keep _ _ _ st5 fun b hb o e=>(I7.pin (b,o) (List.mem_append_right _ (List.mem_append_right _ (dC hb e)))).1,fun b hb=>?_,w7⟩
    obtain⟨o,e,d⟩:=T.obj _ _ st5 b hb
    exact(I7.pin (b,o) (List.mem_append_right _ (List.mem_append_right _ (dC hb e)))).2.1
   refine wpAny_bind (gU (ht fp _ s3 _ _ s6 σ6 H6 _ I6 q6) fun ok s7 ⟨H7,I7,q7⟩=>?_)
   cases ok with
   | false=>exact wpAny_pure ⟨rfl,again I7 q7⟩
   | true =>
    refine wpAny_bind (wpAny_bind (gU (he fp _ s3 _ _ s7 σ6 H7 _ I7 q7) fun u8 s8 ⟨v8,H8,I8,r8,ys,hy,hz,n8⟩=>?_))
    refine wpAny_bind (gU (bE _ s8 σ6 H8 (.ref s2.heap.objs.size) [v8] (.ref s2.heap.objs.size) [u8] (fun _ H9=>N σ6 H9) I8 rfl (.cons r8 .nil) ⟨_,ys,v8,rfl,rfl,hy,hz,n8⟩) fun _ s9 ⟨_,H9,I9,_,n9⟩=>?_)
    exact wpAny_pure (wpAny_pure ⟨rfl,again I9 n9⟩)
 exact codeAny_compStart_list (loop _ rfl) (T.self _ 0 _ _ _ st1 (loop _ rfl))

theorem iT {lo:Int}{n:Nat}{g:TG}{tt:TT}{te:TE}{D:Addr}{Q:VK}{σ₀:St}{H₀:Hp}(Pv:Nat→St→Hp→Prop)(h0:Pv 0 σ₀ H₀)
  (hs:∀ i σ H,i<n→Pv i σ H→g (.int (lo+i)) σ H fun σ3 H3=>tt σ3 H3 fun b H4=>if b=true then te σ3 H4 fun v H5=>∃ ys,H5 D=some (.lst ys)∧ys.length<sizeLine∧Pv (i+1) σ3 (upd H5 D (.lst (ys++[v]))) else Pv (i+1) σ3 H4)
  (hd:∀ σ H,Pv n σ H→Q (.ref D) H):km (Itr lo n) g tt te D Q σ₀ H₀:=by
 refine⟨fun i m σ H=>m=n-i∧i≤n∧Pv i σ H,⟨n,by simp,Nat.zero_le _,h0⟩,?_⟩
 rintro i m σ H ⟨rfl,hi,p⟩
 by_cases hlt:i<n
 ·refine .inr ⟨hlt,Pv (i+1),fun σ' H' p'=>⟨n-(i+1),by omega,rfl,hlt,p'⟩,fun x H' y=>?_⟩
  obtain⟨e,y⟩:=y
  subst e y
  exact hs i σ _ hlt p
 ·have e:i=n:=by omega
  subst e
  exact .inl ⟨Nat.le_refl _,hd σ H p⟩
theorem a5 {K:PySem.W.Frag}{a:Addr}{xs:List V}{g:TG}{tt:TT}{te:TE}{D:Addr}{Q:VK}{σ₀:St}{H₀:Hp}(Pv:Nat→St→Hp→Prop)(h0:Pv 0 σ₀ H₀)(hl:∀ i σ H,i≤xs.length→Pv i σ H→SqL K H a xs)
  (hs:∀ i x σ H,xs[i]?=some x→Pv i σ H→g x σ H fun σ3 H3=>tt σ3 H3 fun b H4=>if b=true then te σ3 H4 fun v H5=>∃ ys,H5 D=some (.lst ys)∧ys.length<sizeLine∧Pv (i+1) σ3 (upd H5 D (.lst (ys++[v]))) else Pv (i+1) σ3 H4)
  (hd:∀ σ H,Pv xs.length σ H→Q (.ref D) H):km (Itl K a) g tt te D Q σ₀ H₀:=by
 refine⟨fun i m σ H=>m=xs.length-i∧i≤xs.length∧Pv i σ H,⟨xs.length,by simp,Nat.zero_le _,h0⟩,?_⟩
 rintro i m σ H ⟨rfl,hi,p⟩
 have q:=hl i σ H hi p
 by_cases hlt:i<xs.length
 ·refine .inr ⟨⟨xs,xs[i],q,by simp[hlt]⟩,Pv (i+1),fun σ' H' p'=>⟨xs.length-(i+1),by omega,rfl,hlt,p'⟩,fun x H' y=>?_⟩
  obtain⟨e,y⟩:=y
  subst e
  exact hs i x σ _ (y xs q) p
 ·have e:i=xs.length:=by omega
  subst e
  exact .inl ⟨⟨xs,q,Nat.le_refl _⟩,hd σ H p⟩
theorem gz {X:Cx}{scope:Scope}{NC:List Str}(jc:scope.kind=.function)(h:∀ y∈scope.names,y.2≠.cell∧y.2≠.free)(hn:∀ y∈scope.names,y.2=.local→scope.names.lookup y.1=some .local) :
  iQ X scope [] NC (List.replicate NC.length none) where
 vw:=closureFor_none fun x hx=>(h x hx).2
 cell:=fun y hy=>(h y hy).1
 kind:=jc
 names:=hn
 cls:=fun x c e=>by cases e
 has:=fun x e=>by
  exfalso
  have key:∀ k,(relabel scope X.env).names.lookup x=some k→k=.cell∨k=.free→False:=fun k e hk=>by
   have hm:=PySem.mem_of_lookup e
   obtain⟨⟨n,k'⟩,hy,ey⟩:=List.mem_map.mp hm
   have h1:=h _ hy
   have hb:(k' == NameKind.free)=false:=by simpa using h1.2
   simp only[hb,Bool.false_and,Bool.false_eq_true,if_false,Prod.mk.injEq] at ey
   obtain⟨_,rfl⟩:=ey
   rcases hk with hk | hk
   ·exact h1.1 hk
   ·exact h1.2 hk
  rcases e with e | e
  ·exact key _ e (.inl rfl)
  ·exact key _ e (.inr rfl)
 len:=by simp
 src:=fun i j x e _=>by
  rw[List.getElem?_replicate] at e
  split at e <;> cases e

section
variable {X:Cx}
theorem jk:eO X (.builtin "isinstance") (fun xs H Q=>∃ x n t b,xs=[x,.ty n]∧jU X.K H x t∧PySem.W.kitOne X.K t (.type n)=some b∧Q (.bl b) H):=by
 intro pins s σ H xs us Q I r h
 obtain⟨x,n,t,b,rfl,ty,e,q⟩:=h
 obtain⟨u,v,rfl,ru,rv⟩:=r.two
 cases rv
 exact t5 I ru ty e fun tk=>⟨.bl b,H,I.tok tk,rfl,q⟩
theorem pJ (K:PySem.W.Frag):PySem.W.kitOne K (.type "int") (.type "int")=some true:=by unfold PySem.W.kitOne;rw[if_pos (by decide +kernel)]
theorem ko (K:PySem.W.Frag):PySem.W.kitOne K (.type "list") (.type "list")=some true:=by unfold PySem.W.kitOne;rw[if_pos (by decide +kernel)]
theorem oh (K:PySem.W.Frag):PySem.W.kitOne K (.type "int") (.type "bool")=some false:=by
 unfold PySem.W.kitOne
 rw[if_neg (by decide +kernel)]
 show (if PySem.W.kitMeta "bool" = true then (fastBuiltinMro "int").map (·.contains (Value.type "bool")) else none)=some false
 decide +kernel
end

structure Fn (K:PySem.W.Frag) (mg:Str→Option Value) (x:Str) (st:Stmt) (ps:List Str) (f:Addr) (fd:FuncData):Prop where
 fn:Fun K x x st f fd
 b:Binds K fd ps []
 g:mg x=some (.ref f)
theorem Fn.mk' {K : PySem.W.Frag}{mg : Str → Option Value}{x : Str}{st : Stmt}{ps : List Str}{f : Addr}{fd : FuncData}(F : Fun K x x st f fd)
    (h : ∀ (kV doc pm : Value) (an : Option Addr) (cdv ct : Value) (us : List Value), us.length=ps.length → bindArgs (PySem.W.fnOf x x (bF st) (bB st) (aA st) .none kV doc pm an cdv ct) ⟨us, []⟩=pure (ps.zip us))
    (g : mg x=some (.ref f)) : Fn K mg x st ps f fd := ⟨F, F.binds h, g⟩
theorem aY {X : Cx}{x : Str}{st : Stmt}{ps : List Str}{f : Addr}{fd : FuncData}{k : Nat}{sp : Sp}{e : Expr}{es : List Expr}{t : TA}{p pos : Pos}(G : aO X.prog X.w X.K X.mg X.base CX0 k f fd ps sp)(F : Fn X.K X.mg x st ps f fd)(hr : fQ k X.A)(ha : PA X (e::es) t)
    (hg : Gl X x := by rfl) (hdb : (x == ("__debug__" : Str))=false := by decide) (he : starEach (e::es) X.env=(false, eval e X.env)::starEach es X.env := by rfl) (hpl : (backTo pos (starEach es X.env)).any (·.1)=false := by rfl) :
    PE X (.Call (.Name x p) (e::es) [] pos) (zj sp [] E0 t) := xQ G hr hg F.g F.fn.kp F.b .nil BJ ha hdb he hpl
noncomputable def vy (K:PySem.W.Frag):Sp:=fun vs H Q _=>∃ (a:Addr) (ns:List Int),vs=[.ref a]∧SqL K H a (ns.map V.int)∧ns.length≤63∧∀ H',Q (.bl true) H'

theorem ag {H:Hp}{p:Addr}{o:HO}(h:H p=none):aq H (upd H p o):=fun b u e=>by rw[ao (aV e h)];exact e
theorem aq.upd {H H':Hp}{p:Addr}{o:HO}(s:aq H H')(h:H p=none):aq H (upd H' p o):=fun b u e=>by rw[ao (aV e h)];exact s b u e
theorem Ak {xs:List V}{k:Int}{v:V}(h0:0≤k)(h:xs[k.toNat]?=some v):atI xs k=some v:=by
 have e:k=(k.toNat:Int):=by omega
 rw[e]
 exact aW h

theorem bg:bootBuiltins "len" = some (.builtin "len"):=by decide +kernel
theorem dN:bootBuiltins "isinstance" = some (.builtin "isinstance"):=by decide +kernel
theorem jX:bootBuiltins "sorted" = some (.builtin "sorted"):=by decide +kernel
theorem om:bootBuiltins "int" = some (.type "int"):=by decide +kernel
theorem xZ:bootBuiltins "bool" = some (.type "bool"):=by decide +kernel
theorem iq:bootBuiltins "list" = some (.type "list"):=by decide +kernel
theorem gW:bootBuiltins "tuple" = some (.type "tuple"):=by decide +kernel
theorem oq:bootBuiltins "enumerate" = some (.type "enumerate"):=by decide +kernel
end L2


namespace L2
open PySem PySem.Spec PyProof.Rows
section
variable {X:Cx}
theorem x4 {K : PySem.W.Frag}{es : List Expr}{k : Nat}{t : TGs}{n : Nat}{pos : Pos}(hK : X.K=K)(hc : X.calm=true)(h : PGs X es t)
    (hn : (assignEach es X.env).length=n := by rfl) (hst : (assignEach es X.env).findIdx? (·.1)=none := by rfl) : PG X (.Tuple es k pos) (Br K n t) := hK ▸ nW hc h hn hst
theorem vz {K:PySem.W.Frag}{a:Addr}{xs:List V}{g:TG}{tt:TT}{te:TE}{D:Addr}{Q:VK}{σ₀:St}{H₀:Hp}(Pv:Nat→St→Hp→Prop)(h0:Pv 0 σ₀ H₀)(hl:∀ i σ H,i≤xs.length→Pv i σ H→SqT K H a xs)
  (hs:∀ i x σ H,xs[i]?=some x→Pv i σ H→g x σ H fun σ3 H3=>tt σ3 H3 fun b H4=>if b=true then te σ3 H4 fun v H5=>∃ ys,H5 D=some (.lst ys)∧ys.length<sizeLine∧Pv (i+1) σ3 (upd H5 D (.lst (ys++[v]))) else Pv (i+1) σ3 H4)
  (hd:∀ σ H,Pv xs.length σ H→Q (.ref D) H):km (Itt K a) g tt te D Q σ₀ H₀:=by
 refine⟨fun i m σ H=>m=xs.length-i∧i≤xs.length∧Pv i σ H,⟨xs.length,by simp,Nat.zero_le _,h0⟩,?_⟩
 rintro i m σ H ⟨rfl,hi,p⟩
 have q:=hl i σ H hi p
 by_cases hlt:i<xs.length
 ·refine .inr ⟨⟨xs,xs[i],q,by simp[hlt]⟩,Pv (i+1),fun σ' H' p'=>⟨xs.length-(i+1),by omega,rfl,hlt,p'⟩,fun x H' y=>?_⟩
  obtain⟨e,y⟩:=y
  subst e
  exact hs i x σ _ (y xs q) p
 ·have e:i=xs.length:=by omega
  subst e
  exact .inl ⟨⟨xs,q,Nat.le_refl _⟩,hd σ H p⟩

end
end L2



namespace L2
open PySem PySem.Spec PyProof.Rows
section
variable {X:Cx}
theorem eI {b:List Stmt}{R:TS}(h:∀ D σ H,R D σ H→∃ t,PSs X b t∧t D σ H):PSs X b R:=fun pins s σ H D I hw=>by
 obtain⟨t,ht,hq⟩:=h D σ H hw
 exact ht pins s σ H D I hq
theorem cu:eO X (.type "tuple") (fun xs H Q=>∃ p ys,xs=[.ref p]∧(H p=some (.lst ys)∨H p=some (.tup ys))∧∀ t H1,aq H H1→H1 t=some (.tup ys)→Q (.ref t) H1):=by
 intro pins s σ H xs us Q I r h
 obtain⟨p,ys,rfl,hp,q⟩:=h
 refine mC pins s σ H [.ref p] us Q I r ⟨p,ys,rfl,?_⟩
 rcases hp with hp | hp
 ·exact .inl ⟨SqL.of hp,fun l hl=>q l _ (ag hl) ae⟩
 ·exact .inr ⟨SqT.of hp,q p H (aq.refl H) hp⟩
theorem fQ.lt {k:Nat}{A:Around}(r:fQ k A)(n:Nat)(h:n≤62):A.units+n+1<cLine:=by have:=r.units;omega

end

end L2

namespace L2
open PySem PySem.Spec PyProof.Rows
section
variable {X:Cx}
noncomputable def Al (K:PySem.W.Frag)(H:Hp):Nat→V→V→Prop
 | 0,x,y=>x=y∧fY x=true
 | n+1,x,y=>(x=y∧fY x=true)∨∃ (a b:Addr) (xs ys:List V),x=.ref a∧y=.ref b∧((SqL K H a xs∧SqL K H b ys)∨(SqT K H a xs∧SqT K H b ys))∧xs.length=ys.length∧∀ (i:Nat) (u v:V),xs[i]?=some u→ys[i]?=some v→Al K H n u v
theorem pK {x:V}(h:fY x=true):eqV x x=true:=by
 cases x <;> first | rfl | (exact absurd h Bool.false_ne_true) | (show (_ == _)=true;exact beq_self_eq_true _)
theorem fE {xs:List V}{its:List Value}{j:Nat}(r:Vals xs its)(hj:j<its.toArray.size):∃ x,xs[j]?=some x∧RelV x its.toArray[j]:=by
 have hl:=r.length
 have hx:j<xs.length:=by rw[List.size_toArray] at hj;omega
 obtain⟨u,hu,ru⟩:=r.get (List.getElem?_eq_getElem hx)
 refine⟨_,List.getElem?_eq_getElem hx,?_⟩
 have z:its.toArray[j]?=some u:=by simpa using hu
 rw[(Array.getElem?_eq_some_iff.mp z).2]
 exact ru
theorem all_true (n:Nat):(List.range n).all (fun _=>true)=true:=List.all_eq_true.mpr fun _ _=>rfl
section
variable {pins:List (Addr×Obj)}{σ:St}{H:Hp}{s:Shared}
theorem jY (I:Inv X pins σ H s):∀ (n:Nat) {A:Around} {x y:V} {u v:Value},A.units+n<cLine→Al X.K H n x y→RelV x u→RelV y v→SeqAt.EqAt A s u v true
 | 0,A,x,y,u,v,hu,h,rx,ry=>by
  obtain⟨rfl,f⟩:=h
  have z:=qL (A:=A) (s:=s) rx ry f f
  rw[pK f] at z
  exact z
 | n+1,A,x,y,u,v,hu,h,rx,ry=>by
  rcases h with ⟨rfl,f⟩ | ⟨a,b,xs,ys,rfl,rfl,hs,hl,hd⟩
  ·have z:=qL (A:=A) (s:=s) rx ry f f
   rw[pK f] at z
   exact z
  ·cases rx
   cases ry
   by_cases e:a=b
   ·subst e;exact SeqAt.EqAt.same _
   ·refine SeqAt.EqAt.of_refs e ?_
    have hu1:A.in1.units+n<cLine:=by show A.units+1+n<cLine;omega
    rcases hs with ⟨h1,h2⟩ | ⟨h1,h2⟩
    ·obtain⟨i1,r1,p1,z1⟩:=I.list h1
     obtain⟨i2,r2,p2,z2⟩:=I.list h2
     have l1:=r1.length
     have l2:=r2.length
     have z:=SeqAt.RcAt.lists (A:=A) (e:=fun _=>true) p1.isList p2.isList (by simp only[List.size_toArray];omega) (by omega) fun j q1 q2=>by
      obtain⟨x1,e1,t1⟩:=fE r1 q1
      obtain⟨x2,e2,t2⟩:=fE r2 q2
      exact jY I n hu1 (hd j x1 x2 e1 e2) t1 t2
     rw[all_true] at z
     exact z
    ·obtain⟨i1,r1,p1,z1⟩:=I.tuple h1
     obtain⟨i2,r2,p2,z2⟩:=I.tuple h2
     have l1:=r1.length
     have l2:=r2.length
     have z:=SeqAt.RcAt.tuples (A:=A) (e:=fun _=>true) (show s.heap.IsTuple a i1.toArray from p1) (show s.heap.IsTuple b i2.toArray from p2) (by omega) fun j q1 q2=>by
      obtain⟨x1,e1,t1⟩:=fE r1 q1
      obtain⟨x2,e2,t2⟩:=fE r2 q2
      exact jY I n hu1 (hd j x1 x2 e1 e2) t1 t2
     have e3:(i1.toArray.size == i2.toArray.size)=true:=by simp only[List.size_toArray,beq_iff_eq];omega
     rw[all_true,e3] at z
     exact z
end
noncomputable def zo (K:PySem.W.Frag)(H:Hp)(n:Nat)(a b:Addr):Prop:=∃ xs ys:List V,SqL K H a xs∧SqL K H b ys∧xs.length=ys.length∧∀ (i:Nat) (u v:V),xs[i]?=some u→ys[i]?=some v→Al K H n u v
theorem qN (n:Nat)(hu:X.A.units+n+1<cLine):OpR X (compareOp .NotEq) (fun x y H Q=>∃ a b:Addr,x=.ref a∧y=.ref b∧zo X.K H n a b∧Q (.bl false) H):=by
 intro pins s σ H x y v u Q I rx ry h
 obtain⟨a,b,rfl,rfl,⟨xs,ys,h1,h2,hl,hd⟩,q⟩:=h
 cases rx
 cases ry
 obtain⟨i1,r1,p1,z1⟩:=I.list h1
 obtain⟨i2,r2,p2,z2⟩:=I.list h2
 have l1:=r1.length
 have l2:=r2.length
 refine SeqAt.RcNeAt.lists (A:=X.A) (e:=fun _=>true) p1.isList p2.isList (by simp only[List.size_toArray];omega) (by omega) (fun j q1 q2=>?_) X.prog X.w X.xe _ ⟨.bl false,H,I,?_,q⟩
 ·obtain⟨x1,e1,t1⟩:=fE r1 q1
  obtain⟨x2,e2,t2⟩:=fE r2 q2
  exact jY I n (by show X.A.units+1+n<cLine;omega) (hd j x1 x2 e1 e2) t1 t2
 ·show Value.bool _=Value.bool false
  rw[all_true]
  rfl
end
end L2

namespace L2
open PySem PySem.Spec PyProof.Rows
noncomputable def vA (K:PySem.W.Frag)(a:Addr):It :=
 ⟨fun i H=>∃ xs x,SqL K H a xs∧xs[i]?=some x,fun i H y H'=>∃ t x,y=.ref t∧H t=none∧H'=upd H t (.tup [.int i,x])∧∀ xs,SqL K H a xs→xs[i]?=some x,fun i H=>∃ xs,SqL K H a xs∧xs.length≤i⟩
theorem qO {P:Program}{w:World}{K:PySem.W.Frag}{elts:List Expr}{x1:Nat}{tp:Pos}(a e it:Addr)(hei:e≠it) :
  Turn P w K (.Tuple elts x1 tp) (vA K a) [e,it] e (fun i h=>(∃ old,IsEnum h e it i old)∧h.IsListIter it a i) where
 mem:=by simp
 obj:=fun i h st b hb=>by
  obtain⟨⟨old,he⟩,hit⟩:=st
  rcases List.mem_cons.mp hb with rfl | hb
  ·exact⟨_,he,fun v z=>by
    have z':Data.fields _=Data.cell v:=z
    cases z'⟩
  ·have e1:b=it:=by simpa using hb
   subst e1
   obtain⟨o,e,c,d⟩:=hit
   exact⟨o,e,fun v z=>by rw[d] at z;cases z⟩
 keep:=fun i h h' st k=>⟨let ⟨old,he⟩:=st.1;⟨old,k e (by simp) _ he⟩,let ⟨o,ho,r⟩:=st.2;⟨o,k it (by simp) o ho,r⟩⟩
 item:=by
  intro X hP hw hK hc i pins s σ H E I hf st hg
  subst hP hw hK
  obtain⟨⟨old,he⟩,hit⟩:=st
  obtain⟨xs,x,hq,hx⟩:=hg
  obtain⟨its,rv,p,hz⟩:=I.list hq
  obtain⟨u,hu,ru⟩:=rv.get hx
  obtain⟨f0,f1,f2,f3,f4,f5⟩:=hf e (by simp)
  obtain⟨g0,g1,g2,g3,g4,g5⟩:=hf it (by simp)
  refine wpAny_pyNext_enum_item he hit p.isList (x:=u) (by simpa using hu) hei fun h' ho' qP hT hsz hk=>?_
  refine⟨_,rfl,wpAny_letOwnedTupleGo_enum ho' fun h'' Am uf=>?_⟩
  have hlt:e<s.heap.objs.size:=Heap.lt_size he
  have k2:∀ b o,b≠e→b≠it→s.heap.get? b=some o→h''.get? b=some o:=fun b o h1 h2 q=>(uf.2 b h1).trans (hk b o h1 h2 q)
  have hT2:h''.get? s.heap.objs.size=some { cls:=.type "tuple",data:=.seq #[.int i s.toks,u] }:=(uf.2 _ (Nat.ne_of_gt hlt)).trans hT
  have hfr:H s.heap.objs.size=none:=I.hok.fresh (Nat.le_refl _)
  have neT:∀ {b:Addr} {o:Obj},s.heap.get? b=some o→b≠s.heap.objs.size:=fun q=>Nat.ne_of_lt (Heap.lt_size q)
  have trk:∀ {b:Addr} {o:HO},H b=some o→b≠e∧b≠it:=fun q=>⟨fun z=>(by rw[z,f0] at q;cases q),fun z=>(by rw[z,g0] at q;cases q)⟩
  have I2:Inv X pins σ (upd H s.heap.objs.size (.tup [.int i,x])) { s with heap:=h'',toks:=s.toks+1 }:=by
   refine I.step (g':=s.gens) (d':=s.drawn) (ch:=[e,it]) (fun b hb=>?_) (fun b o _ _ hch q _=>k2 b o (fun z=>hch (by simp[z])) (fun z=>hch (by simp[z])) q) (fun b o _ _ hch q _=>⟨o.slots,k2 b o (fun z=>hch (by simp[z])) (fun z=>hch (by simp[z])) q⟩)
    (fun b o _ q n=>by rw[ao (neT q)];exact n) (fun b o hch q=>⟨o,k2 b o (fun z=>hch (by simp[z])) (fun z=>hch (by simp[z])) q⟩) (fun b ys q=>by rw[ao (aV q hfr)];exact q) (fun b o ys q=>by rw[ao (aV q hfr)];exact q)
    (fun b ps q=>⟨#[],by rw[ao (aV q hfr),q];simp⟩) (fun m hm=>?_) (fun b v q=>?_) I.bare
   ·rcases List.mem_cons.mp hb with rfl | hb
    ·exact⟨f3,f1,f4,f5⟩
    ·have e1:b=it:=by simpa using hb
     subst e1
     exact⟨g3,g1,g4,g5⟩
   ·obtain⟨o,es,ep,ho,r⟩:=hm
    exact⟨o,es,ep,k2 _ o (Ne.symm f1) (Ne.symm g1) ho,r⟩
   ·by_cases hb:b=s.heap.objs.size
    ·subst hb
     rw[ae] at q
     cases q
     exact⟨by show 2≤sizeLine;decide,[.int i s.toks,u],.cons ⟨_,rfl⟩ (.cons ru .nil),_,hT2,rfl,_,rfl⟩
    ·rw[ao hb] at q
     refine(I.hok b v q).pf (fun c o hc z=>?_) (fun c z=>by rw[ao (aV z hfr)];exact z) fun c ys z=>by rw[ao (aV z hfr)];exact z
     rcases hc with rfl | hc
     ·exact k2 c o (trk q).1 (trk q).2 z
     ·exact k2 c o (trk hc).1 (trk hc).2 z
  refine⟨.ref s.heap.objs.size,_,I2,rfl,⟨_,x,rfl,hfr,rfl,fun ys hy=>by rw[I.pw hy hq];exact hx⟩,⟨⟨u,by simpa using Am⟩,?_⟩,fun b hb=>?_⟩
  ·obtain⟨o,q,r⟩:=qP
   exact⟨o,(uf.2 it (Ne.symm hei)).trans q,r⟩
  ·rcases List.mem_cons.mp hb with rfl | hb
   ·rw[ao (Nat.ne_of_lt hlt)];exact f0
   ·have e1:b=it:=by simpa using hb
    subst e1
    obtain⟨o,q,_⟩:=hit
    rw[ao (neT q)]
    exact g0
 done:=by
  intro X hP hw hK hc i pins s σ H E I hf st hg
  subst hP hw hK
  obtain⟨⟨old,he⟩,hit⟩:=st
  obtain⟨xs,hq,hx⟩:=hg
  obtain⟨its,rv,p,hz⟩:=I.list hq
  obtain⟨g0,g1,g2,g3,g4,g5⟩:=hf it (by simp)
  have hl:=rv.length
  exact wpAny_pyNext_enum_end (I.ok.hd hc) he hit p.isList (by simp;omega) fun h' eb=>⟨rfl,I.turned (t':=s.toks) (fun b o hb q=>eb b o hb q) g0 g1 g3 g4 g5⟩
 self:=fun _ _ _ _ _ st h=>let ⟨_,he⟩:=st.1;wpAny_pyIter_enum he h
section
variable {X:Cx}
noncomputable def An (K:PySem.W.Frag)(ta:TA):TI:=fun σ H R=>ta σ H fun vs H1=>∃ a,vs=[.ref a]∧(∃ xs,SqL K H1 a xs)∧R (vA K a) H1
theorem vC {a:Expr}{ta:TA}{p pos:Pos}{elts:List Expr}{x1:Nat}{tp:Pos}(hg:Gl X "enumerate")(hm:X.mg "enumerate" = none)(ha:PA X [a] ta)(hs:starEach [a] X.env=[(false,eval a X.env)]:=by rfl) :
  PI X (.Tuple elts x1 tp) (.Call (.Name "enumerate" p) [a] [] pos) (An X.K ta):=by
 intro pins s σ H R I h
 refine Call_ (gv I hg hm oq (PyProof.Rows.callWith_type1 (thn (ha pos pins s σ H _ I h) fun us s1 ⟨vs,H1,I1,r1,q1⟩=>?_) hs rfl))
 obtain⟨l,e,⟨xs,hq⟩,q⟩:=q1
 subst e
 cases r1 with
 | cons r rr =>
  cases rr
  cases r
  obtain⟨its,rv,ht,hz⟩:=I1.list hq
  refine call_enumerate_list ht.isList fun h' he hit hsz hk=>?_
  have I2:Inv X pins σ H1 { s1 with heap:=h' }:=I1.kept (t':=s1.toks) hk
  refine wpAny_pyIter_enum he ?_
  refine⟨s1.heap.objs.size+1,[s1.heap.objs.size+1,s1.heap.objs.size],_,_,H1,rfl,I2,qO l _ _ (Nat.succ_ne_self _),⟨⟨_,he⟩,hit⟩,fun b hb=>?_,q⟩
  rcases List.mem_cons.mp hb with rfl | hb
  ·exact(I1.mw (Nat.le_succ _) (I1.hok.fresh (Nat.le_succ _)))
  ·have e:b=s1.heap.objs.size:=by simpa using hb
   subst e
   exact I1.mw (Nat.le_refl _) (I1.hok.fresh (Nat.le_refl _))
theorem ug {K:PySem.W.Frag}{a:Addr}{xs:List V}{g:TG}{tb:TS}{D:Ends}{σ:St}{H:Hp}(Pv:Nat→St→Hp→Prop)(h0:Pv 0 σ H)(hl:∀ i σ H,i≤xs.length→Pv i σ H→SqL K H a xs)
  (hs:∀ i x t σ H,xs[i]?=some x→Pv i σ H→H t=none→g (.ref t) σ (upd H t (.tup [.int i,x])) fun σ2 H2=>tb { D with nx:=Pv (i+1),ct:=Pv (i+1),bk:=D.nx } σ2 H2) (hd:∀ σ H,Pv xs.length σ H→D.nx σ H) :
  ∃ W:Nat→Nat→St→Hp→Prop,(∃ m,W 0 m σ H)∧∀ i m σ H,W i m σ H →
   ((vA K a).stop i H∧D.nx σ H)∨((vA K a).go i H∧∃ N:St→Hp→Prop,(∀ σ' H',N σ' H'→∃ m',m'<m∧W (i+1) m' σ' H')∧∀ x H',(vA K a).yld i H x H'→g x σ H' fun σ2 H2=>tb { D with nx:=N,ct:=N,bk:=D.nx } σ2 H2):=by
 refine⟨fun i m σ H=>m=xs.length-i∧i≤xs.length∧Pv i σ H,⟨xs.length,by simp,Nat.zero_le _,h0⟩,?_⟩
 rintro i m σ H ⟨rfl,hi,p⟩
 have q:=hl i σ H hi p
 by_cases hlt:i<xs.length
 ·refine .inr ⟨⟨xs,xs[i],q,by simp[hlt]⟩,Pv (i+1),fun σ' H' p'=>⟨xs.length-(i+1),by omega,rfl,hlt,p'⟩,fun x H' y=>?_⟩
  obtain⟨t,z,e,hn,e2,y⟩:=y
  subst e e2
  exact hs i z t σ _ (y xs q) p hn
 ·have e:i=xs.length:=by omega
  subst e
  exact .inl ⟨⟨xs,q,Nat.le_refl _⟩,hd σ H p⟩
end

theorem x5 {X:Cx}{scope:Scope}{pre:List Str}{y:Str}{c:Addr}{j:Nat}(jc:scope.kind=.function)(h:∀ z∈scope.names,z.2≠.cell∧(z.2=.free→z.1=y))(hn:∀ z∈scope.names,z.2=.local→scope.names.lookup z.1=some .local)
  (hcl:closureFor scope X.env=pure [(y,c)]) (hc:X.env.cells.lookup y=some c) (hN:X.N[j]?=some y) (hk:X.env.kindOf y=some .cell) (hr:(relabel scope X.env).names.lookup y=some .cell) :
  iQ X scope [(y,c)] (pre++[y]) (List.replicate pre.length none++[some j]) where
 vw:=hcl
 cell:=fun z hz=>(h z hz).1
 kind:=jc
 names:=hn
 cls:=fun x c' e=>by
  rw[List.lookup_cons] at e
  split at e
  ·rename_i hx
   rw[eq_of_beq hx,← e]
   exact hc
  ·cases e
 has:=fun x e=>by
  have key:∀ k,(relabel scope X.env).names.lookup x=some k→k=.cell∨k=.free→x=y:=fun k e hk=>by
   have hm:=PySem.mem_of_lookup e
   obtain⟨⟨n,k'⟩,hy,ey⟩:=List.mem_map.mp hm
   have h1:=h _ hy
   by_cases hf:k'=.free
   ·have z:=h1.2 hf
    dsimp only at ey
    split at ey
    ·cases ey;exact z
    ·cases ey;exact z
   ·have hb:(k' == NameKind.free)=false:=by simpa using hf
    simp only[hb,Bool.false_and,Bool.false_eq_true,if_false,Prod.mk.injEq] at ey
    obtain⟨_,rfl⟩:=ey
    rcases hk with hk | hk
    ·exact absurd hk h1.1
    ·exact absurd hk hf
  have hxy:x=y:=by
   rcases e with e | e
   ·exact key _ e (.inl rfl)
   ·exact key _ e (.inr rfl)
  exact⟨c,by rw[hxy,List.lookup_cons,beq_self_eq_true]⟩
 len:=by simp
 src:=fun i k x e1 e2=>by
  by_cases hi:i<pre.length
  ·rw[List.getElem?_append_left (by simpa using hi),List.getElem?_replicate,if_pos hi] at e1
   cases e1
  ·have hl:=(List.getElem?_eq_some_iff.mp e2).1
   rw[List.length_append,List.length_singleton] at hl
   have e:i=pre.length:=by omega
   subst e
   rw[List.getElem?_append_right (by simp)] at e1
   rw[List.getElem?_append_right (Nat.le_refl _)] at e2
   simp at e1 e2
   subst e1 e2
   exact⟨hN,.inl hk,.inl hr⟩

theorem bC {X : Cx}{scope : Scope}{x y : Str}{c : Addr}{j : Nat}(jc : scope.kind=.function)(h : ∀ z ∈ scope.names, z.2 ≠ .cell ∧ (z.2=.free → z.1=y))(hn : ∀ z ∈ scope.names, z.2=.local → scope.names.lookup z.1=some .local)
    (hcl : closureFor scope X.env=pure [(y, c)]) (hc : X.env.cells.lookup y=some c) (hN : X.N[j]?=some y) (hk : X.env.kindOf y=some .cell) (hr : (relabel scope X.env).names.lookup y=some .cell) :
    iQ X scope [(y, c)] [x, y] [none, some j] := x5 (pre := [x]) jc h hn hcl hc hN hk hr
theorem uh {M:Model}{A:Around}{E:Value→Shared→Prop}{s:Shared}{env:Env}{x:Str}{v:Value}{Q:Unit→Shared→Prop}(h:wpAny M A (storeName env x v) Q E s):wpAny M A (bindName env x v) Q E s:=fun Γ p hΓ=>by
 rw[Sem.wp_bindName]
 exact h Γ _ hΓ
theorem b7 {X:Cx}{elt iter tg:Expr}{ifs:List Expr}{scope:Scope}{pos pos' ps:Pos}{x:Str}{ix:Nat}{cl:List (Str×Addr)}{NC:List Str}{ini:List (Option Nat)}{wi:TI}{g:TG}{tt:TT}{te:TE}
  (hN:X.N.Nodup) (hix:X.N[ix]?=some x) (hx:Loc X.env.scope x) (hc:X.calm=true) (O:iQ X scope cl NC ini) (hi:PI X tg iter wi)
  (hg:∀ fp C s₀ H₀,PG (bD X scope cl NC fp C s₀ H₀) tg g) (ht:∀ fp C s₀ H₀,PTs (bD X scope cl NC fp C s₀ H₀) ifs tt) (he:∀ fp C s₀ H₀,PE (bD X scope cl NC fp C s₀ H₀) elt te)
  (hs:∀ x,foldedSetIterable iter X.env x=pure x:=by intro _;rfl) (hsw:swapsWith (.ListComp elt [⟨tg,iter,ifs,0⟩] scope pos) (some (.Name x pos')) ps.line X.env=pure true:=by rfl)
  (hf:X.fn x=true∨X.env.scope.names.lookup x=some .local:=by first | exact .inl rfl | exact .inr rfl | assumption):PS X (.Assign [.Name x pos'] (.ListComp elt [⟨tg,iter,ifs,0⟩] scope pos) ps) (zQ (zm wi g tt te ini) (r9 ix)):=by
 intro pins s σ H Dn I h
 rw[exec_Assign_Name_used _ _ _ _ hsw]
 refine wpAny_bind (wpAny_standAt (wpAny_bind ?_))
 show wpAny _ _ (comprehension (.ListComp elt [⟨tg,iter,ifs,0⟩] scope pos) scope X.env _ (newList []) false (eval iter X.env) (some (assign (.Name x pos') X.env)) >>= fun _=>pure ()) _ _ s
 refine wpAny_bind ?_
 refine wpAny_comprehension_free (use:=some (assign (.Name x pos') X.env)) rfl hs O.vw O.kind O.names (thn (hi pins s σ H _ I h) fun v s1 h1=>thn h1 fun itv s2 h2=>?_)
 obtain⟨it,fp,tn,J,H2,e,I2,T,st2,f2,h2⟩:=h2
 subst e
 have hD:H2 s2.heap.objs.size=none:=I2.hok.fresh (Nat.le_refl _)
 obtain⟨W,⟨m0,w0⟩,turn⟩:=h2 _ hD
 refine wpAny_newObj_type (wpAny_newFunctionEnv O.cell (by intro y hy;simp at hy) (fun h₁ iR iS=>?_) O.kind)
 dsimp only at iR iS ⊢
 have I3:Inv X pins σ (upd H2 s2.heap.objs.size (.lst [])) { s2 with heap:=s2.heap.push { cls:=.type "list",dict:=none,data:=.seq ([]:List Value).toArray } }:=I2.Ae (its:=[]) (t':=s2.toks) .nil (by decide)
 have ob2:∀ b∈fp,∃ o,s2.heap.get? b=some o:=fun b hb=>let ⟨o,e,_⟩:=T.obj 0 _ st2 b hb;⟨o,e⟩
 have neD:∀ b∈fp,b≠s2.heap.objs.size:=fun b hb=>let ⟨o,e⟩:=ob2 b hb;Nat.ne_of_lt (Heap.lt_size e)
 have f3:∀ b∈fp,jQ X pins (upd H2 s2.heap.objs.size (.lst [])) b:=fun b hb=>⟨by rw[ao (neD b hb)];exact(f2 b hb).1,(f2 b hb).2⟩
 generalize hs3:({ s2 with heap:=s2.heap.push { cls:=.type "list",dict:=none,data:=.seq ([]:List Value).toArray } }:Shared)=s3 at I3
 have hh3:s2.heap.push { cls:=.type "list",dict:=none,data:=.seq ([]:List Value).toArray }=s3.heap:=by rw[← hs3]
 have ob3:∀ b∈fp,∃ o,s3.heap.get? b=some o:=fun b hb=>let ⟨o,e⟩:=ob2 b hb;⟨o,by rw[← hh3];exact Heap.get?_push_of_some _ e⟩
 rw[hh3] at iR iS ⊢
 have old:∀ b o,s3.heap.get? b=some o→h₁.get? b=some o:=fun b o e=>iS.extBut b o (Nat.ne_of_lt (Heap.lt_size e)) (Heap.get?_push_of_some _ e)
 have st1:tn 0 h₁:=T.keep 0 _ _ st2 fun b hb o e=>old b o (by rw[← hh3];exact Heap.get?_push_of_some _ e)
 have IC:∀ tk,Inv (bD X scope cl NC fp s3.heap.objs.size s3 (upd H2 s2.heap.objs.size (.lst []))) [] (sx ini σ) (upd H2 s2.heap.objs.size (.lst [])) { s3 with heap:=h₁,toks:=tk }:=fun tk=>pI O I3 f3 ob3 iR old
 have k9:∀ {H':Hp},(∀ b∈fp,H' b=none)→∀ b∈fp,jQ (bD X scope cl NC fp s3.heap.objs.size s3 (upd H2 s2.heap.objs.size (.lst []))) [] H' b:=fun {H'} hn b hb=>by
  obtain⟨o,e⟩:=ob3 b hb
  refine⟨hn b hb,Nat.ne_of_lt (Heap.lt_size e),fun z=>?_,.inl hb,fun x c hx=>(f3 b hb).2.2.2.2.1 x c (O.cls x c hx),fun p hp=>absurd (show p∈([]:List (Addr×Obj)) from hp) (by simp)⟩
  rcases List.mem_cons.mp (I3.k7 b z) with q | q
  ·exact(f3 b hb).2.1 q
  ·exact(f3 b hb).2.2.1 q
 have loop:∀ s₃:Shared,s₃ = { s2 with heap:=h₁,toks:=s2.toks+([]:List (Str×Value)).length } →
   codeAny (model X.prog X.w) X.A (.compLoop (.ListComp elt [⟨tg,iter,ifs,0⟩] scope pos) 0 (.ref it) (.ref s2.heap.objs.size) (compEnvC scope cl s3.heap.objs.size X.env))
    (compPost (model X.prog X.w) X.A X.xe (some (assign (.Name x pos') X.env)) (fun _ sE=>wpAny (model X.prog X.w) X.A (pure ()) (fun _ s₁=>wpAny (model X.prog X.w) X.A (pure Flow.next) (SP X pins Dn) X.xe s₁) X.xe sE) (.ref s2.heap.objs.size) s3.heap.objs.size) s₃:=by
  rintro s₃ rfl
  refine codeAny_loop rfl (fun n s'=>∃ i σ' H',Inv (bD X scope cl NC fp s3.heap.objs.size s3 (upd H2 s2.heap.objs.size (.lst []))) [] σ' H' s'∧tn i s'.heap∧(∀ b∈fp,H' b=none)∧W i n σ' H') (fun n s' hI=>?_) m0
   ⟨0,_,_,by have z:=IC (s2.toks+([]:List (Str×Value)).length);rw[← hs3] at z ⊢;exact z,st1,fun b hb=>(f3 b hb).1,w0⟩
  show wpAny _ X.A ((compTurn (.ListComp elt [⟨tg,iter,ifs,0⟩] scope pos) 0 (.ref it) (.ref s2.heap.objs.size) (compEnvC scope cl s3.heap.objs.size X.env)).onRaise (fun x=>do noteFrame x (compEnvC scope cl s3.heap.objs.size X.env);theTreesLotGoes x)) _ _ s'
  refine wpAny_noted ?_
  rw[compTurn_list]
  obtain⟨i,σ3,H3,I3',st3,fr3,w3⟩:=hI
  rcases turn i n σ3 H3 w3 with ⟨stop,qn⟩ | ⟨go,N,hN,step⟩
  ·refine wpAny_bind (wpAny_standAt (wpAny_bind (thn (T.done (bD X scope cl NC fp s3.heap.objs.size s3 (upd H2 s2.heap.objs.size (.lst []))) rfl rfl rfl hc i [] s' σ3 H3 _ I3' (k9 fr3) st3 stop) fun r s4 ⟨hr,I4⟩=>?_)))
   subst hr
   obtain⟨m',hn',_⟩:=I4.loc
   refine wpAny_pure ?_
   show wpAny _ _ (do standAt pos';bindName X.env x (.ref s2.heap.objs.size)) _ _ s4
   refine wpAny_bind (wpAny_standAt ?_)
   have IX:Inv X pins σ H3 s4:=comp_back I3 f3 I4 (Heap.SameBut.refl _ _)
   have fC:jQ X pins H3 s3.heap.objs.size:=I3.mw (Nat.le_refl _) I4.free
   obtain⟨c0,c1,c2,c3,c4,c5⟩:=fC
   refine uh (mM IX hN hix hx (v:=.ref s2.heap.objs.size) rfl (fun s5 I5 sb=>?_) hf)
   obtain⟨aa,sb1,sb2⟩:=sb
   have nA:s3.heap.objs.size≠aa:=by
    rcases sb2 with z | z
    ·rw[z];exact c1
    ·exact Ne.symm (c4 x aa z)
   obtain⟨oo,es,ep,g1,g2⟩:=hn'
   refine⟨m',⟨oo,es,ep,(sb1.2 _ nA).trans g1,g2⟩,fun h' hs'=>wpAny_pure (wpAny_pure ⟨_,H3,I5.turned (t':=s5.toks) (fun b o hb e=>(hs'.2 b hb).trans e) c0 c1 c3 c4 c5,qn⟩)⟩
  ·refine wpAny_bind (wpAny_standAt (wpAny_bind (thn (T.item (bD X scope cl NC fp s3.heap.objs.size s3 (upd H2 s2.heap.objs.size (.lst []))) rfl rfl rfl hc i [] s' σ3 H3 _ I3' (k9 fr3) st3 go) fun r s4 ⟨u,hr,h4⟩=>?_)))
   subst hr
   refine wpAny_bind (thn h4 fun _ s5 ⟨x,H5,I5,r5,y5,st5,fr5⟩=>?_)
   have I5':=I5.pinned (k9 fr5) (T.obj _ _ st5)
   refine wpAny_bind (gU (hg fp _ s3 _ _ s5 σ3 H5 x u _ I5' r5 (step x H5 y5)) fun _ s6 ⟨σ6,H6,I6,q6⟩=>?_)
   have again:∀ {s7:Shared} {H7:Hp},Inv (bD X scope cl NC fp s3.heap.objs.size s3 (upd H2 s2.heap.objs.size (.lst []))) ([]++jR fp s5.heap) σ6 H7 s7→N σ6 H7 →
     ∃ m,m<n∧∃ i σ' H',Inv (bD X scope cl NC fp s3.heap.objs.size s3 (upd H2 s2.heap.objs.size (.lst []))) [] σ' H' s7∧tn i s7.heap∧(∀ b∈fp,H' b=none)∧W i m σ' H':=fun {s7 H7} I7 n7=>by
    obtain⟨m',hm,w7⟩:=hN σ6 H7 n7
    refine⟨m',hm,i+1,σ6,H7,I7.gQ,T.keep _ _ _ st5 fun b hb o e=>(I7.pin (b,o) (List.mem_append_right _ (List.mem_append_right _ (dC hb e)))).1,fun b hb=>?_,w7⟩
    obtain⟨o,e,d⟩:=T.obj _ _ st5 b hb
    exact(I7.pin (b,o) (List.mem_append_right _ (List.mem_append_right _ (dC hb e)))).2.1
   refine wpAny_bind (gU (ht fp _ s3 _ _ s6 σ6 H6 _ I6 q6) fun ok s7 ⟨H7,I7,q7⟩=>?_)
   cases ok with
   | false=>exact wpAny_pure ⟨rfl,again I7 q7⟩
   | true =>
    refine wpAny_bind (wpAny_bind (gU (he fp _ s3 _ _ s7 σ6 H7 _ I7 q7) fun u8 s8 ⟨v8,H8,I8,r8,ys,hy,hz,n8⟩=>?_))
    refine wpAny_bind (gU (bE _ s8 σ6 H8 (.ref s2.heap.objs.size) [v8] (.ref s2.heap.objs.size) [u8] (fun _ H9=>N σ6 H9) I8 rfl (.cons r8 .nil) ⟨_,ys,v8,rfl,rfl,hy,hz,n8⟩) fun _ s9 ⟨_,H9,I9,_,n9⟩=>?_)
    exact wpAny_pure (wpAny_pure ⟨rfl,again I9 n9⟩)
 exact codeAny_compStart_list (loop _ rfl) (T.self _ 0 _ _ _ st1 (loop _ rfl))

theorem gX {X:Cx}{K:PySem.W.Frag}(hK:X.K=K):IxR X (vk K):=hK ▸ a9
theorem bH {X:Cx}{K:PySem.W.Frag}(hK:X.K=K):IxR X (BD K):=hK ▸ gT
noncomputable def Itv (K:PySem.W.Frag)(a:Addr)(xs:List V):It:=⟨fun i H=>i<xs.length∧SqL K H a xs,fun i H y H'=>H'=H∧xs[xs.length-1-i]?=some y,fun i _=>xs.length≤i⟩
theorem vD {P:Program}{w:World}{K:PySem.W.Frag}{tg:Expr}(a it:Addr)(xs:List V):Turn P w K tg (Itv K a xs) [it] it (fun i h=>i≤xs.length∧h.IsRevIter it a ((xs.length:Int)-1-(i:Nat))) where
 mem:=by simp
 obj:=fun i h st b hb=>by
  have e:b=it:=by simpa using hb
  subst e
  obtain⟨_,o,e,c,d⟩:=st
  exact⟨o,e,fun v z=>by rw[d] at z;cases z⟩
 keep:=fun i h h' st k=>⟨st.1,st.2.at fun o e=>k it (by simp) o e⟩
 item:=by
  intro X hP hw hK hc i pins s σ H E I hf st hg
  subst hP hw hK
  obtain⟨hi,hq⟩:=hg
  obtain⟨its,rv,p,hz⟩:=I.list hq
  have hl:=rv.length
  have hx:xs[xs.length-1-i]?=some (xs[xs.length-1-i]'(by omega)):=List.getElem?_eq_getElem (by omega)
  obtain⟨u,hu,ru⟩:=rv.get hx
  obtain⟨f0,f1,f2,f3,f4,f5⟩:=hf it (by simp)
  have e1:(xs.length:Int)-1-(i:Nat)=((xs.length-1-i:Nat):Int):=by omega
  have st2:=st.2
  rw[e1] at st2
  refine wpAny_pyNext_rev_item st2 p.isList (x:=u) (by simpa using hu) fun h' st' sb=>?_
  have I1:Inv X pins σ H { s with heap:=h' }:=I.turned (t':=s.toks) (fun b o hb e=>(sb.2 b hb).trans e) f0 f1 f3 f4 f5
  have e2:((xs.length-1-i:Nat):Int)-1=(xs.length:Int)-1-((i+1:Nat):Int):=by omega
  rw[e2] at st'
  obtain⟨o,e,c,d⟩:=id st'
  exact⟨u,rfl,mN (s:={ s with heap:=h' }) e c d (by decide) ⟨_,H,I1,ru,⟨rfl,hx⟩,⟨hi,st'⟩,fun b hb=>(hf b hb).1⟩⟩
 done:=by
  intro X hP hw hK hc i pins s σ H E I hf st hg
  subst hP hw hK
  obtain⟨f0,f1,f2,f3,f4,f5⟩:=hf it (by simp)
  have hg:xs.length≤i:=hg
  have e1:(xs.length:Int)-1-(i:Nat)=-1:=by have:=st.1;omega
  have st2:=st.2
  rw[e1] at st2
  exact wpAny_pyNext_rev_end (I.ok.hd hc) st2 fun h' eb=>⟨rfl,I.turned (t':=s.toks) (fun b o hb e=>eb b o hb e) f0 f1 f3 f4 f5⟩
 self:=fun _ _ _ _ _ st h=>wpAny_pyIter_revIter st.2 h
section
variable {X:Cx}
theorem kA:bootBuiltins "reversed" = some (.type "reversed"):=by decide +kernel
noncomputable def CS (K:PySem.W.Frag)(ta:TA):TI:=fun σ H R=>ta σ H fun vs H1=>∃ a xs,vs=[.ref a]∧SqL K H1 a xs∧R (Itv K a xs) H1
theorem Ao {a:Expr}{ta:TA}{p pos:Pos}{tg:Expr}(hg:Gl X "reversed")(hm:X.mg "reversed" = none)(ha:PA X [a] ta)(hs:starEach [a] X.env=[(false,eval a X.env)]:=by rfl) :
  PI X tg (.Call (.Name "reversed" p) [a] [] pos) (CS X.K ta):=by
 intro pins s σ H R I h
 refine Call_ (gv I hg hm kA (PyProof.Rows.callWith_type1 (thn (ha pos pins s σ H _ I h) fun us s1 ⟨vs,H1,I1,r1,q1⟩=>?_) hs rfl))
 obtain⟨l,xs,e,hq,q⟩:=q1
 subst e
 cases r1 with
 | cons r rr =>
  cases rr
  cases r
  obtain⟨its,rv,ht,hz⟩:=I1.list hq
  have hl:=rv.length
  refine call_reversed_list ht.isList ?_
  have st0:(s1.heap.push (revObj l ((its.toArray.size:Int)-1))).IsRevIter s1.heap.objs.size l ((xs.length:Int)-1-((0:Nat):Int)):=by
   have e1:(xs.length:Int)-1-((0:Nat):Int)=(its.toArray.size:Int)-1:=by rw[List.size_toArray];omega
   rw[e1]
   exact⟨_,Heap.get?_push_size _ rfl,rfl,rfl⟩
  refine wpAny_pyIter_revIter (s:={ s1 with heap:=s1.heap.push (revObj l ((its.toArray.size:Int)-1)) }) st0 ?_
  refine⟨s1.heap.objs.size,[s1.heap.objs.size],_,_,H1,rfl,I1.kept (t':=s1.toks) fun b o e=>Heap.get?_push_of_some _ e,vD l _ xs,⟨Nat.zero_le _,st0⟩,fun b hb=>?_,q⟩
  have e:b=s1.heap.objs.size:=by simpa using hb
  subst e
  exact I1.mw (Nat.le_refl _) (I1.hok.fresh (Nat.le_refl _))
theorem vE {K:PySem.W.Frag}{a:Addr}{xs:List V}{g:TG}{tt:TT}{te:TE}{D:Addr}{Q:VK}{σ₀:St}{H₀:Hp}(Pv:Nat→St→Hp→Prop)(h0:Pv 0 σ₀ H₀)(hl:∀ i σ H,i≤xs.length→Pv i σ H→SqL K H a xs)
  (hs:∀ i x σ H,xs.reverse[i]?=some x→Pv i σ H→g x σ H fun σ3 H3=>tt σ3 H3 fun b H4=>if b=true then te σ3 H4 fun v H5=>∃ ys,H5 D=some (.lst ys)∧ys.length<sizeLine∧Pv (i+1) σ3 (upd H5 D (.lst (ys++[v]))) else Pv (i+1) σ3 H4)
  (hd:∀ σ H,Pv xs.length σ H→Q (.ref D) H):km (Itv K a xs) g tt te D Q σ₀ H₀:=by
 refine⟨fun i m σ H=>m=xs.length-i∧i≤xs.length∧Pv i σ H,⟨xs.length,by simp,Nat.zero_le _,h0⟩,?_⟩
 rintro i m σ H ⟨rfl,hi,p⟩
 have q:=hl i σ H hi p
 by_cases hlt:i<xs.length
 ·refine .inr ⟨⟨hlt,q⟩,Pv (i+1),fun σ' H' p'=>⟨xs.length-(i+1),by omega,rfl,hlt,p'⟩,fun x H' y=>?_⟩
  obtain⟨e,y⟩:=y
  subst e
  exact hs i x σ _ (by rw[List.getElem?_reverse hlt];exact y) p
 ·have e:i=xs.length:=by omega
  subst e
  exact .inl ⟨Nat.le_refl _,hd σ H p⟩
end

theorem x6:typeLookup (.type "list_reverseiterator") "__len__" = pure none:=by rw[typeLookup_type,builtinLookup_eq_fast];kernel_rfl
theorem vF:typeLookup (.type "list_reverseiterator") "__length_hint__" = pure (some (.builtin "list_reverseiterator.__length_hint__")):=by rw[typeLookup_type,builtinLookup_eq_fast];kernel_rfl
theorem x8:isSubtype (.type "list_reverseiterator") (.type "list_reverseiterator")=pure true:=by rw[isSubtype_type];kernel_rfl
theorem ui:splitId "list_reverseiterator.__length_hint__" = some ("list_reverseiterator","__length_hint__"):=by decide +kernel
section
variable {prog:Program}{w:World}{A:Around}{E:Value→Shared→Prop}{s:Shared}{R:Result→Shared→Prop}{I l S:Addr}{items:Array Value}
theorem vG {M:Model}{Q:Bool→Shared→Prop}(hT:s.TypeIs (.ref I) "list_reverseiterator")(h:Q false s):wpAny M A (Builtin.List.listLengthHint (.ref I)) Q E s:=by
 unfold Builtin.List.listLengthHint
 refine wpAny_bind (wpAny_specialOf hT x6 ?_)
 show wpAny _ _ (specialOf (Value.ref I) (Str.ofString "__length_hint__") >>= _) _ _ _
 refine wpAny_bind (wpAny_specialOf hT vF ?_)
 simp only[ui]
 refine wpAny_bind (wpAny_isInstance hT x8 ?_)
 exact wpAny_pure h
theorem qQ (hh:A.handled=none)(hI:s.heap.IsRevIter I l ((items.size:Int)-1))(hl:s.heap.IsList l items)(hne:l≠I)(hz:items.size≤sizeLine)(hSI:S≠I)(hSl:S≠l)(res:Value)(c₀:Nat)(hS:s.heap.get? S=some { cls:=.type "list",data:=.seq #[] c₀ })
  (hR:∀ h' tk jl c',(∀ b o,b≠S→b≠I→s.heap.get? b=some o→h'.get? b=some o)→h'.get? S=some { cls:=.type "list",dict:=none,data:=.seq jl c',slots:=#[] }→ItemsOf (fun i v=>items[items.size-1-i]?=some v) jl items.size→R (.ok (.ret res)) { s with heap:=h',toks:=tk }) :
  wpAny (model prog w) A.in1 (Builtin.List.listExtendWith (.ref S) (.ref I) res)
   (fun fin s'=>match fin with | .done f=>R (.ok f) s' | .again c'=>c'.quiet=true∧codeAny (model prog w) A c' R s') (fun e s'=>R (.error e) s') s:=by
 have W:=(Walks.listRev (prog:=prog) (w:=w) (A:=A.in1) hh I l hne items).toS
 have hT:=hI.typeIs
 unfold Builtin.List.listExtendWith
 refine wpAny_bind (wpAny_typeOf hT ?_)
 have h1:Builtin.List.listSameRef (.ref S) (.ref I)=false:=by simp[Builtin.List.listSameRef,hSI]
 have h2:(Value.type "list_reverseiterator" == Value.type "list")=false:=by decide
 have h3:(Value.type "list_reverseiterator" == Value.type "tuple")=false:=by decide
 simp only[h1,h2,h3,Bool.or_false,Bool.false_eq_true,if_false]
 refine wpAny_bind (wpAny_pyIter_revIter hI ?_)
 refine wpAny_bind (wpAny_holding (vG hT ?_))
 show wpAny _ _ (again (.builtin "list.extend.loop" ⟨[.ref S,.ref I,res],[]⟩)) _ _ _
 refine wpAny_pure ⟨plainId_quiet F.plain_extend_loop _,?_⟩
 refine codeAny_extend_loopS W hz S (by simp[hSI,hSl]) res items.size 0 s #[] c₀ rfl (Nat.zero_le _) ⟨Nat.zero_le _,by simpa using hI,hl⟩ hS (ItemsOf.nil _) fun s' jl c' hm hS' ot=>?_
 rw[Moved.eq_with hm]
 exact hR s'.heap s'.toks jl c' (fun b o b1 b2 e=>hm.heap b o (by simp[b1,b2]) e) hS' ot
theorem mE {Q:Value→Shared→Prop}(hh:A.handled=none)(hI:s.heap.IsRevIter I l ((items.size:Int)-1))(hl:s.heap.IsList l items)(hne:l≠I)(hz:items.size≤sizeLine)
  (hQ:∀ h' tk jl c',(∀ b o,b≠I→s.heap.get? b=some o→h'.get? b=some o)→h'.get? s.heap.objs.size=some { cls:=.type "list",dict:=none,data:=.seq jl c',slots:=#[] }→ItemsOf (fun i v=>items[items.size-1-i]?=some v) jl items.size→Q (.ref s.heap.objs.size) { s with heap:=h',toks:=tk }) :
  wpAny (model prog w) A (call (.type "list") [.ref I]) Q E s:=by
 have ltI:I<s.heap.objs.size:=let ⟨_,e,_⟩:=hI;Heap.lt_size e
 have ltl:l<s.heap.objs.size:=let ⟨_,e,_⟩:=hl;Heap.lt_size e
 refine callType_codes (Q₁:=fun obj s₁=>obj=.ref s.heap.objs.size∧s₁ = { s with heap:=s.heap.push { cls:=.type "list",data:=.seq #[] } }) F.called_list (F.typeCall_list_1 _) F.entry_list_init
  (code_list_new _ ⟨rfl,rfl⟩) fun obj s₁ h₁=>?_
 obtain⟨rfl,rfl⟩:=h₁
 have hS:(s.heap.push { cls:=.type "list",data:=.seq #[] }).get? s.heap.objs.size=some { cls:=.type "list",data:=.seq #[] }:=Heap.get?_push_size _ rfl
 refine⟨⟨_,hS,rfl⟩,F.args_list_init_2 _ _,?_⟩
 show wpAny _ _ (do let old ← Builtin.List.listItems (.ref s.heap.objs.size);Builtin.List.listUpdate (.ref s.heap.objs.size) (fun _=>#[]);letGo old.toList.reverse;Builtin.List.listExtendWith (.ref s.heap.objs.size) (.ref I) .none) _ _ _
 refine wpAny_bind ?_
 unfold Builtin.List.listItems
 refine wpAny_bind (wpAny_seqItems hS rfl (wpAny_pure ?_))
 show wpAny _ _ (updateSeq s.heap.objs.size (fun _=>#[]) >>= fun _=>letGo (#[]:Array Value).toList.reverse >>= fun _=>Builtin.List.listExtendWith (.ref s.heap.objs.size) (.ref I) .none) _ _ _
 refine wpAny_bind (wpAny_updateSeq hS rfl ?_)
 have hS2:=Heap.get?_update_self (Obj.mapSeq (fun _=>(#[]:Array Value))) hS rfl
 have oth:∀ b o,s.heap.get? b=some o→((s.heap.push { cls:=.type "list",data:=.seq #[] }).update s.heap.objs.size (Obj.mapSeq (fun _=>(#[]:Array Value)))).get? b=some o :=
  fun b o e=>(Heap.get?_update_other _ _ (Ne.symm (Nat.ne_of_lt (Heap.lt_size e)))).trans (Heap.get?_push_of_some _ e)
 refine wpAny_bind (wpAny_letGo ?_)
 refine qQ (A:=A.in1) (s:={ s with heap:=(s.heap.push { cls:=.type "list",data:=.seq #[] }).update s.heap.objs.size (Obj.mapSeq (fun _=>(#[]:Array Value))) }) hh (hI.at fun o e=>oth I o e) (hl.at fun o e=>oth l o e) hne hz (Nat.ne_of_gt ltI) (Nat.ne_of_gt ltl) .none _ hS2 fun h' tk jl c' hk hS' ot=>?_
 exact⟨rfl,hQ h' tk jl c' (fun b o b1 e=>hk b o (Nat.ne_of_lt (Heap.lt_size e)) b1 (oth b o e)) hS' ot⟩
end
section
variable {X:Cx}
noncomputable def BM (K:PySem.W.Frag)(ta:TA):TE:=fun σ H Q=>ta σ H fun vs H1=>∃ l xs,vs=[.ref l]∧SqL K H1 l xs∧∀ r,H1 r=none→Q (.ref r) (upd H1 r (.lst xs.reverse))
theorem ou {a:Expr}{ta:TA}{p q pos pos':Pos}(hc:X.calm=true)(hgl:Gl X "list")(hml:X.mg "list" = none)(hgr:Gl X "reversed")(hmr:X.mg "reversed" = none)(ha:PA X [a] ta)(hs:starEach [a] X.env=[(false,eval a X.env)]:=by rfl)
  (hs2:starEach [.Call (.Name "reversed" q) [a] [] pos'] X.env=[(false,eval (.Call (.Name "reversed" q) [a] [] pos') X.env)]:=by rfl) :
  PE X (.Call (.Name "list" p) [.Call (.Name "reversed" q) [a] [] pos'] [] pos) (BM X.K ta):=by
 intro pins s σ H Q I h
 refine Call_ (gv I hgl hml iq (PyProof.Rows.callWith_type1 ?_ hs2 rfl))
 rw[hs2]
 show wpAny _ _ (spliced [(false,eval (.Call (.Name "reversed" q) [a] [] pos') X.env)]) _ _ s
 refine Calls.spliced_cons ?_
 refine Call_ (gv I hgr hmr kA (PyProof.Rows.callWith_type1 (thn (ha pos' pins s σ H _ I h) fun us s1 ⟨vs,H1,I1,r1,q1⟩=>?_) hs rfl))
 obtain⟨l,xs,e,hq,q⟩:=q1
 subst e
 cases r1 with
 | cons r rr =>
  cases rr
  cases r
  obtain⟨its,rv,ht,hz⟩:=I1.list hq
  have hlen:=rv.length
  have ltl:l<s1.heap.objs.size:=let ⟨_,e,_⟩:=ht.isList;Heap.lt_size e
  refine call_reversed_list ht.isList ?_
  refine Calls.spliced_nil ?_
  have hI:(s1.heap.push (revObj l ((its.toArray.size:Int)-1))).IsRevIter s1.heap.objs.size l ((its.toArray.size:Int)-1):=⟨_,Heap.get?_push_size _ rfl,rfl,rfl⟩
  have hl2:(s1.heap.push (revObj l ((its.toArray.size:Int)-1))).IsList l its.toArray:=ht.isList.at fun o e=>Heap.get?_push_of_some _ e
  refine mE (s:={ s1 with heap:=s1.heap.push (revObj l ((its.toArray.size:Int)-1)) }) (I1.ok.hd hc) hI hl2 (Nat.ne_of_lt ltl) (by rw[List.size_toArray];omega) fun h' tk jl c' hk hS' ot=>?_
  have hz2:(s1.heap.push (revObj l ((its.toArray.size:Int)-1))).objs.size=s1.heap.objs.size+1:=Heap.size_push ..
  have hk2:∀ b o,s1.heap.get? b=some o→h'.get? b=some o:=fun b o e=>hk b o (Nat.ne_of_lt (Heap.lt_size e)) (Heap.get?_push_of_some _ e)
  have hfr:H1 (s1.heap.push (revObj l ((its.toArray.size:Int)-1))).objs.size=none:=I1.hok.fresh (by rw[hz2];exact Nat.le_succ _)
  refine⟨.ref _,_,I1.laid (a:=(s1.heap.push (revObj l ((its.toArray.size:Int)-1))).objs.size) (o:=.lst xs.reverse) (t':=tk) hk2 (by rw[hz2];exact Nat.le_succ _) ⟨by rw[List.length_reverse];exact hz,jl.toList,c',?_,by simpa using hS'⟩,rfl,q _ hfr⟩
  have al:jl.toList.length=its.length:=by have z:=ot.1;rw[List.size_toArray] at z;rw[Array.length_toList];exact z
  refine gV (by rw[List.length_reverse,al];exact hlen) fun i x v e1 e2=>?_
  have hi:i<xs.length:=by have z:=(List.getElem?_eq_some_iff.mp e1).1;rw[List.length_reverse] at z;exact z
  rw[List.getElem?_reverse hi] at e1
  have z:=ot.2 i v (by simpa using e2)
  obtain⟨u,hu,ru⟩:=rv.get e1
  rw[List.size_toArray,← hlen] at z
  have z2:its[xs.length-1-i]?=some v:=by simpa using z
  rw[hu] at z2
  cases z2
  exact ru
end
end L2

namespace L2V
open PySem PySem.Spec PyProof.Rows
section
variable {prog:Program}{w:World}{A:Around}{E:Value→Shared→Prop}{s:Shared}{R:Result→Shared→Prop}
theorem qR (d:Addr)(hd:(d == sysModules)=false):MeetsIn prog w (Builtin.«dict.values» ⟨[.ref d],[]⟩) (fun _ R s=>s.TypeIs (.ref d) "dict"∧R (.ok (.ret (.ref s.heap.objs.size))) { s with heap:=s.heap.push { cls:=.type "dict_values",data:=.fields #[.ref d] } }) :=
 .of_wp fun A R s ⟨hm,h⟩=>by
  refine wpAny_bind ?_;unfold Builtin.Dict.noArgs;refine wpAny_bind (wpAny_notOrdered_dict hm ?_);show wpAny _ _ (pure d) _ _ s;refine wpAny_pure ?_
  show wpAny _ _ (Builtin.Dict.showsAll d >>= _) _ _ s;unfold Builtin.Dict.showsAll;rw[if_neg (by rw[hd];exact Bool.false_ne_true)]
  exact wpAny_bind (wpAny_pure (wpAny_bind (wpAny_newObj_type (wpAny_pure ⟨_,rfl,h⟩))))
noncomputable def DE (h:Heap)(d:Addr)(es:Array DictEntry)(ep:Nat):Prop:=∃ o,h.get? d=some o∧o.data=.dict es ep
end
end L2V
namespace L2
open PySem PySem.Spec PyProof.Rows L2V
section
variable {X:Cx}
theorem iU {α β:Type}{F:α→β→Prop}:∀ {l:List α} {m:List β} {i:Nat} {a:α} {b:β},Paired F l m→l[i]?=some a→m[i]?=some b→F a b
 | _,_,0,_,_,.cons h _,e1,e2=>by cases e1;cases e2;exact h
 | _,_,i+1,_,_,.cons _ r,e1,e2=>iU r (i:=i) (by simpa using e1) (by simpa using e2)
end
end L2

namespace L2
open PySem PySem.Spec PyProof.Rows PySem.W
section
variable {X:Cx}{pins:List (Addr×Obj)}{σ:St}{H:Hp}{s:Shared}{a:Addr}{kvs:List (Key×V)}{k:Key}{u r:Value}{A:Around}{E:Value→Shared→Prop}
theorem vH {x:V}{Q:Value→Shared→Prop}(I:Inv X pins σ H s)(e:H a=some (.dK kvs))(ry:RelV (kV k) u)(rv:RelV x r)(l:kvs.length<sizeLine)
  (h1:∀ y w' s',bj kvs k=some y→Inv X pins σ H s'→RelV y w'→Q w' s')
  (h2:∀ s',bj kvs k=none→Inv X pins σ (upd H a (.dK (putK kvs k x))) s'→Q r s'):wpAny (model X.prog X.w) A (call (.builtin "dict.setdefault") [.ref a,u,r]) Q E s:=by
 obtain⟨z,hd,vs,rel,dd⟩:=pC I.hok e
 refine call_meetsIn PySem.F.slot_dict_setdefault dd.typeIs PySem.F.entry_dict_setdefault (PySem.F.args_dict_setdefault_3 _ _ _) (kt_meets_setdefault (aP X.prog X.w) a (mY ry) hd r)
  ⟨vs,dd,by rw[← rel.length];exact z,fun w' hw=>?_,fun hn h' dd' hs=>h2 _ ?_ ?_⟩
 ·cases q:bj kvs k with
  | none=>have:=rel.val k;rw[q,hw] at this;exact absurd this (fun z=>nomatch z)
  | some y=>have:=rel.val k;rw[q,hw] at this;exact h1 y w' _ q (I.tok _) this
 ·cases q:bj kvs k with
  | none=>rfl
  | some y=>have:=rel.val k;rw[q,hn] at this;exact absurd this (fun z=>nomatch z)
 ·have he:∃ q,h'.get? a=some q:=let ⟨q,_,_,hq,_⟩:=dd';⟨q,hq⟩
  have hl:(putK kvs k x).length≤sizeLine:=by have:=cm kvs k x;omega
  exact ip I (by rw[e];exact True.intro) hs he (vd hl hd (rel.put k rv) dd')
end
noncomputable def BN (td ty tx:TE):TE:=fun σ H Q=>td σ H fun x H1=>∃ a,x=.ref a∧IsD H1 a∧ty σ H1 fun y H2=>tx σ H2 fun z H3=>∃ kvs k,H3 a=some (.dK kvs)∧y=kV k∧kvs.length<sizeLine ∧
 (∀ v,bj kvs k=some v→Q v H3)∧(bj kvs k=none→Q z (upd H3 a (.dK (putK kvs k z))))
section
variable {X:Cx}{o e f:Expr}{apos cp:Pos}{td ty tx:TE}
theorem ox (ho:PE X o td)(he:PE X e ty)(hf:PE X f tx)(m:M2 X o "setdefault" apos e f cp):PE X (.Call (.Attribute o "setdefault" apos) [e,f] [] cp) (BN td ty tx):=by
 intro pins s σ H Q I h
 refine wpAny_Call_method m.base m.few m.line PySem.F.plainAttrs_dict PySem.F.slot_dict_setdefault PySem.F.type_dict_setdefault (thn (ho pins s σ H _ I h) fun u s1 ⟨x,H1,I1,rx,a,ex,d,q1⟩=>?_)
 subst ex
 obtain rfl:u=Value.ref a:=rx
 obtain⟨t1,t2,_⟩:=vi I1 d
 refine⟨t1,t2,?_⟩
 rw[m.trees]
 refine Calls.callWith_builtin rfl (Calls.evalArgs_plain (Calls.spliced_cons (thn (he pins s1 σ H1 _ I1 q1) fun iv s2 ⟨y,H2,I2,ry,q2⟩ =>
  Calls.spliced_cons (thn (hf pins s2 σ H2 _ I2 q2) fun fv s3 ⟨z,H3,I3,rz,kvs,k,ea,ey,el,q3,q4⟩=>Calls.spliced_nil ?_))))
 subst ey
 exact vH I3 ea ry rz el (fun y w' s4 hy I4 rw'=>⟨y,H3,I4,rw',q3 y hy⟩) fun s4 hn I4=>⟨z,_,I4,rz,q4 hn⟩
end
section
variable {X:Cx}
theorem KV.zp:∀ {kvs:List (Key×V)} {vs:List (Key×Value)} {i:Nat} {a:Key×V} {b:Key×Value},KV kvs vs→kvs[i]?=some a→vs[i]?=some b→a.1=b.1∧RelV a.2 b.2:=by
 intro kvs vs i a b h e1 e2
 unfold KV at h
 exact iU (F:=fun (p:Key×V) (q:Key×Value)=>p.1=q.1∧RelV p.2 q.2) h e1 e2
theorem x9 {P:Program}{w:World}{k:Key}{v:Value}(h:(aP P w).is k v=true):RelV (kV k) v:=by
 cases k with
 | inl i=>exact Value.isInt_shape h
 | inr x=>exact Value.isStrOf_shape h
theorem oy (hc:X.calm=true):eO X (.type "list") (fun xs H Q=>∃ d kvs,xs=[.ref d]∧H d=some (.dK kvs)∧∀ l,H l=none→Q (.ref l) (upd H l (.lst (kvs.map fun kv=>kV kv.1)))):=by
 intro pins s σ H xs us Q I r h
 obtain⟨d,kvs,rfl,hd,q⟩:=h
 obtain⟨u,rfl,ru⟩:=r.one
 cases ru
 obtain⟨z,lo,vs,rel,dd⟩:=pC I.hok hd
 obtain⟨ep,hat⟩:=dd.dictAt
 have hlen:kvs.length=vs.length:=rel.length
 refine kdl_call (kdl_dict (knd:=aP X.prog X.w) (kvs:=vs) (ep:=ep) lo) (I.ok.hd hc) hat (by rw[← hlen];exact z) fun h' tk jl c' hk hS' ot=>?_
 refine⟨.ref _,_,I.laid (a:=s.heap.objs.size) (o:=.lst (kvs.map fun kv=>kV kv.1)) (t':=tk) hk (Nat.le_refl _) ⟨by rw[List.length_map];exact z,jl.toList,c',?_,by simpa using hS'⟩,rfl,q _ (I.hok.fresh (Nat.le_refl _))⟩
 refine gV (by rw[List.length_map,hlen];exact(by simpa using ot.1.symm)) fun i x v e6 e7=>?_
 obtain⟨k,y,e8,hk8⟩:=ot.2 i v (by simpa using e7)
 rw[List.getElem?_map] at e6
 obtain⟨kv,e9,rfl⟩:=Option.map_eq_some_iff.mp e6
 have:=(KV.zp rel e9 e8).1
 rw[this]
 exact x9 hk8
end

section
variable {X:Cx}{pins:List (Addr×Obj)}{σ:St}{H:Hp}{s:Shared}{a:Addr}{u:HO}
theorem Inv.BO (I:Inv X pins σ H s){kvs:List (Key×V)}(e:H a=some (.dK kvs)):∃ o,s.heap.get? a=some o∧Inv X pins σ (upd H a (.frz o (.dK kvs))) s:=by
 have mu:Mut (H a):=by rw[e];exact True.intro
 obtain⟨z,lo,vs,rel,o,es,ep,h1,h2⟩:=pC I.hok e
 exact⟨o,h1,I.write (x:=a) (e:=a) (t':=s.toks) mu (.inl rfl) (fun b q hb z=>z) ⟨o,h1⟩ ⟨h1,z,lo,vs,rel,o,es,ep,h1,h2⟩⟩
noncomputable def Ap (d:Addr)(o:Obj)(kvs:List (Key×V)):It :=
 ⟨fun i H=>i<kvs.length∧H d=some (.frz o (.dK kvs)),fun i H x H'=>H'=H∧(kvs.map (·.2))[i]?=some x,fun i H=>kvs.length≤i∧H d=some (.frz o (.dK kvs))⟩
theorem uj {P:Program}{w:World}{K:PySem.W.Frag}{tg:Expr}(d it:Addr)(o:Obj)(kvs:List (Key×V))(ep:Nat)(hep:∃ es,o.data=.dict es ep):Turn P w K tg (Ap d o kvs) [it] it (fun i h=>i≤kvs.length∧h.IsValIter it d i kvs.length ep) where
 mem:=by simp
 obj:=fun i h st b hb=>by
  have e:b=it:=by simpa using hb
  subst e
  obtain⟨_,o,e,c,d⟩:=st
  exact⟨o,e,fun v z=>by rw[d] at z;cases z⟩
 keep:=fun i h h' st k=>⟨st.1,st.2.at fun o e=>k it (by simp) o e⟩
 item:=by
  intro X hP hw hK hc i pins s σ H E I hf st hg
  subst hP hw hK
  obtain⟨hi,hd⟩:=hg
  obtain⟨ho,z,lo,vs,rel,od,es,ep',h1,h2,h3,h4⟩:=(show bb X.prog X.w H s.heap d (.frz o (.dK kvs)) from I.hok d _ hd)
  obtain⟨f0,f1,f2,f3,f4,f5⟩:=hf it (by simp)
  have e1:od=o:=by rw[ho] at h1;exact(Option.some.inj h1).symm
  obtain⟨es0,hep⟩:=hep
  have e2:ep'=ep:=by rw[e1,hep] at h3;cases h3;rfl
  subst e2
  have hat:s.heap.DictAt (aP X.prog X.w) d vs ep':=⟨od,es,h1,h2,h3,h4⟩
  have hl:kvs.length=vs.length:=rel.length
  have hx:vs[i]?=some (vs[i]'(by omega)):=List.getElem?_eq_getElem (by omega)
  have hx':kvs[i]?=some (kvs[i]'hi):=List.getElem?_eq_getElem hi
  have st2:=st.2
  rw[hl] at st2
  refine wpAny_pyNext_values_item (k:=(vs[i]'(by omega)).1) (v:=(vs[i]'(by omega)).2) st2 hat hx fun h' st' sb=>?_
  have I1:Inv X pins σ H { s with heap:=h' }:=I.turned (t':=s.toks) (fun b o hb e=>(sb.2 b hb).trans e) f0 f1 f3 f4 f5
  rw[← hl] at st'
  obtain⟨o',e,c,d'⟩:=id st'
  exact⟨_,rfl,mN (s:={ s with heap:=h' }) e c d' (by decide) ⟨(kvs[i]'hi).2,H,I1,(KV.zp rel hx' hx).2,⟨rfl,by rw[List.getElem?_map,hx'];rfl⟩,⟨hi,st'⟩,fun b hb=>(hf b hb).1⟩⟩
 done:=by
  intro X hP hw hK hc i pins s σ H E I hf st hg
  subst hP hw hK
  obtain⟨hi,hd⟩:=hg
  obtain⟨ho,z,lo,vs,rel,od,es,ep',h1,h2,h3,h4⟩:=(show bb X.prog X.w H s.heap d (.frz o (.dK kvs)) from I.hok d _ hd)
  obtain⟨f0,f1,f2,f3,f4,f5⟩:=hf it (by simp)
  have e1:od=o:=by rw[ho] at h1;exact(Option.some.inj h1).symm
  obtain⟨es0,hep⟩:=hep
  have e2:ep'=ep:=by rw[e1,hep] at h3;cases h3;rfl
  subst e2
  have hat:s.heap.DictAt (aP X.prog X.w) d vs ep':=⟨od,es,h1,h2,h3,h4⟩
  have hl:kvs.length=vs.length:=rel.length
  have st2:=st.2
  have e3:i=vs.length:=by have:=st.1;omega
  rw[hl,e3] at st2
  exact wpAny_pyNext_values_end (I.ok.hd hc) st2 hat (by simp) fun h' eb=>⟨rfl,I.turned (t':=s.toks) (fun b o hb e=>eb b o hb e) f0 f1 f3 f4 f5⟩
 self:=fun _ _ _ _ _ st h=>wpAny_pyIter_valiter st.2 h
end
section
variable {X:Cx}
noncomputable def BP (to:TE):TI:=fun σ H R=>to σ H fun v H1=>∃ d kvs,v=.ref d∧H1 d=some (.dK kvs)∧∀ o,R (Ap d o kvs) (upd H1 d (.frz o (.dK kvs)))
theorem ya {o tg:Expr}{to:TE}{pos' ap:Pos}(ho:PE X o to)(jh:attributeBase o "values" X.env (eval o X.env)=eval o X.env:=by rfl)(ji:(ap.endLine == pos'.line)=true:=by rfl) :
  PI X tg (.Call (.Attribute o "values" ap) [] [] pos') (BP to):=by
 intro pins s σ H R I h
 refine wpAny_Call_method0_late jh ji (thn (ho pins s σ H _ I h) fun v s1 ⟨x,H1,I1,r1,d,kvs,ex,hd,q⟩=>?_)
 subst ex
 obtain⟨h1,h2⟩:=qM (T:="dict") I1 r1 (.inr (.inr (.inl ⟨rfl,.inl ⟨kvs,hd⟩⟩)))
 cases (show v=Value.ref d from r1)
 obtain⟨ob,hob,I2⟩:=I1.BO hd
 obtain⟨z,lo,vs,rel,dd⟩:=pC I1.hok hd
 obtain⟨od,es,ep,g1,g2,g3,g4⟩:=id dd
 have e1:od=ob:=by rw[hob] at g1;exact(Option.some.inj g1).symm
 subst e1
 have hat:s1.heap.DictAt (aP X.prog X.w) d vs ep:=⟨od,es,g1,g2,g3,g4⟩
 have hl:kvs.length=vs.length:=rel.length
 refine⟨"dict","dict.values",PySem.F.plainAttrs_dict,PySem.F.slot_dict_values,PySem.F.type_dict_values,h1,h2,Calls.callWith_builtin rfl (PySem.evalArgs_none ?_)⟩
 refine call_meetsIn PySem.F.slot_dict_values h1 PySem.F.entry_dict_values (PySem.F.args_dict_values_1 _) (L2V.qR d lo) ⟨h1,?_⟩
 have hv:(s1.heap.push { cls:=.type "dict_values",data:=.fields #[.ref d] }).IsValuesView s1.heap.objs.size d:=⟨_,Heap.get?_push_size _ rfl,rfl,rfl⟩
 refine wpAny_pyIter_values (s:={ s1 with heap:=s1.heap.push { cls:=.type "dict_values",data:=.fields #[.ref d] } }) hv (hat.push _) ?_
 have I3:Inv X pins σ (upd H1 d (.frz od (.dK kvs))) { s1 with heap:=s1.heap.push { cls:=.type "dict_values",data:=.fields #[.ref d] } }:=I2.kept (t':=s1.toks) fun b o e=>Heap.get?_push_of_some _ e
 refine⟨_,[_],_,_,_,rfl,I3.kept (t':=s1.toks) fun b o e=>Heap.get?_push_of_some _ e,uj d _ od kvs ep ⟨es,g3⟩,⟨Nat.zero_le _,?_⟩,fun b hb=>?_,q od⟩
 ·rw[hl]
  exact⟨_,Heap.get?_push_size _ rfl,rfl,rfl⟩
 ·have e:=List.mem_singleton.mp hb
  subst e
  exact I3.mw (Nat.le_refl _) (I3.hok.fresh (Nat.le_refl _))
theorem uk {d:Addr}{o:Obj}{kvs:List (Key×V)}{g:TG}{tt:TT}{te:TE}{D:Addr}{Q:VK}{σ₀:St}{H₀:Hp}(Pv:Nat→St→Hp→Prop)(h0:Pv 0 σ₀ H₀)(hl:∀ i σ H,i≤kvs.length→Pv i σ H→H d=some (.frz o (.dK kvs)))
  (hs:∀ i x σ H,(kvs.map (·.2))[i]?=some x→Pv i σ H→g x σ H fun σ3 H3=>tt σ3 H3 fun b H4=>if b=true then te σ3 H4 fun v H5=>∃ ys,H5 D=some (.lst ys)∧ys.length<sizeLine∧Pv (i+1) σ3 (upd H5 D (.lst (ys++[v]))) else Pv (i+1) σ3 H4)
  (hd:∀ σ H,Pv kvs.length σ H→Q (.ref D) H):km (Ap d o kvs) g tt te D Q σ₀ H₀:=by
 refine⟨fun i m σ H=>m=kvs.length-i∧i≤kvs.length∧Pv i σ H,⟨kvs.length,by simp,Nat.zero_le _,h0⟩,?_⟩
 rintro i m σ H ⟨rfl,hi,p⟩
 have q:=hl i σ H hi p
 by_cases hlt:i<kvs.length
 ·refine .inr ⟨⟨hlt,q⟩,Pv (i+1),fun σ' H' p'=>⟨kvs.length-(i+1),by omega,rfl,hlt,p'⟩,fun x H' y=>?_⟩
  obtain⟨e,y⟩:=y
  subst e
  exact hs i x σ _ y p
 ·have e:i=kvs.length:=by omega
  subst e
  exact .inl ⟨⟨Nat.le_refl _,q⟩,hd σ H p⟩
end
end L2

namespace L2V
open PySem PySem.Spec PyProof.Rows
section
variable {prog:Program}{w:World}{K:Type}[DecidableEq K]{knd:HeapKind prog w K}{A:Around}{E:Value→Shared→Prop}{s:Shared}
theorem yc {d a:Addr}{xs:List (K×Addr×Value)}{k:K}{x:Value}{Q:Value→Shared→Prop}(hu:knd.room A)(mz:knd.is s.heap k a)(hm:s.heap.DictOfH knd d xs)
  (h1:∀ p,atKey xs k=some p→Q p.2 { s with toks:=s.toks+knd.draws k })
  (h2:atKey xs k=none→∀ h',h'.DictOfH knd d (storedH xs k a x)→Heap.SameBut d s.heap h'→Q x { s with heap:=h',toks:=s.toks+knd.draws k })
  (hsz:xs.length≤sizeLine):wpAny (model prog w) A (dictSetDefault d (.ref a) x) Q E s:=by
 obtain⟨o,es,ep,ho,hc,hd,he,his,hn⟩:=hm
 unfold dictSetDefault
 try with_reducible refine wpAny_holding ?_
 refine wpAny_bind (knd.pyHash hu mz (wpAny_bind (wpAny_dictFind_heap (s:={ s with toks:=s.toks+knd.draws k }) hu mz ho hd he his hn ?_ ?_)))
 ·intro hno
  have hat:=atKey_none_of_get hno
  have CT:=not_mem_keys_of_get hno
  refine wpAny_bind (wpAny_rule (wpAny_bind (wpAny_updateDictKeys (hz:=by have e:=size_of_entries he;omega) (s:={ s with toks:=s.toks+knd.draws k }) ho hd (wpAny_pure (h2 hat _ ⟨_,_,ep+1,Heap.get?_update_self _ ho (Obj.isFreed_of_dict (Obj.data_mapDictKeys hd _)),hc.mapDictKeys _,Obj.data_mapDictKeys hd _,?_,?_,?_⟩ (Heap.SameBut.update ..))))))
  ·rw[storedH_new hat];simp[he,entryOfKey]
  ·rw[storedH_new hat];intro y hy
   rcases List.mem_append.mp hy with hy | hy
   ·exact knd.keeps (his y hy) ho hd (Heap.SameBut.update ..)
   ·rw[List.mem_singleton.mp hy];exact knd.keeps mz ho hd (Heap.SameBut.update ..)
  ·rw[storedH_new hat,List.map_append,List.nodup_append]
   refine⟨hn,by simp,fun y hy z hz e=>CT ?_⟩
   rw[e,List.mem_singleton.mp hz] at hy;exact hy
 ·intro j p hj
  refine wpAny_bind (wpAny_dictEntries (s:={ s with toks:=s.toks+knd.draws k }) ho hd ?_)
  have e:=entry_at he j
  rw[hj] at e
  rw[e]
  exact wpAny_bind (wpAny_rule (wpAny_pure (h1 p (atKey_of_get hn hj))))
theorem mF (d a:Addr)(hd:(d == sysModules)=false)(x:Value):MeetsIn prog w (Builtin.«dict.setdefault» ⟨[.ref d,.ref a,x],[]⟩) (fun A R s=>knd.room A.in1∧∃ k xs,knd.is s.heap k a∧s.heap.DictOfH knd d xs∧xs.length≤sizeLine ∧
  (∀ p,atKey xs k=some p→R (.ok (.ret p.2)) { s with toks:=s.toks+knd.draws k })∧(atKey xs k=none→∀ h',h'.DictOfH knd d (storedH xs k a x)→Heap.SameBut d s.heap h'→R (.ok (.ret x)) { s with heap:=h',toks:=s.toks+knd.draws k })) :=
 .of_wp fun A R s ⟨hu,k,xs,mz,hm,hz,h1,h2⟩=>by
  unfold Builtin.«dict.setdefault»;refine wpAny_bind ?_;unfold Builtin.Dict.keyAndDefault
  refine wpAny_bind (wpAny_notOrdered_dict hm.typeIs ?_);show wpAny _ _ (pure (d,Value.ref a,some x)) _ _ s
  refine wpAny_pure ?_;show wpAny _ _ (if (d == sysModules)=true then _ else (dictSetDefault d (.ref a) x >>= _)) _ _ s
  rw[if_neg (by rw[hd];decide)]
  exact wpAny_bind (yc hu mz hm (fun p hp=>wpAny_pure ⟨_,rfl,h1 p hp⟩) (fun hn h' hm' hs'=>wpAny_pure ⟨_,rfl,h2 hn h' hm' hs'⟩) hz)
end
section
variable {prog:Program}{w:World}{A:Around}{E:Value→Shared→Prop}{s:Shared}
theorem um (d:Addr)(hd:(d == sysModules)=false):MeetsIn prog w (Builtin.«dict.items» ⟨[.ref d],[]⟩) (fun _ R s=>s.TypeIs (.ref d) "dict"∧R (.ok (.ret (.ref s.heap.objs.size))) { s with heap:=s.heap.push { cls:=.type "dict_items",data:=.fields #[.ref d] } }) :=
 .of_wp fun A R s ⟨hm,h⟩=>by
  unfold Builtin.«dict.items»;refine wpAny_bind ?_;unfold Builtin.Dict.noArgs;refine wpAny_bind (wpAny_notOrdered_dict hm ?_);show wpAny _ _ (pure d) _ _ s;refine wpAny_pure ?_
  show wpAny _ _ (Builtin.Dict.showsAll d >>= _) _ _ s;unfold Builtin.Dict.showsAll;rw[if_neg (by rw[hd];exact Bool.false_ne_true)]
  exact wpAny_bind (wpAny_pure (wpAny_bind (wpAny_newObj_type (wpAny_pure ⟨_,rfl,h⟩))))
theorem vI {v d:Addr}{es:Array DictEntry}{ep:Nat}{Q:Value→Shared→Prop}(hv:s.heap.IsItemsView v d)(hm:DE s.heap d es ep)
  (hQ:Q (.ref s.heap.objs.size) { s with heap:=s.heap.push { cls:=.type "dict_itemiterator",data:=.fields #[.none,.bool false,.ref d,.int 0 0,.int es.size 0,.int ep 0,.none,.none] } }):wpAny (model prog w) A (pyIter (.ref v)) Q E s:=by
 obtain⟨ov,hov,hcv,hdv⟩:=id hv;obtain⟨o,ho,pL⟩:=id hm
 refine wpAny_pyIter_slot hv.typeIs F.slot_dict_items_iter (wpAny_call_entry F.slot_dict_items_iter hv.typeIs F.entry_dict_items_iter ?_ (F.args_dict_items_iter_1 _))
 unfold Builtin.«dict_items.__iter__»;refine wpAny_bind (wpAny_pure (wpAny_bind ?_));unfold Builtin.Dict_items.dictOf
 refine wpAny_bind (wpAny_field hov hdv (x:=.ref d) rfl (wpAny_pure (wpAny_bind ?_)));unfold Builtin.Dict_items.newIterator
 refine wpAny_bind (wpAny_dictEntries ho pL (wpAny_bind (wpAny_dictEpoch ho pL ?_)))
 have oz:Builtin.Dict_items.ownsTuple "dict_itemiterator" = true:=by decide
 simp only[oz,if_true];refine wpAny_newObj_type (wpAny_pure ⟨_,rfl,"dict_itemiterator",_,⟨_,Heap.get?_push_size _ rfl,rfl⟩,F.slot_dict_itemiterator_next.lookup,?_⟩) (by simp only[sizeOk,Builtin.Dict_items.ownedTupleFields,List.size_toArray,List.length_append,List.length_cons,List.length_nil,sizeLine_eq];omega)
 simpa[rawInt,Builtin.Dict_items.ownedTupleFields] using hQ
theorem vJ {it d:Addr}{i ep:Nat}{es:Array DictEntry}{ok ov:Value}{Q:Option Value→Shared→Prop}(hit:IsItemIter s.heap it d i es.size ep ok ov)(hm:DE s.heap d es ep)(hlt:i<es.size)
  (hQ:∀ h',IsItemIterOut h' it d (i+1) es.size ep es[i].key es[i].val s.heap.objs.size→h'.get? s.heap.objs.size=some { cls:=.type "tuple",data:=.seq #[es[i].key,es[i].val] }→h'.objs.size=s.heap.objs.size+1 →
   (∀ b o,b≠it→s.heap.get? b=some o→h'.get? b=some o)→Q (some (.ref s.heap.objs.size)) { s with heap:=h' }):wpAny (model prog w) A (pyNext (.ref it)) Q E s:=by
 obtain⟨hp,g,dr,tk,os⟩:=s;obtain⟨od,hod,hdd⟩:=id hm
 have hT:Shared.TypeIs ⟨hp,g,dr,tk,os⟩ (.ref it) "dict_itemiterator":=⟨_,hit,rfl⟩
 unfold pyNext;refine wpAny_bind (wpAny_attempt (wpAny_callSpecial?_slot (name:=Str.ofString "__next__") hT F.slot_dict_itemiterator_next (wpAny_call_entry F.slot_dict_itemiterator_next hT F.entry_dict_itemiterator_next ?_ (F.args_dict_itemiterator_next_1 _))))
 refine wpAny_bind (wpAny_pure (wpAny_bind (wpAny_bind ?_)))
 (first | refine wpAny_bind (wpAny_typeNameOfWhole_itemiter hT (wpAny_pure ?_)) | refine wpAny_bind (wpAny_typeNameOf_itemiter hT (wpAny_pure ?_)));refine wpAny_bind (wpAny_fieldsOf hit rfl ?_)
 have oz:Builtin.Dict_items.ownsTuple "dict_itemiterator" = true:=by decide
 simp only[oz,if_true];show wpAny _ _ (if (Value.ref d == Value.none)=true then _ else _) _ _ _
 rw[if_neg (show ¬ ((Value.ref d == Value.none)=true) from Bool.false_ne_true)];refine wpAny_bind (wpAny_pure (wpAny_bind (wpAny_dictEntries hod hdd ?_)))
 rw[if_neg (by simp)];refine wpAny_bind (wpAny_pure (wpAny_bind (wpAny_dictEpoch hod hdd ?_)));rw[if_neg (by simp)];refine wpAny_pure ?_
 simp only[show ¬ ((i:Int)<0) from by omega,if_false,Int.toNat_natCast,Array.getElem?_eq_getElem hlt];refine wpAny_bind ?_
 (first | refine wpAny_bind (wpAny_typeNameOfWhole_itemiter hT (wpAny_pure ?_)) | refine wpAny_bind (wpAny_typeNameOf_itemiter hT (wpAny_pure ?_)));refine wpAny_bind (wpAny_isOneOf_itemiter hT ?_)
 show wpAny _ _ (setField (.ref it) 3 (rawInt ((i:Int)+1)) >>= _) _ _ ⟨hp,g,dr,tk,os⟩;refine wpAny_bind (wpAny_setField_rec hit (by simp) fun h₁ he₁ hs₁=>?_)
 replace hs₁:Heap.SameBut it hp h₁:=hs₁;replace he₁:IsItemIter h₁ it d (i+1) es.size ep ok ov:=by
  have e:((i+1:Nat):Int)=(i:Int)+1:=by omega
  unfold IsItemIter;rw[e];simpa[rawInt] using he₁
 have hT₁:Shared.TypeIs ⟨h₁,g,dr,tk,os⟩ (.ref it) "dict_itemiterator":=⟨_,he₁,rfl⟩
 refine wpAny_bind (wpAny_holding (wpAny_bind (wpAny_isOneOf_itemiter hT₁ (wpAny_bind (wpAny_isOneOf_itemiter hT₁ ?_)))))
 show wpAny _ _ (Builtin.Dict_items.pairFromOwner (.ref it) 6 es[i].key es[i].val) _ _ ⟨h₁,g,dr,tk,os⟩;unfold Builtin.Dict_items.pairFromOwner;refine wpAny_bind (wpAny_newTuple ?_)
 have he₂:IsItemIter (h₁.push { cls:=.type "tuple",data:=.seq #[es[i].key,es[i].val] }) it d (i+1) es.size ep ok ov:=Heap.get?_push_of_some _ he₁
 generalize hh₂:h₁.push { cls:=.type "tuple",data:=.seq #[es[i].key,es[i].val] }=h₂ at he₂
 have hz₁:h₁.objs.size=hp.objs.size:=hs₁.1;have hil:it<hp.objs.size:=Heap.lt_size hit
 have ht₂:h₂.get? hp.objs.size=some { cls:=.type "tuple",data:=.seq #[es[i].key,es[i].val] }:=by rw[← hh₂,← hz₁];exact Heap.get?_push_size _ rfl
 have hz₂:h₂.objs.size=hp.objs.size+1:=by rw[← hh₂,Heap.size_push,hz₁]
 have hk₂:∀ b o,b≠it→hp.get? b=some o→h₂.get? b=some o:=fun b o hb e=>by rw[← hh₂];exact Heap.get?_push_of_some _ (hs₁.extBut b o hb e)
 show wpAny _ _ (Builtin.Dict_items.ownedTupleIsFree (.ref it) >>= _) _ _ ⟨h₂,g,dr,tk,os⟩;rw[hz₁];clear hh₂ he₁ hs₁ hT₁ hz₁ h₁
 refine wpAny_bind ?_;unfold Builtin.Dict_items.ownedTupleIsFree;refine wpAny_bind (wpAny_field he₂ rfl (x:=.none) rfl (wpAny_pure ?_))
 simp only[if_true];refine wpAny_bind (wpAny_field he₂ rfl (x:=ok) rfl (wpAny_bind (wpAny_field he₂ rfl (x:=ov) rfl (wpAny_bind (wpAny_setField_rec he₂ (by simp) fun h₃ he₃ hs₃=>?_)))))
 replace hs₃:Heap.SameBut it h₂ h₃:=hs₃;replace he₃:IsItemIter h₃ it d (i+1) es.size ep es[i].key ov:=he₃
 refine wpAny_bind (wpAny_setField_rec he₃ (by simp) fun h₄ he₄ hs₄=>?_);replace hs₄:Heap.SameBut it h₃ h₄:=hs₄;replace he₄:IsItemIter h₄ it d (i+1) es.size ep es[i].key es[i].val:=he₄
 refine wpAny_bind (wpAny_setField_rec he₄ (by simp) fun h₅ he₅ hs₅=>?_);replace hs₅:Heap.SameBut it h₄ h₅:=hs₅;replace he₅:IsItemIterOut h₅ it d (i+1) es.size ep es[i].key es[i].val hp.objs.size:=he₅
 refine wpAny_bind (wpAny_setField_rec he₅ (by simp) fun h₆ he₆ hs₆=>?_);replace hs₆:Heap.SameBut it h₅ h₆:=hs₆;replace he₆:IsItemIterOut h₆ it d (i+1) es.size ep es[i].key es[i].val hp.objs.size:=he₆
 refine wpAny_bind (wpAny_letGo (wpAny_pure (wpAny_pure ⟨_,rfl,wpAny_pure (hQ h₆ he₆ ?_ ?_ ?_)⟩)))
 ·have n:=Nat.ne_of_gt hil;exact hs₆.extBut _ _ n (hs₅.extBut _ _ n (hs₄.extBut _ _ n (hs₃.extBut _ _ n ht₂)))
 ·show h₆.objs.size=_;rw[hs₆.1,hs₅.1,hs₄.1,hs₃.1,hz₂]
 ·exact fun b o n e=>hs₆.extBut b o n (hs₅.extBut b o n (hs₄.extBut b o n (hs₃.extBut b o n (hk₂ b o n e))))
theorem yd {it d:Addr}{ep:Nat}{es:Array DictEntry}{ok ov:Value}{Q:Option Value→Shared→Prop}(hh:A.handled=none)(hit:IsItemIter s.heap it d es.size es.size ep ok ov)(hm:DE s.heap d es ep)
  (hQ:∀ h',Heap.ExtBut it s.heap h'→Q none { s with heap:=h' }):wpAny (model prog w) A (pyNext (.ref it)) Q E s:=by
 obtain⟨od,hod,hdd⟩:=id hm;have hT:s.TypeIs (.ref it) "dict_itemiterator":=⟨_,hit,rfl⟩
 unfold pyNext;refine wpAny_bind (wpAny_attempt (wpAny_callSpecial?_slot (name:=Str.ofString "__next__") hT F.slot_dict_itemiterator_next (wpAny_call_entry F.slot_dict_itemiterator_next hT F.entry_dict_itemiterator_next ?_ (F.args_dict_itemiterator_next_1 _))))
 refine wpAny_bind (wpAny_pure (wpAny_bind (wpAny_bind ?_)))
 (first | refine wpAny_bind (wpAny_typeNameOfWhole_itemiter hT (wpAny_pure ?_)) | refine wpAny_bind (wpAny_typeNameOf_itemiter hT (wpAny_pure ?_)));refine wpAny_bind (wpAny_fieldsOf hit rfl ?_)
 have oz:Builtin.Dict_items.ownsTuple "dict_itemiterator" = true:=by decide
 simp only[oz,if_true];show wpAny _ _ (if (Value.ref d == Value.none)=true then _ else _) _ _ s
 rw[if_neg (show ¬ ((Value.ref d == Value.none)=true) from Bool.false_ne_true)];refine wpAny_bind (wpAny_pure (wpAny_bind (wpAny_dictEntries hod hdd ?_)))
 rw[if_neg (by simp)];refine wpAny_bind (wpAny_pure (wpAny_bind (wpAny_dictEpoch hod hdd ?_)));rw[if_neg (by simp)];refine wpAny_pure ?_
 simp only[show ¬ ((es.size:Int)<0) from by omega,if_false,Int.toNat_natCast,Array.getElem?_eq_none (Nat.le_refl es.size)];refine wpAny_bind ?_
 (first | refine wpAny_bind (wpAny_typeNameOfWhole_itemiter hT (wpAny_pure ?_)) | refine wpAny_bind (wpAny_typeNameOf_itemiter hT (wpAny_pure ?_)));show wpAny _ _ (setField (.ref it) 2 .none >>= _) _ _ s
 refine wpAny_bind (wpAny_setField hit rfl (by simp) ?_);show wpAny _ _ (newExc (.type "StopIteration") [] >>= _) _ _ _;refine wpAny_bind ?_;simp only[newExc,newTuple]
 refine wpAny_bind (wpAny_newObj_type ?_ (by size_fits));refine wpAny_bind (m:=firstArgMember _ _) (wpAny_of_eq (a:=Value.none) (by first | rfl | (simp only[firstArgMember];rfl)) ?_);refine wpAny_newObj_type ?_ (by size_fits)
 simp only[raiseNew];refine wpAny_bind (wpAny_handled ?_);rw[show A.in1.handled=none from hh];refine wpAny_bind (wpAny_pure (wpAny_throw ?_))
 refine wpAny_bind (wpAny_isInstance (T:="StopIteration") (b:=true) ⟨_,Heap.get?_push_size _ rfl,rfl⟩ isSubtype_stop ?_);exact wpAny_pure (hQ _ (((Heap.SameBut.update ..).extBut.push _).push _))
end
end L2V
namespace L2
open PySem PySem.Spec PyProof.Rows L2V
section
variable {X:Cx}{pins:List (Addr×Obj)}{σ:St}{H:Hp}{s:Shared}{a b:Addr}{kvs:List (List Key×V)}{k:List Key}{r:Value}{A:Around}{E:Value→Shared→Prop}
theorem uo {x:V}{Q:Value→Shared→Prop}(hu:A.units+1<cLine)(I:Inv X pins σ H s)(e:H a=some (.dT kvs))(eb:H b=some (.tup (k.map kV)))(rv:RelV x r)(l:kvs.length<sizeLine)
  (h1:∀ y w' s',bj kvs k=some y→Inv X pins σ H s'→RelV y w'→Q w' s')
  (h2:∀ s',bj kvs k=none→Inv X pins σ (upd H a (.dT (putK kvs k x))) s'→Q r s'):wpAny (model X.prog X.w) A (call (.builtin "dict.setdefault") [.ref a,.ref b,r]) Q E s:=by
 obtain⟨z,hd,xs,rel,dd⟩:=vc I.hok e
 have hz:xs.length≤sizeLine:=by rw[← Paired.length rel];exact z
 have hl:(putK kvs k x).length≤sizeLine:=by have:=cm kvs k x;omega
 have rv0:=rel.val k
 refine call_meetsIn PySem.F.slot_dict_setdefault dd.typeIs PySem.F.entry_dict_setdefault (PySem.F.args_dict_setdefault_3 _ _ _) (mF (knd:=tupleKind (aP X.prog X.w)) a b hd r)
  ⟨tupleKind_room_in1 hu,k,xs,jV I.hok eb,dd,hz,fun p hp=>?_,fun hn h' dd' hs=>h2 _ ?_ ?_⟩
 ·cases q:bj kvs k with
  | none=>rw[q,hp] at rv0;exact absurd rv0 (fun z=>nomatch z)
  | some y=>rw[q,hp] at rv0;exact h1 y p.2 _ q (I.tok _) rv0
 ·cases q:bj kvs k with
  | none=>rfl
  | some y=>rw[q,hn] at rv0;exact absurd rv0 (fun z=>nomatch z)
 ·obtain⟨q,es,ep,hq,g2,g3,g4,_,g5⟩:=dd'
  refine ip I (by rw[e];exact True.intro) hs ⟨q,hq⟩ ⟨hl,hd,_,(rel.put k eb rv).keeps fun c ys ec=>?_,q,es,ep,hq,g2,g3,g4,g5⟩
  rw[ao (uS ec e (fun z=>nomatch z))];exact ec
end
noncomputable def Aq (td ty tx:TE):TE:=fun σ H Q=>td σ H fun x H1=>∃ a,x=.ref a∧IsD H1 a∧ty σ H1 fun y H2=>tx σ H2 fun z H3=>∃ kvs k b,H3 a=some (.dT kvs)∧y=.ref b∧H3 b=some (.tup (k.map kV))∧kvs.length<sizeLine ∧
 (∀ v,bj kvs k=some v→Q v H3)∧(bj kvs k=none→Q z (upd H3 a (.dT (putK kvs k z))))
section
variable {X:Cx}{o e f:Expr}{apos cp:Pos}{td ty tx:TE}
theorem vK (hu:X.A.units+1<cLine)(ho:PE X o td)(he:PE X e ty)(hf:PE X f tx)(m:M2 X o "setdefault" apos e f cp):PE X (.Call (.Attribute o "setdefault" apos) [e,f] [] cp) (Aq td ty tx):=by
 intro pins s σ H Q I h
 refine wpAny_Call_method m.base m.few m.line PySem.F.plainAttrs_dict PySem.F.slot_dict_setdefault PySem.F.type_dict_setdefault (thn (ho pins s σ H _ I h) fun u s1 ⟨x,H1,I1,rx,a,ex,d,q1⟩=>?_)
 subst ex
 obtain rfl:u=Value.ref a:=rx
 obtain⟨t1,t2,_⟩:=vi I1 d
 refine⟨t1,t2,?_⟩
 rw[m.trees]
 refine Calls.callWith_builtin rfl (Calls.evalArgs_plain (Calls.spliced_cons (thn (he pins s1 σ H1 _ I1 q1) fun iv s2 ⟨y,H2,I2,ry,q2⟩ =>
  Calls.spliced_cons (thn (hf pins s2 σ H2 _ I2 q2) fun fv s3 ⟨z,H3,I3,rz,kvs,k,b,ea,ey,eb,el,q3,q4⟩=>Calls.spliced_nil ?_))))
 subst ey
 obtain rfl:iv=Value.ref b:=ry
 exact uo hu I3 ea eb rz el (fun y w' s4 hy I4 rw'=>⟨y,H3,I4,rw',q3 y hy⟩) fun s4 hn I4=>⟨z,_,I4,rz,q4 hn⟩
end
end L2
namespace L2V
open PySem PySem.Spec PyProof.Rows
theorem vL:entryFor table "dict_itemiterator.__iter__" = some Builtin.«dict_keyiterator.__iter__» :=
 entryFor_alias (id':="dict_keyiterator.__iter__") (by kernel_rfl) rfl (by decide +kernel) (by kernel_rfl)
theorem vM {prog:Program}{w:World}{A:Around}{E:Value→Shared→Prop}{s:Shared}{it d:Addr}{i n ep:Nat}{ok ov:Value}{Q:Value→Shared→Prop}(hit:IsItemIter s.heap it d i n ep ok ov)(h:Q (.ref it) s):wpAny (model prog w) A (pyIter (.ref it)) Q E s:=by
 have hT:s.TypeIs (.ref it) "dict_itemiterator":=⟨_,hit,rfl⟩
 refine wpAny_pyIter_slot hT F.slot_dict_itemiterator_iter (wpAny_call_entry F.slot_dict_itemiterator_iter hT vL ?_ (F.args_dict_itemiterator_iter_1 _))
 show wpAny _ _ (ret (.ref it)) _ _ s;exact wpAny_pure ⟨_,rfl,"dict_itemiterator",_,hT,F.slot_dict_itemiterator_next.lookup,h⟩
end L2V
namespace L2
open PySem PySem.Spec PyProof.Rows L2V
section
variable {X:Cx}{pins:List (Addr×Obj)}{σ:St}{H:Hp}{s:Shared}{a:Addr}
theorem Inv.Ar (I:Inv X pins σ H s){kvs:List (List Key×V)}(e:H a=some (.dT kvs)):∃ o es ep,s.heap.get? a=some o∧o.data=.dict es ep∧es.size=kvs.length∧Inv X pins σ (upd H a (.frz o (.dT kvs))) s:=by
 have mu:Mut (H a):=by rw[e];exact True.intro
 obtain⟨z,lo,xs,rel,o,es,ep,h1,h2,h3,h4,h5⟩:=(show bb X.prog X.w H s.heap a (.dT kvs) from I.hok a _ e)
 have hsz:es.size=kvs.length:=by
  rw[rel.length]
  have:=congrArg List.length h4
  rwa[Array.length_toList,List.length_map] at this
 have keep:∀ c ys,H c=some (.tup ys)→upd H a (.frz o (.dT kvs)) c=some (.tup ys):=fun c ys ec=>by
  rw[ao (uS ec e (fun z=>nomatch z))];exact ec
 refine⟨o,es,ep,h1,h3,hsz,I.write (x:=a) (e:=a) (t':=s.toks) mu (.inl rfl) (fun b q hb z=>z) ⟨o,h1⟩ ⟨h1,z,lo,xs,Paired.mn rel fun p q y=>⟨y.1,keep _ _ y.2.1,y.2.2⟩,o,es,ep,h1,h2,h3,h4,h5⟩⟩
noncomputable def Iti (d:Addr)(o:Obj)(kvs:List (List Key×V)):It :=
 ⟨fun i H=>i<kvs.length∧H d=some (.frz o (.dT kvs)),fun i H y H'=>∃ t b k v,y=.ref t∧H t=none∧kvs[i]?=some (k,v)∧H b=some (.tup (k.map kV))∧H'=upd H t (.tup [.ref b,v]),fun i H=>kvs.length≤i∧H d=some (.frz o (.dT kvs))⟩
theorem vN {P:Program}{w:World}{K:PySem.W.Frag}{elts:List Expr}{x1:Nat}{tp:Pos}(d it:Addr)(o:Obj)(kvs:List (List Key×V))(es:Array DictEntry)(ep:Nat)(hep:o.data=.dict es ep)(hsz:es.size=kvs.length) :
  Turn P w K (.Tuple elts x1 tp) (Iti d o kvs) [it] it (fun i h=>i≤kvs.length∧∃ ok ov,IsItemIter h it d i kvs.length ep ok ov) where
 mem:=by simp
 obj:=fun i h st b hb=>by
  have e:b=it:=by simpa using hb
  subst e
  obtain⟨_,ok,ov,e⟩:=st
  exact⟨_,e,fun v z=>by have z':Data.fields _=Data.cell v:=z;cases z'⟩
 keep:=fun i h h' st k=>⟨st.1,let ⟨ok,ov,e⟩:=st.2;⟨ok,ov,k it (by simp) _ e⟩⟩
 item:=by
  intro X hP hw hK hc i pins s σ H E I hf st hg
  subst hP hw hK
  obtain⟨hi,hd⟩:=hg
  obtain⟨_,ok,ov,hit⟩:=st
  obtain⟨ho,z,lo,xs,rel,od,es',ep',h1,h2,h3,h4,h5⟩:=(show bb X.prog X.w H s.heap d (.frz o (.dT kvs)) from I.hok d _ hd)
  obtain⟨f0,f1,f2,f3,f4,f5⟩:=hf it (by simp)
  have e1:od=o:=by rw[ho] at h1;exact(Option.some.inj h1).symm
  have e2:es'=es∧ep'=ep:=by rw[e1,hep] at h3;cases h3;exact⟨rfl,rfl⟩
  obtain⟨rfl,rfl⟩:=e2
  have hi2:i<es'.size:=by omega
  have hx:kvs[i]?=some kvs[i]:=List.getElem?_eq_getElem hi
  have hxs:xs[i]?=some (xs[i]'(by rw[← rel.length];exact hi)):=List.getElem?_eq_getElem _
  have pr:=iU rel hx hxs
  have ee:es'[i]=entryOfKey (tupleKind (aP X.prog X.w)) (xs[i]'(by rw[← rel.length];exact hi)):=by
   have e:=entry_at h4 i
   rw[hxs,Array.getElem?_eq_getElem hi2] at e
   exact Option.some.inj e
  rw[← hsz] at hit
  refine vJ hit ⟨od,h1,h3⟩ hi2 fun h' ho' hT D9 hk=>?_
  refine⟨_,rfl,wpAny_letOwnedTupleGo_items (s:={ s with heap:=h' }) ho' fun h'' Am uf=>?_⟩
  have hlt:it<s.heap.objs.size:=Heap.lt_size hit
  have k2:∀ b o,b≠it→s.heap.get? b=some o→h''.get? b=some o:=fun b o h1 q=>(uf.2 b h1).trans (hk b o h1 q)
  have hT2:h''.get? s.heap.objs.size=some { cls:=.type "tuple",data:=.seq #[es'[i].key,es'[i].val] }:=(uf.2 _ (Nat.ne_of_gt hlt)).trans hT
  have hfr:H s.heap.objs.size=none:=I.hok.fresh (Nat.le_refl _)
  have neT:∀ {b:Addr} {o:Obj},s.heap.get? b=some o→b≠s.heap.objs.size:=fun q=>Nat.ne_of_lt (Heap.lt_size q)
  have trk:∀ {b:Addr} {o:HO},H b=some o→b≠it:=fun q z=>by rw[z,f0] at q;cases q
  have I2:Inv X pins σ (upd H s.heap.objs.size (.tup [.ref (xs[i]'(by rw[← rel.length];exact hi)).2.1,kvs[i].2])) { s with heap:=h'' }:=by
   refine I.step (g':=s.gens) (d':=s.drawn) (t':=s.toks) (ch:=[it]) (fun b hb=>?_) (fun b o _ _ hch q _=>k2 b o (fun z=>hch (by simp[z])) q) (fun b o _ _ hch q _=>⟨o.slots,k2 b o (fun z=>hch (by simp[z])) q⟩)
    (fun b o _ q n=>by rw[ao (neT q)];exact n) (fun b o hch q=>⟨o,k2 b o (fun z=>hch (by simp[z])) q⟩) (fun b ys q=>by rw[ao (aV q hfr)];exact q) (fun b o ys q=>by rw[ao (aV q hfr)];exact q)
    (fun b ps q=>⟨#[],by rw[ao (aV q hfr),q];simp⟩) (fun m hm=>?_) (fun b v q=>?_) I.bare
   ·have e1:b=it:=by simpa using hb
    subst e1;exact⟨f3,f1,f4,f5⟩
   ·obtain⟨o,es,ep,ho,r⟩:=hm
    exact⟨o,es,ep,k2 _ o (Ne.symm f1) ho,r⟩
   ·by_cases hb:b=s.heap.objs.size
    ·subst hb
     rw[ae] at q
     cases q
     refine⟨by show 2≤sizeLine;decide,[es'[i].key,es'[i].val],.cons ?_ (.cons ?_ .nil),_,hT2,rfl,_,rfl⟩
     ·rw[ee];rfl
     ·rw[ee];exact pr.2.2
    ·rw[ao hb] at q
     refine(I.hok b v q).pf (fun c o hc z=>?_) (fun c z=>by rw[ao (aV z hfr)];exact z) fun c ys z=>by rw[ao (aV z hfr)];exact z
     rcases hc with rfl | hc
     ·exact k2 c o (trk q) z
     ·exact k2 c o (trk hc) z
  refine⟨.ref s.heap.objs.size,_,I2,rfl,⟨_,_,kvs[i].1,kvs[i].2,rfl,hfr,hx,?_,rfl⟩,⟨hi,?_⟩,fun b hb=>?_⟩
  ·exact pr.2.1
  ·rw[← hsz];exact⟨_,_,Am⟩
  ·have e1:b=it:=by simpa using hb
   subst e1
   rw[ao (Nat.ne_of_lt hlt)];exact f0
 done:=by
  intro X hP hw hK hc i pins s σ H E I hf st hg
  subst hP hw hK
  obtain⟨hi,hd⟩:=hg
  obtain⟨hle,ok,ov,hit⟩:=st
  obtain⟨ho,_⟩:=(show bb X.prog X.w H s.heap d (.frz o (.dT kvs)) from I.hok d _ hd)
  obtain⟨f0,f1,f2,f3,f4,f5⟩:=hf it (by simp)
  have e3:i=es.size:=by omega
  rw[← hsz,e3] at hit
  exact yd (I.ok.hd hc) hit ⟨o,ho,hep⟩ fun h' eb=>⟨rfl,I.turned (t':=s.toks) (fun b o hb e=>eb b o hb e) f0 f1 f3 f4 f5⟩
 self:=fun _ _ _ _ _ st h=>let ⟨_,_,e⟩:=st.2;vM e h
end
section
variable {X:Cx}
noncomputable def CU (to:TE):TI:=fun σ H R=>to σ H fun v H1=>∃ d kvs,v=.ref d∧H1 d=some (.dT kvs)∧∀ o,R (Iti d o kvs) (upd H1 d (.frz o (.dT kvs)))
theorem As {o:Expr}{elts:List Expr}{x1:Nat}{tp:Pos}{to:TE}{pos' ap:Pos}(ho:PE X o to)(jh:attributeBase o "items" X.env (eval o X.env)=eval o X.env:=by rfl)(ji:(ap.endLine == pos'.line)=true:=by rfl) :
  PI X (.Tuple elts x1 tp) (.Call (.Attribute o "items" ap) [] [] pos') (CU to):=by
 intro pins s σ H R I h
 refine wpAny_Call_method0_late jh ji (thn (ho pins s σ H _ I h) fun v s1 ⟨x,H1,I1,r1,d,kvs,ex,hd,q⟩=>?_)
 subst ex
 obtain⟨h1,h2⟩:=qM (T:="dict") I1 r1 (.inr (.inr (.inl ⟨rfl,.inr ⟨kvs,hd⟩⟩)))
 cases (show v=Value.ref d from r1)
 obtain⟨ob,es,ep,hob,pL,hsz,I2⟩:=I1.Ar hd
 obtain⟨z,lo,_⟩:=vc I1.hok hd
 refine⟨"dict","dict.items",PySem.F.plainAttrs_dict,PySem.F.slot_dict_items,PySem.F.type_dict_items,h1,h2,Calls.callWith_builtin rfl (PySem.evalArgs_none ?_)⟩
 refine call_meetsIn PySem.F.slot_dict_items h1 PySem.F.entry_dict_items (PySem.F.args_dict_items_1 _) (um d lo) ⟨h1,?_⟩
 have hv:(s1.heap.push { cls:=.type "dict_items",data:=.fields #[.ref d] }).IsItemsView s1.heap.objs.size d:=⟨_,Heap.get?_push_size _ rfl,rfl,rfl⟩
 refine vI (s:={ s1 with heap:=s1.heap.push { cls:=.type "dict_items",data:=.fields #[.ref d] } }) hv ⟨ob,Heap.get?_push_of_some _ hob,pL⟩ ?_
 have I3:Inv X pins σ (upd H1 d (.frz ob (.dT kvs))) { s1 with heap:=s1.heap.push { cls:=.type "dict_items",data:=.fields #[.ref d] } }:=I2.kept (t':=s1.toks) fun b o e=>Heap.get?_push_of_some _ e
 refine⟨_,[_],_,_,_,rfl,I3.kept (t':=s1.toks) fun b o e=>Heap.get?_push_of_some _ e,vN d _ ob kvs es ep pL hsz,⟨Nat.zero_le _,?_⟩,fun b hb=>?_,q ob⟩
 ·rw[← hsz]
  exact⟨_,_,Heap.get?_push_size _ rfl⟩
 ·have e:=List.mem_singleton.mp hb
  subst e
  exact I3.mw (Nat.le_refl _) (I3.hok.fresh (Nat.le_refl _))
theorem vO {d:Addr}{o:Obj}{kvs:List (List Key×V)}{g:TG}{tt:TT}{te:TE}{D:Addr}{Q:VK}{σ₀:St}{H₀:Hp}(Pv:Nat→St→Hp→Prop)(h0:Pv 0 σ₀ H₀)(hl:∀ i σ H,i≤kvs.length→Pv i σ H→H d=some (.frz o (.dT kvs)))
  (hs:∀ i t b k v σ H,kvs[i]?=some (k,v)→Pv i σ H→H t=none→H b=some (.tup (k.map kV))→g (.ref t) σ (upd H t (.tup [.ref b,v])) fun σ3 H3=>tt σ3 H3 fun b H4=>if b=true then te σ3 H4 fun v H5=>∃ ys,H5 D=some (.lst ys)∧ys.length<sizeLine∧Pv (i+1) σ3 (upd H5 D (.lst (ys++[v]))) else Pv (i+1) σ3 H4)
  (hd:∀ σ H,Pv kvs.length σ H→Q (.ref D) H):km (Iti d o kvs) g tt te D Q σ₀ H₀:=by
 refine⟨fun i m σ H=>m=kvs.length-i∧i≤kvs.length∧Pv i σ H,⟨kvs.length,by simp,Nat.zero_le _,h0⟩,?_⟩
 rintro i m σ H ⟨rfl,hi,p⟩
 have q:=hl i σ H hi p
 by_cases hlt:i<kvs.length
 ·refine .inr ⟨⟨hlt,q⟩,Pv (i+1),fun σ' H' p'=>⟨kvs.length-(i+1),by omega,rfl,hlt,p'⟩,fun x H' y=>?_⟩
  obtain⟨t,b,k,v,e,hn,hx,hb,e2⟩:=y
  subst e e2
  exact hs i t b k v σ _ hx p hn hb
 ·have e:i=kvs.length:=by omega
  subst e
  exact .inl ⟨⟨Nat.le_refl _,q⟩,hd σ H p⟩
end
end L2

namespace NK
open PySem PySem.Spec PyProof.Rows L2
noncomputable abbrev Itm:=Sum Key (List Key)
section
variable {P:Program}{w:World}
noncomputable def mG (P:Program)(w:World)(h:Heap):Itm→Value→Prop
 | .inl k,v=>(aP P w).is k v=true
 | .inr ks,v=>∃ b,v=.ref b∧IsTupleKey (aP P w) h ks b
inductive Its (P:Program) (w:World) (h:Heap):List Itm→List Value→Prop
 | nil:Its P w h [] []
 | cons {k:Itm} {v:Value} {ks:List Itm} {vs:List Value}:mG P w h k v→Its P w h ks vs→Its P w h (k::ks) (v::vs)
noncomputable def Is2 (P:Program)(w:World)(h:Heap)(ks:List Itm)(a:Addr):Prop:=∃ o items n,h.get? a=some o∧o.cls=.type "tuple"∧o.data=.seq items n∧Its P w h ks items.toList
theorem sA {k:Key}{b:Addr}:(aP P w).is k (.ref b)=true→False:=fun h=>by
 rcases bf h with ⟨_,_,_,e⟩ | ⟨_,_,_,e⟩ <;> exact nomatch e
theorem mG.inj {h:Heap}{x y:Itm}{v:Value}(hx:mG P w h x v)(hy:mG P w h y v):x=y:=by
 cases x with
 | inl k=>cases y with
  | inl l=>exact congrArg Sum.inl ((aP P w).inj _ _ _ hx hy)
  | inr l=>obtain⟨b,e,_⟩:=hy;subst e;exact(sA hx).elim
 | inr k=>cases y with
  | inl l=>obtain⟨b,e,_⟩:=hx;subst e;exact(sA hy).elim
  | inr l=>obtain⟨b,e,q⟩:=hx;obtain⟨b',e',q'⟩:=hy;subst e;cases e';exact congrArg Sum.inr (q.inj q')
theorem Its.inj {h:Heap}{x y:List Itm}{vs:List Value}(hx:Its P w h x vs)(hy:Its P w h y vs):x=y:=by
 induction hx generalizing y with
 | nil=>cases hy;rfl
 | cons h1 _ ih =>
  cases hy with
  | cons h2 t2=>rw[h1.inj h2,ih t2]
theorem Is2.typeIs {s:Shared}{ks:List Itm}{a:Addr}(x:Is2 P w s.heap ks a):s.TypeIs (.ref a) "tuple":=let ⟨o,_,_,ho,hc,_⟩:=x;⟨o,ho,hc⟩
theorem Is2.inj {h:Heap}{a:Addr}{x y:List Itm}(hx:Is2 P w h x a)(hy:Is2 P w h y a):x=y:=by
 obtain⟨o,items,n,ho,_,hd,hi⟩:=hx
 obtain⟨o',CV,n',ho',_,hd',hi'⟩:=hy
 obtain rfl:o=o':=Option.some.inj (ho.symm.trans ho')
 rw[hd] at hd'
 injection hd' with h1 _
 subst h1
 exact hi.inj hi'
theorem Is2.keeps {h h':Heap}{ks:List Itm}{a d:Addr}{o:Obj}{es ep}(x:Is2 P w h ks a)(ho:h.get? d=some o)(hd:o.data=.dict es ep)(hs:Heap.SameBut d h h'):Is2 P w h' ks a:=by
 obtain⟨o',items,n,ho',hc,hd',hi⟩:=x
 have hne:a≠d:=by
  rintro rfl
  obtain rfl:o'=o:=Option.some.inj (ho'.symm.trans ho)
  rw[hd] at hd';exact nomatch hd'
 refine⟨o',items,n,(hs.2 a hne).trans ho',hc,hd',?_⟩
 clear hd' ho' hc
 generalize items.toList=vs at hi
 induction hi with
 | nil=>exact .nil
 | @cons k v ks vs h1 _ ih =>
  refine .cons ?_ ih
  cases k with
  | inl k=>exact h1
  | inr k=>obtain⟨b,e,q⟩:=h1;exact⟨b,e,q.keeps ho hd hs⟩
noncomputable def itH (P:Program)(w:World):Itm→Int
 | .inl k=>(aP P w).hash k
 | .inr ks=>tupleKeyHash (aP P w) ks
noncomputable def itD:Itm→Nat
 | .inl _=>1
 | .inr ks=>ks.length+1
noncomputable def vP (P:Program)(w:World)(ks:List Itm):Int:=reduceHash (Builtin.Tuple.tupleHashOf (ks.map (itH P w)))
noncomputable def qS (ks:List Itm):Nat:=(ks.map itD).sum+1
variable {A:Around}{E:Value→Shared→Prop}{s:Shared}
theorem ye {k:Itm}{v:Value}{Q:Int→Shared→Prop}(hu:A.units<cLine)(hk:mG P w s.heap k v)(h:Q (itH P w k) { s with toks:=s.toks+itD k }):wpAny (model P w) A (pyHash v) Q E s:=by
 cases k with
 | inl k=>exact(aP P w).pyHash hk h
 | inr k=>obtain⟨b,e,q⟩:=hk;subst e;exact wpAny_pyHash_tuple hu q h
theorem vQ {ks:List Itm}{a:Addr}{Q:Int→Shared→Prop}(hu:A.units+1<cLine)(hk:Is2 P w s.heap ks a)(h:Q (vP P w ks) { s with toks:=s.toks+qS ks }) :
  wpAny (model P w) A (pyHash (.ref a)) Q E s:=by
 have hT:=hk.typeIs
 obtain⟨o,items,n,ho,_,hd,hi⟩:=hk
 unfold pyHash
 first | unfold pyHashByItsType | skip
 first | refine wpAny_bind (wpAny_cRoomFor_or (.inr (by omega)) ?_) | skip
 refine wpAny_bind (wpAny_specialOf hT F.slot_tuple_hash.lookup ?_)
 show wpAny _ _ (if (some (Value.builtin "tuple.__hash__") == some Value.none)=true then _ else _) Q E s
 rw[if_neg (by rw[beq_builtin_none];exact Bool.false_ne_true)]
 refine wpAny_bind (wpAny_specialOf hT F.slot_tuple_hash.lookup ?_)
 show wpAny _ _ (callSpecialIfBoundUnlessNone? (.ref a) "__hash__" _ >>= _) Q E s
 refine wpAny_bind (wpAny_callSpecialIfBoundUnlessNone?_slot hT F.slot_tuple_hash (wpAny_call_entry F.slot_tuple_hash hT F.entry_tuple_hash ?_ (F.args_tuple_hash_1 _)))
 show wpAny _ _ (Builtin.Tuple.tupleItemsOf (.ref a) >>= _) _ _ s
 refine wpAny_bind (wpAny_tupleItemsOf ho hd ?_)
 refine wpAny_bind ?_
 rw[← Array.forIn_toList]
 refine wpAny_forIn_list _
  (fun rest (b:Array Int) s'=>∃ done left,ks=done++left∧Its P w s.heap left rest∧b.toList=done.map (itH P w)∧s' = { s with toks:=s.toks+(done.map itD).sum })
  _ ?_ ?_ _ _ ⟨[],ks,rfl,hi,rfl,rfl⟩
 ·rintro x rest b s' ⟨done,left,rfl,hl,hb,rfl⟩
  cases hl with
  | @cons k _ ks' _ h1 hl' =>
   refine wpAny_bind (ye (k:=k) (by first | exact hu | (simp only[Around.in1];omega) | (show A.units+1<cLine;omega)) h1 ?_)
   first
    | exact wpAny_pure ⟨done++[k],ks',by simp,hl',by simp[hb],by simp[Nat.add_assoc]⟩
    | exact wpAny_bind (wpAny_pure (wpAny_pure ⟨done++[k],ks',by simp,hl',by simp[hb],by simp[Nat.add_assoc]⟩))
 ·rintro b s' ⟨done,left,rfl,hl,hb,rfl⟩
  cases hl
  rw[List.append_nil] at h
  show wpAny _ _ (retInt (Builtin.Tuple.tupleHashOf b.toList)) _ _ _
  rw[hb]
  refine wpAny_ret_mkInt ?_
  show wpAny _ _ (if (decide (-(2:Int) ^ 63≤Builtin.Tuple.tupleHashOf (done.map (itH P w)))&&decide (Builtin.Tuple.tupleHashOf (done.map (itH P w))<2 ^ 63))=true then _ else _) Q E _
  unfold vP reduceHash qS at h
  by_cases hr:(decide (-(2:Int) ^ 63≤Builtin.Tuple.tupleHashOf (done.map (itH P w)))&&decide (Builtin.Tuple.tupleHashOf (done.map (itH P w))<2 ^ 63))=true
  ·rw[if_pos hr]
   rw[if_pos hr] at h
   exact wpAny_pure (by simpa[Nat.add_assoc] using h)
  ·rw[if_neg hr]
   rw[if_neg hr] at h
   exact wpAny_bind (wpAny_rule (wpAny_pure (by simpa[Nat.add_assoc] using h)))
theorem lr {s:Shared}{ks:List Key}{b:Addr}(q:IsTupleKey (aP P w) s.heap ks b):∃ items,s.heap.IsTuple b items:=by
 obtain⟨o,items,n,ho,hc,hd,_⟩:=q
 exact⟨items,o,ho,hc,n,hd⟩
theorem zq {x y:Itm}{u v:Value}{Q:Bool→Shared→Prop}(hu:A.units<cLine)(hx:mG P w s.heap x u)(hy:mG P w s.heap y v)(h:Q (decide (x=y)) s):wpAny (model P w) A (eqBool u v) Q E s:=by
 cases x with
 | inl k=>cases y with
  | inl l =>
   refine(aP P w).eqBool (a:=k) (b:=l) hx hy ?_
   by_cases e:k=l
   ·subst e;simpa using h
   ·rw[decide_eq_false e];rwa[decide_eq_false (fun z=>e (Sum.inl.inj z))] at h
  | inr l =>
   obtain⟨b,e,q⟩:=hy;subst e
   obtain⟨items,ht⟩:=lr q
   rw[decide_eq_false (fun z=>nomatch z)] at h
   rcases bf hx with ⟨i,t,_,e⟩ | ⟨i,t,_,e⟩ <;> subst e
   ·exact PySem.SeqAt.EqAt.int_tuple i t ht hu P w E Q h
   ·exact PySem.SeqAt.EqAt.str_tuple i t ht hu P w E Q h
 | inr k=>cases y with
  | inl l =>
   obtain⟨b,e,q⟩:=hx;subst e
   obtain⟨items,ht⟩:=lr q
   rw[decide_eq_false (fun z=>nomatch z)] at h
   rcases bf hy with ⟨i,t,_,e⟩ | ⟨i,t,_,e⟩ <;> subst e
   ·exact PySem.SeqAt.EqAt.tuple_int i t ht hu P w E Q h
   ·exact PySem.SeqAt.EqAt.tuple_str i t ht hu P w E Q h
  | inr l =>
   obtain⟨b,e,q⟩:=hx;subst e
   obtain⟨b',e',q'⟩:=hy;subst e'
   refine wpAny_eqBool_tuple hu q q' ?_
   by_cases e:k=l
   ·subst e;simpa using h
   ·rw[decide_eq_false e];rwa[decide_eq_false (fun z=>e (Sum.inr.inj z))] at h
theorem vR {x y:List Itm}{a b:Addr}{R:Fin→Shared→Prop}(hu:A.units<cLine)(hx:Is2 P w s.heap x a)(hy:Is2 P w s.heap y b)(h:R (.done (.ret (.bool (decide (x=y))))) s) :
  wpAny (model P w) A (Builtin.«tuple.__eq__» ⟨[.ref a,.ref b],[]⟩) R E s:=by
 have hTb:=hy.typeIs
 obtain⟨oa,xs,na,hoa,_,hda,hia⟩:=hx
 obtain⟨ob,ys,nb,hob,_,hdb,hib⟩:=hy
 show wpAny _ _ (isInstance (.ref b) (.type "tuple") >>= _) _ _ s
 refine wpAny_bind (wpAny_isInstance hTb isSubtype_tuple_tuple ?_)
 simp only[Bool.not_true,Bool.false_eq_true,if_false]
 refine wpAny_bind (wpAny_tupleItemsOf hoa hda ?_)
 refine wpAny_bind (wpAny_tupleItemsOf hob hdb ?_)
 refine wpAny_bind ?_
 refine wpAny_forIn_list _
  (fun rest r s'=>r.1=none∧s'=s∧∃ x' y' xs' ys',rest=List.zip xs' ys'∧Its P w s.heap x' xs'∧Its P w s.heap y' ys'∧decide (x'=y')=decide (x=y)∧(xs'.length == ys'.length)=(xs.size == ys.size))
  _ ?_ ?_ _ _ ⟨rfl,rfl,x,y,xs.toList,ys.toList,rfl,hia,hib,rfl,by simp⟩
 ·rintro⟨u,v⟩ rest r s' ⟨hr,rfl,x',y',xs',ys',hz,hx',hy',yf,hlen⟩
  cases hx' with
  | nil=>simp at hz
  | @cons k1 u' x'' CW h1 CY =>
   cases hy' with
   | nil=>simp at hz
   | @cons k2 v' y'' CZ h2 C0 =>
    simp only[List.zip_cons_cons,List.cons.injEq,Prod.mk.injEq] at hz
    obtain⟨⟨rfl,rfl⟩,rfl⟩:=hz
    refine wpAny_bind (zq (x:=k1) (y:=k2) hu h1 h2 ?_)
    by_cases hk:k1=k2
    ·subst hk
     rw[decide_eq_true rfl]
     simp only[Bool.not_true,Bool.false_eq_true,if_false]
     refine wpAny_pure ⟨rfl,rfl,x'',y'',CW,CZ,rfl,CY,C0,?_,by simpa using hlen⟩
     rw[← yf]
     by_cases hxy:x''=y''
     ·simp[hxy]
     ·simp[hxy]
    ·rw[decide_eq_false hk]
     simp only[Bool.not_false,if_true]
     have hf:decide (x=y)=false:=by rw[← yf];simp[hk]
     rw[hf] at h
     exact wpAny_bind (wpAny_pure (wpAny_pure (wpAny_pure h)))
 ·rintro⟨r1,r2⟩ s' ⟨hr,rfl,x',y',xs',ys',hz,hx',hy',yf,hlen⟩
  simp only at hr
  subst hr
  refine wpAny_pure ?_
  have C1:(xs.size == ys.size)=decide (x=y):=by
   rw[← yf,← hlen]
   cases hx' with
   | nil =>
    cases hy' with
    | nil=>simp
    | cons _ _=>simp
   | cons _ _ =>
    cases hy' with
    | nil=>simp
    | cons _ _=>simp at hz
  show R (.done (.ret (.bool (xs.size == ys.size)))) s'
  rw[C1];exact h
theorem vS {x y:List Itm}{a b:Addr}{Q:Bool→Shared→Prop}(hu:A.units+1<cLine)(hx:Is2 P w s.heap x a)(hy:Is2 P w s.heap y b)(h:Q (decide (x=y)) s) :
  wpAny (model P w) A (eqBool (.ref a) (.ref b)) Q E s:=by
 unfold eqBool
 try with_reducible refine wpAny_holding ?_
 show wpAny _ _ (if (Value.ref a == Value.ref b)=true then _ else _) Q E s
 by_cases hab:(Value.ref a == Value.ref b)=true
 ·rw[if_pos hab]
  have e:a=b:=by have:=eq_of_beq hab;injection this
  subst e
  obtain rfl:=hx.inj hy
  exact wpAny_bind (wpAny_rule (wpAny_pure (by simpa using h)))
 ·rw[if_neg hab]
  exact wpAny_bind (wpAny_richCompare_same_room (op:=.Eq) hx.typeIs hy.typeIs F.slot_tuple_eq
   (wpAny_call_entry F.slot_tuple_eq hx.typeIs F.entry_tuple_eq (vR (by first | exact hu | (show A.units+1<cLine;omega)) hx hy ⟨_,rfl,(fun e=>nomatch e),wpAny_truthy_bool h⟩) (F.args_tuple_eq_2 _ _)) (by omega))
theorem yg (n:Nat){ks:List Key}{a:Addr}{Q:Bool→Shared→Prop}(hk:IsTupleKey (aP P w) s.heap ks a)(h:Q true s):wpAny (model P w) A (eqIsQuiet (n+1) (.ref a)) Q E s:=by
 have hT:=hk.typeIs
 obtain⟨o,items,n,ho,_,hd,hi⟩:=hk
 unfold eqIsQuiet
 refine wpAny_bind (wpAny_specialOf hT F.slot_tuple_eq.lookup ?_)
 show wpAny _ _ (isInstance (.ref a) (.type "tuple") >>= _) _ _ s
 refine wpAny_bind (wpAny_isInstance hT isSubtype_tuple_tuple ?_)
 simp only[Bool.not_true,Bool.false_eq_true,if_false]
 refine wpAny_bind (wpAny_seqItems ho hd ?_)
 refine wpAny_bind ?_
 show wpAny _ _ (forIn items _ _) _ _ s
 rw[← Array.forIn_toList]
 refine wpAny_forIn_list _ (fun rest r s'=>r.1=none∧s'=s∧∀ v∈rest,carriedByValue v=true) _ ?_ ?_ _ _ ⟨rfl,rfl,hi.byValue⟩
 ·rintro v rest r s' ⟨hr,rfl,mD⟩
  rw[eqIsQuiet_byValue _ (mD v List.mem_cons_self)]
  refine wpAny_bind (wpAny_pure ?_)
  simp only[Bool.not_true,Bool.false_eq_true,if_false]
  exact wpAny_pure ⟨rfl,rfl,fun u hu'=>mD u (List.mem_cons_of_mem _ hu')⟩
 ·rintro⟨r1,r2⟩ s' ⟨hr,rfl,_⟩
  simp only at hr
  subst hr
  exact wpAny_pure h
theorem ur {ks:List Itm}{a:Addr}{Q:Bool→Shared→Prop}(hk:Is2 P w s.heap ks a)(h:Q true s):wpAny (model P w) A (eqIsQuiet 8 (.ref a)) Q E s:=by
 have hT:=hk.typeIs
 obtain⟨o,items,n,ho,_,hd,hi⟩:=hk
 unfold eqIsQuiet
 refine wpAny_bind (wpAny_specialOf hT F.slot_tuple_eq.lookup ?_)
 show wpAny _ _ (isInstance (.ref a) (.type "tuple") >>= _) _ _ s
 refine wpAny_bind (wpAny_isInstance hT isSubtype_tuple_tuple ?_)
 simp only[Bool.not_true,Bool.false_eq_true,if_false]
 refine wpAny_bind (wpAny_seqItems ho hd ?_)
 refine wpAny_bind ?_
 show wpAny _ _ (forIn items _ _) _ _ s
 rw[← Array.forIn_toList]
 refine wpAny_forIn_list _ (fun rest r s'=>r.1=none∧s'=s∧∃ ks,Its P w s.heap ks rest) _ ?_ ?_ _ _ ⟨rfl,rfl,ks,hi⟩
 ·rintro v rest r s' ⟨hr,rfl,ks',mD⟩
  cases mD with
  | @cons k _ C2 _ h1 hl' =>
   have go:wpAny (model P w) A (eqIsQuiet 7 v) (fun b s2=>b=true∧s2=s') E s':=by
    cases k with
    | inl k=>rw[eqIsQuiet_byValue _ ((aP P w).byValue _ _ h1)];exact wpAny_pure ⟨rfl,rfl⟩
    | inr k=>obtain⟨b,e,q⟩:=h1;subst e;exact yg 6 q ⟨rfl,rfl⟩
   refine wpAny_bind (thn go fun b s2 ⟨eb,es⟩=>?_)
   subst eb es
   simp only[Bool.not_true,Bool.false_eq_true,if_false]
   exact wpAny_pure ⟨rfl,rfl,C2,hl'⟩
 ·rintro⟨r1,r2⟩ s' ⟨hr,rfl,_⟩
  simp only at hr
  subst hr
  exact wpAny_pure h
end
noncomputable def fS (P:Program)(w:World):HeapKind P w (List Itm) where
 is:=Is2 P w
 hash:=vP P w
 draws:=qS
 room:=fun A=>A.units+1<cLine
 inj:=fun hx hy=>hx.inj hy
 keeps:=fun x ho hd hs=>x.keeps ho hd hs
 pyHash:=fun hu hk h=>vQ hu hk h
 eqBool:=fun hu hx hy h=>vS hu hx hy h
 quiet:=fun hk h=>ur hk h
end NK

namespace NK
open PySem PySem.Spec PyProof.Rows L2
noncomputable abbrev Ent:=List Itm×Addr×V
noncomputable def iE (kvs:List Ent)(k:List Itm):Option V:=(kvs.find? fun x=>decide (x.1=k)).map (·.2.2)
noncomputable def put2 (kvs:List Ent)(k:List Itm)(b:Addr)(v:V):List Ent:=if (iE kvs k).isSome then kvs.map (fun x=>if x.1=k then (x.1,x.2.1,v) else x) else kvs++[(k,b,v)]
noncomputable def RE:Ent→List Itm×Addr×Value→Prop:=fun p q=>p.1=q.1∧p.2.1=q.2.1∧RelV p.2.2 q.2.2
theorem oA {kvs:List Ent}{xs:List (List Itm×Addr×Value)}(r:Paired RE kvs xs)(k:List Itm):iD (iE kvs k) ((atKey xs k).map (·.2)):=by
 induction r with
 | nil=>exact True.intro
 | @cons p q ps qs h t ih =>
  unfold iE atKey
  rw[List.find?_cons,List.find?_cons,← h.1]
  by_cases e:p.1=k
  ·rw[decide_eq_true e];exact h.2.2
  ·rw[decide_eq_false e];exact ih
theorem Au {kvs:List Ent}{xs:List (List Itm×Addr×Value)}(r:Paired RE kvs xs)(k:List Itm)(b:Addr){v:V}{u:Value}(rv:RelV v u):Paired RE (put2 kvs k b v) (storedH xs k b u):=by
 have q:=(oA r k).mX
 rw[Option.isSome_map] at q
 unfold put2 storedH
 rw[q]
 by_cases e:(atKey xs k).isSome=true
 ·rw[if_pos e,if_pos e]
  clear q e
  induction r with
  | nil=>exact .nil
  | @cons p q ps qs h t ih =>
   refine .cons ?_ ih
   unfold putAt
   dsimp only
   by_cases e:p.1=k
   ·rw[if_pos e,if_pos (h.1 ▸ e)];exact⟨h.1,h.2.1,rv⟩
   ·rw[if_neg e,if_neg (h.1 ▸ e)];exact h
 ·rw[if_neg e,if_neg e]
  clear q e
  induction r with
  | nil=>exact .cons ⟨rfl,rfl,rv⟩ .nil
  | cons h t ih=>exact .cons h ih
theorem vT (kvs:List Ent)(k:List Itm)(b:Addr)(v:V):(put2 kvs k b v).length≤kvs.length+1:=by
 unfold put2;split <;> simp
noncomputable def d2P (P:Program)(w:World)(a:Addr)(kvs:List Ent):Heap→Prop:=fun h=>kvs.length≤sizeLine∧(a == sysModules)=false∧∃ xs,Paired RE kvs xs ∧
 ∃ o es ep,h.get? a=some o∧o.ExactDict∧o.data=.dict es ep∧es.toList=xs.map (entryOfKey (fS P w))∧(xs.map (·.1)).Nodup
noncomputable def d2O (P:Program)(w:World)(a:Addr)(kvs:List Ent):HO:=.ext (d2P P w a kvs)
theorem d2P.ok {P:Program}{w:World}{a:Addr}{kvs:List Ent}{H:Hp}{h:Heap}(q:d2P P w a kvs h):bb P w H h a (d2O P w a kvs):=by
 refine⟨q,?_,fun h1 h2 q1 g=>?_⟩
 ·obtain⟨_,_,_,_,o,_,_,ho,_⟩:=q;exact⟨o,ho⟩
 ·obtain⟨z,y,xs,r,o,es,ep,ho,t⟩:=q1
  exact⟨z,y,xs,r,o,es,ep,g o ho,t⟩
noncomputable def IV (H:Hp):Itm→V→Prop
 | .inl k,v=>v=kV k
 | .inr l,v=>∃ c,v=.ref c∧H c=some (.tup (l.map kV))
noncomputable def K2 (H:Hp)(k:List Itm)(b:Addr):Prop:=∃ vs,H b=some (.tup vs)∧Paired (IV H) k vs
noncomputable def D2 (P:Program)(w:World)(H:Hp)(a:Addr)(kvs:List Ent):Prop:=H a=some (d2O P w a kvs)∧∀ p∈kvs,K2 H p.1 p.2.1
theorem K2.keep {H H':Hp}{k:List Itm}{b:Addr}(q:K2 H k b)(g:∀ c ys,H c=some (.tup ys)→H' c=some (.tup ys)):K2 H' k b:=by
 obtain⟨vs,e,r⟩:=q
 refine⟨vs,g _ _ e,Paired.mn r fun k v=>?_⟩
 cases k with
 | inl k=>exact id
 | inr l=>exact fun ⟨c,e,q⟩=>⟨c,e,g _ _ q⟩
theorem D2.keep {P:Program}{w:World}{H H':Hp}{a:Addr}{kvs:List Ent}(d:D2 P w H a kvs)(e:H' a=H a)(g:∀ c ys,H c=some (.tup ys)→H' c=some (.tup ys)):D2 P w H' a kvs :=
 ⟨e.trans d.1,fun p hp=>(d.2 p hp).keep g⟩
section
variable {P:Program}{w:World}{H:Hp}{h:Heap}{a b:Addr}
theorem kB {k:List Itm}(ok:HOk P w H h)(q:K2 H k b):Is2 P w h k b:=by
 obtain⟨vs,e,r⟩:=q
 obtain⟨hL,its,rr,o,h1,h2,n,h3⟩:=(show bb P w H h b (.tup vs) from ok b _ e)
 refine⟨o,its.toArray,n,h1,h2,h3,?_⟩
 clear hL
 show Its P w h k its
 clear h3 h1 h2 e
 induction r generalizing its with
 | nil=>cases rr;exact .nil
 | @cons k v ks vs hk t ih =>
  cases rr with
  | cons hv tv =>
   refine .cons ?_ (ih _ tv)
   cases k with
   | inl k=>cases (show v=kV k from hk);exact mY hv
   | inr l=>obtain⟨c,e,q⟩:=hk;subst e;exact⟨c,hv,jV ok q⟩
theorem kC {kvs:List Ent}(ok:HOk P w H h)(d:D2 P w H a kvs):kvs.length≤sizeLine∧(a == sysModules)=false∧∃ xs,Paired RE kvs xs∧h.DictOfH (fS P w) a xs:=by
 obtain⟨⟨z,y,xs,r,o,es,ep,h1,h2,h3,h4,h5⟩,_⟩:=(show bb P w H h a (d2O P w a kvs) from ok a _ d.1)
 refine⟨z,y,xs,r,o,es,ep,h1,h2,h3,h4,?_,h5⟩
 have all:∀ {l:List Ent} {m:List (List Itm×Addr×Value)},Paired RE l m→(∀ p∈l,K2 H p.1 p.2.1)→∀ x∈m,Is2 P w h x.1 x.2.1:=by
  intro l m q
  induction q with
  | nil=>intro _ x hx;exact nomatch hx
  | @cons p q ps qs hq t ih =>
   intro g x hx
   rcases List.mem_cons.mp hx with e | hx
   ·subst e
    rw[← hq.1,← hq.2.1]
    exact kB ok (g p List.mem_cons_self)
   ·exact ih (fun p hp=>g p (List.mem_cons_of_mem _ hp)) x hx
 exact all r d.2
end
section
variable {X:Cx}{pins:List (Addr×Obj)}{σ:L2.St}{H:Hp}{s:Shared}{a b:Addr}{kvs:List Ent}{k:List Itm}{v:V}{u r:Value}{A:Around}{E:Value→Shared→Prop}
theorem gY (hu:A.units+2<cLine):(fS X.prog X.w).room A.in1:=show A.in1.units+1<cLine from by show A.units+1+1<cLine;omega
theorem qT {Q:Value→Shared→Prop}(hu:A.units+2<cLine)(I:Inv X pins σ H s)(d:D2 X.prog X.w H a kvs)(hk:K2 H k b)(l:iE kvs k=some v)(h:∀ w' s',Inv X pins σ H s'→RelV v w'→Q w' s') :
  wpAny (model X.prog X.w) A (getItem (.ref a) (.ref b)) Q E s:=by
 obtain⟨z,hd,xs,rel,dd⟩:=kC I.hok d
 obtain⟨w',hw,rw'⟩:=iD.some_of (v:=v) (o:=(atKey xs k).map (·.2)) (by rw[← l];exact oA rel k)
 obtain⟨p,hp,hp2⟩:=Option.map_eq_some_iff.mp hw
 refine wpAny_getItem_heap (knd:=fS X.prog X.w) (gY hu) (kB I.hok hk) dd hp ?_
 rw[hp2]
 exact h w' _ (I.tok _) rw'
theorem qU {Q:Unit→Shared→Prop}(hu:A.units+2<cLine)(I:Inv X pins σ H s)(d:D2 X.prog X.w H a kvs)(hk:K2 H k b)(hl:kvs.length<sizeLine)(rv:RelV v r)
  (h:∀ s',Inv X pins σ (upd H a (d2O X.prog X.w a (put2 kvs k b v))) s'→Q () s'):wpAny (model X.prog X.w) A (setItem (.ref a) (.ref b) r) Q E s:=by
 obtain⟨z,hd,xs,rel,dd⟩:=kC I.hok d
 have hz:xs.length≤sizeLine:=by rw[← Paired.length rel];exact z
 have hl':(put2 kvs k b v).length≤sizeLine:=by have:=vT kvs k b v;omega
 refine wpAny_setItem_heap (knd:=fS X.prog X.w) (hsz:=hz) (gY hu) (kB I.hok hk) dd fun h' dd' hs=>h _ ?_
 obtain⟨q,es,ep,hq,h2,h3,h4,_,h5⟩:=dd'
 exact ip I (by rw[d.1];exact True.intro) hs ⟨q,hq⟩ (d2P.ok ⟨hl',hd,_,Au rel k b rv,q,es,ep,hq,h2,h3,h4,h5⟩)
theorem D2.put {P:Program}{w:World}{H:Hp}{a b:Addr}{kvs:List Ent}{k:List Itm}{v:V}(d:D2 P w H a kvs)(hk:K2 H k b):D2 P w (upd H a (d2O P w a (put2 kvs k b v))) a (put2 kvs k b v):=by
 have g:∀ c ys,H c=some (.tup ys)→upd H a (d2O P w a (put2 kvs k b v)) c=some (.tup ys):=fun c ys e=>by
  rw[ao (fun z=>by rw[z,d.1] at e;cases e)];exact e
 refine⟨ae,fun p hp=>?_⟩
 unfold put2 at hp
 split at hp
 ·obtain⟨q,hq,e⟩:=List.mem_map.mp hp
  have kq:=(d.2 q hq).keep g
  by_cases z:q.1=k
  ·rw[if_pos z] at e;subst e;exact kq
  ·rw[if_neg z] at e;subst e;exact kq
 ·rcases List.mem_append.mp hp with hp | hp
  ·exact(d.2 p hp).keep g
  ·rw[List.mem_singleton.mp hp];exact hk.keep g
end
theorem oB {X:Cx}{pins:List (Addr×Obj)}{σ:L2.St}{H:Hp}{s:Shared}{a:Addr}{kvs:List Ent}(I:Inv X pins σ H s)(d:D2 X.prog X.w H a kvs):s.TypeIs (.ref a) "dict":=by
 obtain⟨_,_,xs,_,dd⟩:=kC I.hok d
 exact dd.typeIs
noncomputable def zr (P:Program)(w:World):TE:=fun _ H Q=>∀ p,H p=none→Q (.ref p) (upd H p (d2O P w p []))
noncomputable def zt (P:Program)(w:World)(td ty:TE):TE:=fun σ H Q=>td σ H fun x H1=>ty σ H1 fun y H2=>∃ a b kvs k v,x=.ref a∧y=.ref b∧D2 P w H2 a kvs∧K2 H2 k b∧iE kvs k=some v∧Q v H2
noncomputable def vU (P:Program)(w:World)(td ty tv:TE):TS:=fun D σ H=>tv σ H fun v H1=>td σ H1 fun x H2=>ty σ H2 fun y H3=>∃ a b kvs k,x=.ref a∧y=.ref b∧D2 P w H3 a kvs∧K2 H3 k b∧kvs.length<sizeLine∧D.nx σ (upd H3 a (d2O P w a (put2 kvs k b v)))
section
variable {X:Cx}{o i e value:Expr}{pos pos' CL:Pos}{td ty tv:TE}
theorem yh:PE X (.Dict [] [] pos) (zr X.prog X.w):=fun pins s σ H Q I h =>
 wpAny_Dict_empty ⟨.ref s.heap.objs.size,_,I.laid (a:=s.heap.objs.size) (o:=d2O X.prog X.w s.heap.objs.size []) (t':=s.toks) (fun _ _ q=>Heap.get?_push_of_some _ q) (Nat.le_refl _)
  (d2P.ok ⟨Nat.zero_le _,beq_eq_false_iff_ne.mpr (Ne.symm (Nat.ne_of_lt I.big)),[],.nil,_,#[],0,Heap.get?_push_size _ rfl,⟨rfl,rfl,rfl⟩,rfl,rfl,List.nodup_nil⟩),rfl,h _ (I.hok.fresh (Nat.le_refl _))⟩
theorem yi (hu:X.A.units+2<cLine)(ho:PE X o td)(hi:PE X i ty)(hs:ve i):PE X (.Subscript o i pos) (zt X.prog X.w td ty):=by
 intro pins s σ H Q I h
 refine nZ PySem.F.slot_dict_getitem.lookup hs (thn (ho pins s σ H _ I h) fun u s1 ⟨x,H1,I1,rx,q1⟩=>thn (hi pins s1 σ H1 _ I1 q1) fun iv s2 ⟨y,H2,I2,ry,a,b,kvs,k,v,ex,ey,d,hk,l,q2⟩=>?_)
 subst ex ey
 obtain rfl:u=Value.ref a:=rx
 obtain rfl:iv=Value.ref b:=ry
 exact⟨oB I2 d,qT hu I2 d hk l fun w' s3 I3 rw'=>⟨v,H2,I3,rw',q2⟩⟩
theorem yj (hu:X.A.units+2<cLine)(ho:PE X o td)(hi:PE X i ty)(hv:PE X value tv)(hs:swapsWith value (some (.Subscript o i pos')) pos.line X.env=pure false) :
  PS X (.Assign [.Subscript o i pos'] value pos) (vU X.prog X.w td ty tv):=by
 intro pins s σ H D I h
 refine wpAny_Assign_Subscript (thn (hv pins s σ H _ I h) fun r s1 ⟨v,H1,I1,rv,q1⟩=>thn (ho pins s1 σ H1 _ I1 q1) fun u s2 ⟨x,H2,I2,rx,q2⟩=>thn (hi pins s2 σ H2 _ I2 q2) fun iv s3 ⟨y,H3,I3,ry,a,b,kvs,k,ex,ey,d,hk,l,q3⟩=>?_) hs
 subst ex ey
 obtain rfl:u=Value.ref a:=rx
 obtain rfl:iv=Value.ref b:=ry
 exact qU hu I3 d hk l rv fun s4 I4=>⟨σ,_,I4,q3⟩
end
end NK

namespace L2V
open PySem PySem.Spec PyProof.Rows PySem.W
noncomputable def DEx (h:Heap)(d:Addr)(es:Array DictEntry)(ep:Nat):Prop:=∃ o,h.get? d=some o∧o.cls=.type "dict"∧o.data=.dict es ep
section
variable {prog:Program}{w:World}{A:Around}{E:Value→Shared→Prop}{s:Shared}
theorem DEx.typeIs {d:Addr}{es:Array DictEntry}{ep:Nat}(x:DEx s.heap d es ep):s.TypeIs (.ref d) "dict":=let ⟨o,ho,hc,_⟩:=x;⟨o,ho,hc⟩
theorem uu {d:Addr}{es:Array DictEntry}{ep:Nat}{Q:Value→Shared→Prop}(hd:(d == sysModules)=false)(hm:DEx s.heap d es ep)
  (hQ:Q (.ref s.heap.objs.size) { s with heap:=s.heap.push { cls:=.type "dict_keyiterator",data:=.fields #[.ref d,.int 0 0,.int es.size 0,.int ep 0] } }):wpAny (model prog w) A (pyIter (.ref d)) Q E s:=by
 obtain⟨o,ho,hc,pL⟩:=id hm
 have hT:=hm.typeIs
 refine wpAny_pyIter_slot hT F.slot_dict_iter (wpAny_call_entry F.slot_dict_iter hT F.entry_dict_iter ?_ (F.args_dict_iter_1 _))
 unfold Builtin.«dict.__iter__»;refine wpAny_bind ?_;unfold Builtin.Dict.dictSlotNone;refine wpAny_bind (wpAny_notOrdered_dict hT ?_)
 show wpAny _ _ (pure (Value.ref d)) _ _ s;refine wpAny_pure ?_;show wpAny _ _ (Builtin.Dict.showsAll d >>= _) _ _ s;unfold Builtin.Dict.showsAll
 rw[if_neg (by rw[hd];exact Bool.false_ne_true)];refine wpAny_bind (wpAny_pure (wpAny_bind (wpAny_dictEntries ho pL (wpAny_bind (wpAny_dictEpoch ho pL ?_)))))
 refine wpAny_bind (wpAny_newObj_type (wpAny_pure ⟨_,rfl,"dict_keyiterator",_,⟨_,Heap.get?_push_size _ rfl,rfl⟩,F.slot_dict_keyiterator_next.lookup,?_⟩))
 simpa[rawInt] using hQ
theorem uv {it d:Addr}{i ep:Nat}{es:Array DictEntry}{Q:Option Value→Shared→Prop}(hit:s.heap.IsKeyIter it d i es.size ep)(hm:DEx s.heap d es ep)(hlt:i<es.size)
  (hQ:∀ h',h'.IsKeyIter it d (i+1) es.size ep→Heap.SameBut it s.heap h'→Q (some es[i].key) { s with heap:=h' }):wpAny (model prog w) A (pyNext (.ref it)) Q E s:=by
 obtain⟨o,ho,hc,hd⟩:=id hit
 obtain⟨od,hod,hcd,hdd⟩:=id hm
 unfold pyNext
 refine wpAny_bind (wpAny_attempt (wpAny_callSpecial?_slot (name:=Str.ofString "__next__") hit.typeIs F.slot_dict_keyiterator_next (wpAny_call_entry F.slot_dict_keyiterator_next hit.typeIs F.entry_dict_keyiterator_next ?_ (F.args_dict_keyiterator_next_1 _))))
 refine wpAny_bind (wpAny_pure (wpAny_bind (wpAny_bind ?_)))
 (first | refine wpAny_bind (wpAny_typeNameOfWhole_keyiter hit.typeIs (wpAny_pure ?_)) | refine wpAny_bind (wpAny_typeNameOf_keyiter hit.typeIs (wpAny_pure ?_)));refine wpAny_bind (wpAny_fieldsOf ho hd ?_)
 have oz:Builtin.Dict_items.ownsTuple "dict_keyiterator" = false:=by decide
 simp only[oz,Bool.false_eq_true,if_false];show wpAny _ _ (if (Value.ref d == Value.none)=true then _ else _) _ _ s
 rw[if_neg (show ¬ ((Value.ref d == Value.none)=true) from Bool.false_ne_true)];refine wpAny_bind (wpAny_pure (wpAny_bind (wpAny_dictEntries hod hdd ?_)))
 rw[if_neg (by simp)];refine wpAny_bind (wpAny_pure (wpAny_bind (wpAny_dictEpoch hod hdd ?_)));rw[if_neg (by simp)];refine wpAny_pure ?_
 simp only[show ¬ ((i:Int)<0) from by omega,if_false,Int.toNat_natCast,Array.getElem?_eq_getElem hlt];refine wpAny_bind ?_
 (first | refine wpAny_bind (wpAny_typeNameOfWhole_keyiter hit.typeIs (wpAny_pure ?_)) | refine wpAny_bind (wpAny_typeNameOf_keyiter hit.typeIs (wpAny_pure ?_)));refine wpAny_bind (wpAny_isOneOf_keyiter hit.typeIs ?_)
 show wpAny _ _ (setField (.ref it) 1 (rawInt ((i:Int)+1)) >>= _) _ _ s;refine wpAny_bind (wpAny_setField ho hd (by simp) ?_)
 have qP:(s.heap.update it (Obj.mapFields (·.setIfInBounds 1 (rawInt ((i:Int)+1))))).IsKeyIter it d (i+1) es.size ep:=⟨_,Heap.get?_update_self _ ho (Obj.isFreed_of_fields (Obj.data_mapFields hd _)),(Obj.cls_mapFields ..).trans hc,by rw[Obj.data_mapFields hd];simp[rawInt]⟩
 refine wpAny_bind (wpAny_holding ?_);refine wpAny_bind (wpAny_isOneOf_keyiter (s:={ s with heap:=s.heap.update it (Obj.mapFields (·.setIfInBounds 1 (rawInt ((i:Int)+1)))) }) qP.typeIs ?_)
 show wpAny _ _ (pure es[i].key) _ _ _;exact wpAny_pure (wpAny_pure ⟨_,rfl,wpAny_pure (hQ _ qP (Heap.SameBut.update ..))⟩)
theorem vV {it d:Addr}{ep:Nat}{es:Array DictEntry}{Q:Option Value→Shared→Prop}(hh:A.handled=none)(hit:s.heap.IsKeyIter it d es.size es.size ep)(hm:DEx s.heap d es ep)
  (hQ:∀ h',Heap.ExtBut it s.heap h'→Q none { s with heap:=h' }):wpAny (model prog w) A (pyNext (.ref it)) Q E s:=by
 obtain⟨o,ho,hc,hd⟩:=id hit
 obtain⟨od,hod,hcd,hdd⟩:=id hm
 unfold pyNext
 refine wpAny_bind (wpAny_attempt (wpAny_callSpecial?_slot (name:=Str.ofString "__next__") hit.typeIs F.slot_dict_keyiterator_next (wpAny_call_entry F.slot_dict_keyiterator_next hit.typeIs F.entry_dict_keyiterator_next ?_ (F.args_dict_keyiterator_next_1 _))))
 refine wpAny_bind (wpAny_pure (wpAny_bind (wpAny_bind ?_)))
 (first | refine wpAny_bind (wpAny_typeNameOfWhole_keyiter hit.typeIs (wpAny_pure ?_)) | refine wpAny_bind (wpAny_typeNameOf_keyiter hit.typeIs (wpAny_pure ?_)));refine wpAny_bind (wpAny_fieldsOf ho hd ?_)
 have oz:Builtin.Dict_items.ownsTuple "dict_keyiterator" = false:=by decide
 simp only[oz,Bool.false_eq_true,if_false];show wpAny _ _ (if (Value.ref d == Value.none)=true then _ else _) _ _ s
 rw[if_neg (show ¬ ((Value.ref d == Value.none)=true) from Bool.false_ne_true)];refine wpAny_bind (wpAny_pure (wpAny_bind (wpAny_dictEntries hod hdd ?_)))
 rw[if_neg (by simp)];refine wpAny_bind (wpAny_pure (wpAny_bind (wpAny_dictEpoch hod hdd ?_)));rw[if_neg (by simp)];refine wpAny_pure ?_
 simp only[show ¬ ((es.size:Int)<0) from by omega,if_false,Int.toNat_natCast,Array.getElem?_eq_none (Nat.le_refl es.size)];refine wpAny_bind ?_
 (first | refine wpAny_bind (wpAny_typeNameOfWhole_keyiter hit.typeIs (wpAny_pure ?_)) | refine wpAny_bind (wpAny_typeNameOf_keyiter hit.typeIs (wpAny_pure ?_)));show wpAny _ _ (setField (.ref it) 0 .none >>= _) _ _ s
 refine wpAny_bind (wpAny_setField ho hd (by simp) ?_);show wpAny _ _ (newExc (.type "StopIteration") [] >>= _) _ _ _;refine wpAny_bind ?_;simp only[newExc,newTuple]
 refine wpAny_bind (wpAny_newObj_type ?_ (by size_fits));refine wpAny_bind (m:=firstArgMember _ _) (wpAny_of_eq (a:=Value.none) (by first | rfl | (simp only[firstArgMember];rfl)) ?_);refine wpAny_newObj_type ?_ (by size_fits)
 simp only[raiseNew];refine wpAny_bind (wpAny_handled ?_);rw[show A.in1.handled=none from hh];refine wpAny_bind (wpAny_pure (wpAny_throw ?_))
 refine wpAny_bind (wpAny_isInstance (T:="StopIteration") (b:=true) ⟨_,Heap.get?_push_size _ rfl,rfl⟩ isSubtype_stop ?_);exact wpAny_pure (hQ _ (((Heap.SameBut.update ..).extBut.push _).push _))
end
end L2V


namespace L2
open PySem PySem.Spec PyProof.Rows
theorem vW:bootBuiltins "max" = some (.builtin "max"):=by decide +kernel
end L2

namespace L2
open PySem PySem.Spec PyProof.Rows
section
variable {X:Cx}
theorem uw {s:Shared}{A:Around}{ns ms:List Int}{i1 i2:List Value}(r1:Vals (ns.map V.int) i1)(r2:Vals (ms.map V.int) i2)(j:Nat)(h1:j<i1.toArray.size)(h2:j<i2.toArray.size) :
  SeqAt.EqAt A.in1 s i1.toArray[j] i2.toArray[j] (ns.getD j 0 == ms.getD j 0):=by
 have l1:ns.length=i1.length:=by have z:=r1.length;rwa[List.length_map] at z
 have l2:ms.length=i2.length:=by have z:=r2.length;rwa[List.length_map] at z
 have hj:j<ns.length:=by simp only[List.size_toArray] at h1;omega
 have hj2:j<ms.length:=by simp only[List.size_toArray] at h2;omega
 obtain⟨x1,e1,t1⟩:=fE r1 h1
 obtain⟨x2,e2,t2⟩:=fE r2 h2
 rw[List.getElem?_map,List.getElem?_eq_getElem hj] at e1
 rw[List.getElem?_map,List.getElem?_eq_getElem hj2] at e2
 obtain rfl:=Option.some.inj e1
 obtain rfl:=Option.some.inj e2
 obtain⟨k1,q1⟩:=t1
 obtain⟨k2,q2⟩:=t2
 rw[q1,q2]
 have g1:ns.getD j 0=ns[j]:=by simp[List.getD,List.getElem?_eq_getElem hj]
 have g2:ms.getD j 0=ms[j]:=by simp[List.getD,List.getElem?_eq_getElem hj2]
 rw[g1,g2]
 exact SeqAt.EqAt.int_int (A:=A.in1) (s:=s) ns[j] k1 ms[j] k2
theorem qV {ns ms:List Int}{i1 i2:List Value}(r1:Vals (ns.map V.int) i1)(r2:Vals (ms.map V.int) i2) :
  ((List.range (min i1.toArray.size i2.toArray.size)).all (fun j=>ns.getD j 0 == ms.getD j 0)&&i1.toArray.size == i2.toArray.size)=decide (ns=ms):=by
 have l1:ns.length=i1.length:=by have z:=r1.length;rwa[List.length_map] at z
 have l2:ms.length=i2.length:=by have z:=r2.length;rwa[List.length_map] at z
 by_cases c:ns=ms
 ·subst c
  rw[decide_eq_true rfl,Bool.and_eq_true]
  exact⟨List.all_eq_true.mpr fun _ _=>beq_self_eq_true _,by simp only[List.size_toArray,← l1,← l2];exact beq_self_eq_true _⟩
 ·rw[decide_eq_false c]
  refine Bool.eq_false_iff.mpr fun z=>c ?_
  rw[Bool.and_eq_true] at z
  have hl:ns.length=ms.length:=by have z2:=eq_of_beq z.2;simp only[List.size_toArray] at z2;omega
  refine List.ext_getElem hl fun j q1 q2=>?_
  have z2:=List.all_eq_true.mp z.1 j (List.mem_range.mpr (by simp only[List.size_toArray];omega))
  have g1:ns.getD j 0=ns[j]:=by simp[List.getD,List.getElem?_eq_getElem q1]
  have g2:ms.getD j 0=ms[j]:=by simp[List.getD,List.getElem?_eq_getElem q2]
  rw[← g1,← g2]
  exact eq_of_beq z2
end
end L2
namespace L2E
open PySem AutoSeq1 MeetsSeq
theorem tuple_addW0 (l b:Addr)(items Av:Array Value)(n n2:Nat)(dd dd2:Option Addr)(sl sl2:Array (Option Value))(hc0:items.isEmpty=true) :
  Meets (Builtin.«tuple.__add__» ⟨[.ref l,.ref b],[]⟩) (fun _ R s=>s.heap.get? l=some { cls:=.type "tuple",dict:=dd,data:=.seq items n,slots:=sl }∧s.heap.get? b=some { cls:=.type "tuple",dict:=dd2,data:=.seq Av n2,slots:=sl2 }∧R (.ok (.ret (Value.ref b))) s) :=
 .of_wp fun prog w A R s h=>by obtain⟨hp,g,d,tk,os⟩:=s;obtain⟨hl,hb,h⟩:=h;have f1:=idx_int;have f2:=sub_tuple_tuple;have f3:=sub_list_list;have f4:=sub_tuple_list;have f5:=sub_list_tuple;wp_walk using wpAny_loadPart' hl,wpAny_loadPart' hb;exact⟨_,rfl,h⟩
end L2E
namespace L2
open PySem PySem.Spec PyProof.Rows
section
variable {X:Cx}
noncomputable def Aw (K:PySem.W.Frag):R2:=fun x y H Q=>∃ a b xs ys,x=.ref a∧y=.ref b∧SqT K H a xs∧SqT K H b ys∧ys≠[]∧xs.length+ys.length≤sizeLine ∧
 (xs=[]→Q (.ref b) H)∧(xs≠[]→∀ p,H p=none→Q (.ref p) (upd H p (.tup (xs++ys))))
theorem vX:OpR X (binaryOp .Add) (Aw X.K):=by
 intro pins s σ H x y v u Q I rx ry h
 obtain⟨a,b,xs,ys,ex,ey,ha,hb,hy,hz,q1,q2⟩:=h
 by_cases hx:xs=[]
 ·subst ex ey
  cases rx
  cases ry
  obtain⟨its,r1,p1,_⟩:=I.tuple ha
  obtain⟨kJ,r2,p2,_⟩:=I.tuple hb
  obtain⟨⟨cls,dd,data,sl⟩,ho,hc,n,hd⟩:=id p1
  obtain⟨⟨BA,dd2,data2,sl2⟩,ho2,hc2,n2,hd2⟩:=id p2
  simp only at hc hd hc2 hd2
  subst hc hd hc2 hd2
  have e:its=[]:=r1.je.mpr hx
  exact concat_meets ⟨_,ho,rfl⟩ ⟨_,ho2,rfl⟩ noFill_tuple_add seq_tuple_add PySem.F.slot_tuple_add PySem.F.entry_tuple_add (PySem.F.args_tuple_add_2 _ _)
   (L2E.tuple_addW0 a b its.toArray kJ.toArray n n2 dd dd2 sl sl2 (by rw[e];rfl)) ⟨ho,ho2,⟨.ref b,H,I,rfl,q1 hx⟩⟩
 ·exact sm pins s σ H x y v u Q I rx ry ⟨a,b,xs,ys,ex,ey,ha,hb,hx,hz,fun z=>absurd z hy,fun _=>q2 hx⟩
end
end L2

namespace Mir
open PySem L2

theorem take_snoc {α:Type}{l:List α}{i:Nat}{x:α}(h:l[i]?=some x):l.take (i+1)=l.take i++[x]:=by
 rw[List.take_add_one,h];rfl
noncomputable def sC:Sp:=fun vs H Q _=>∃ e:Int,vs=[.int e]∧Q (.bl true) H
end Mir


namespace Mir
open PySem L2
noncomputable def lu (K:PySem.W.Frag):Sp:=fun vs H Q _=>∃ (a:Addr) (ns:List Int) (k:Nat),vs=[.ref a,.int k]∧SqL K H a (ns.map V.int)∧∀ i:Int,Q (.int i) H
end Mir




namespace Mir
open PySem L2
noncomputable def iV (ns:List Int):List V:=ns.map V.int
theorem aK (ns:List Int):(iV ns).length=ns.length:=by unfold iV;rw[List.length_map]
theorem Ax {ns:List Int}{i:Nat}{m:Int}(h:ns[i]?=some m):(iV ns)[i]?=some (.int m):=by unfold iV;rw[List.getElem?_map,h];rfl
theorem gA {ns:List Int}{i:Nat}{x:V}(h:(iV ns)[i]?=some x):∃ m,ns[i]?=some m∧x=.int m:=by
 unfold iV at h
 rw[List.getElem?_map] at h
 cases e:ns[i]? with
 | none=>rw[e] at h;cases h
 | some m=>rw[e] at h;exact⟨m,rfl,(Option.some.inj h).symm⟩
theorem jm {xs:List V}{k:Nat}(h:k≤xs.length):jd xs (some (k:Int)) none=xs.drop k:=by
 unfold jd
 have e1:HT.sIx xs.length 0 (some (k:Int))=k:=by unfold HT.sIx;simp only;rw[if_neg (by omega),Int.toNat_natCast];omega
 have e2:HT.sIx xs.length xs.length none=xs.length:=rfl
 rw[e1,e2]
 exact List.take_of_length_le (by rw[List.length_drop];omega)
theorem jZ {xs:List V}{k:Nat}(h:k≤xs.length):jd xs none (some (k:Int))=xs.take k:=by
 unfold jd
 have e1:HT.sIx xs.length xs.length (some (k:Int))=k:=by unfold HT.sIx;simp only;rw[if_neg (by omega),Int.toNat_natCast];omega
 have e2:HT.sIx xs.length 0 none=0:=rfl
 rw[e1,e2]
 rfl
end Mir

namespace L2
open PySem PySem.Spec PyProof.Rows
theorem fm:∀ {ts:List Addr} {its:List Value},Vals (ts.map V.ref) its→its=ts.map Value.ref
 | [],_,.nil=>rfl
 | t::ts,_,.cons h r=>by rw[fm r];cases h;rfl
end L2

namespace NK
open PySem PySem.Spec PyProof.Rows L2
noncomputable instance Ea {k:List Itm} {ks:List (List Itm)}:Decidable (k∈ks):=decidable_of_iff (ks.any (fun x=>decide (x=k))=true) (by simp)
noncomputable def sD (H:Hp):Hp:=fun b=>match H b with
 | some (.tup xs)=>some (.tup xs)
 | _=>none
theorem m7 {H:Hp}{b:Addr}{xs:List V}(e:H b=some (.tup xs)):sD H b=some (.tup xs):=by unfold sD;rw[e]
theorem pM {P P':Program}{w w':World}{H:Hp}{h:Heap}(ok:HOk P w H h):HOk P' w' (sD H) h:=fun b o e=>by
 unfold sD at e
 split at e
 ·next xs hx =>
  cases e
  exact(show bb P w H h b (.tup xs) from ok b _ hx)
 ·cases e
theorem vY {P P':Program}{w w':World}{H:Hp}{h:Heap}{k:List Itm}{b:Addr}(ok:HOk P w H h)(q:K2 H k b):Is2 P' w' h k b :=
 kB (pM (P':=P') (w':=w') ok) (q.keep fun c ys e=>m7 e)
section
variable {X:Cx}{pins:List (Addr×Obj)}{σ:L2.St}{H:Hp}{s:Shared}{A:Around}
theorem BQ (I:Inv X pins σ H s)(hu:A.units+1<cLine){x y:List Itm}{a b:Addr}(hx:K2 H x a)(hy:K2 H y b):SeqAt.EqAt A s (.ref a) (.ref b) (decide (x=y)):=fun prog w' E Q hq =>
 vS (P:=prog) (w:=w') hu (vY I.hok hx) (vY I.hok hy) hq
theorem BR (I:Inv X pins σ H s)(hu:A.units<cLine){x y:Itm}{u v:Value}(hx:∀ P w,mG P w s.heap x u)(hy:∀ P w,mG P w s.heap y v):SeqAt.EqAt A s u v (decide (x=y)):=fun prog w' E Q hq =>
 zq (P:=prog) (w:=w') hu (hx _ _) (hy _ _) hq
end
noncomputable def Ths (H:Hp)(l:Addr)(ks:List (List Itm)):Prop:=∃ bs:List Addr,H l=some (.lst (bs.map V.ref))∧bs.length=ks.length∧∀ (i:Nat) (b:Addr) (k:List Itm),bs[i]?=some b→ks[i]?=some k→K2 H k b
section
variable {X:Cx}
theorem K2.inj {H:Hp}{x y:List Itm}{b:Addr}(hx:K2 H x b)(hy:K2 H y b):x=y:=by
 obtain⟨vs,e1,r1⟩:=hx
 obtain⟨ws,e2,r2⟩:=hy
 rw[e1] at e2
 cases e2
 clear e1
 induction r1 generalizing y with
 | nil=>cases r2;rfl
 | @cons k v ks vs h t ih =>
  cases r2 with
  | @cons k' _ ks' _ h' t' =>
   rw[ih t']
   congr 1
   cases k with
   | inl a =>
    cases k' with
    | inl a' =>
     have h:v=kV a:=h
     have h':v=kV a':=h'
     congr 1
     have z:=h.symm.trans h'
     cases a <;> cases a' <;> cases z <;> rfl
    | inr l' =>
     have h:v=kV a:=h
     obtain⟨c,e,_⟩:=h'
     cases a <;> (rw[h] at e;cases e)
   | inr l =>
    obtain⟨c,e,q⟩:=h
    cases k' with
    | inl a' =>
     have h':v=kV a':=h'
     cases a' <;> (rw[h'] at e;cases e)
    | inr l' =>
     obtain⟨c',e',q'⟩:=h'
     cases e.symm.trans e'
     rw[q] at q'
     injection q' with q'
     injection q' with q'
     congr 1
     have inj:∀ a b:Key,kV a=kV b→a=b:=fun a b z=>by cases a <;> cases b <;> cases z <;> rfl
     exact(List.map_inj_right (f:=kV) inj).mp q'
open Classical in
noncomputable def qW (H:Hp)(b:Addr):List Itm:=if h:∃ k,K2 H k b then h.choose else []
theorem jn {H:Hp}{k:List Itm}{b:Addr}(h:K2 H k b):qW H b=k:=by
 have e:∃ k,K2 H k b:=⟨k,h⟩
 unfold qW
 rw[dif_pos e]
 exact K2.inj e.choose_spec h
open Classical in
noncomputable def eqK (H:Hp)(k:List Itm):Value→Bool
 | .ref b=>decide (qW H b=k)
 | _=>false
noncomputable def BS (neg:Bool):R2:=fun x y H Q=>∃ (b l:Addr) (k:List Itm) (ks:List (List Itm)),x=.ref b∧y=.ref l∧K2 H k b∧Ths H l ks∧Q (.bl (neg != decide (k∈ks))) H
theorem Ths.any {H:Hp}{l b:Addr}{k:List Itm}{ks:List (List Itm)}{bs:List Addr}(h2:bs.length=ks.length)(h3:∀ (i:Nat) (b:Addr) (k:List Itm),bs[i]?=some b→ks[i]?=some k→K2 H k b):(bs.map Value.ref).toArray.any (eqK H k)=decide (k∈ks):=by
 rw[show (bs.map Value.ref).toArray.any (eqK H k)=(bs.map Value.ref).any (eqK H k) by simp,Bool.eq_iff_iff,List.any_eq_true,decide_eq_true_iff]
 constructor
 ·rintro⟨v,hv,hz⟩
  obtain⟨c,hc,rfl⟩:=List.mem_map.mp hv
  obtain⟨i,hi,rfl⟩:=List.getElem_of_mem hc
  have e:=h3 i _ _ (List.getElem?_eq_getElem hi) (List.getElem?_eq_getElem (by omega))
  have hz:qW H bs[i]=k:=of_decide_eq_true hz
  rw[jn e] at hz
  rw[← hz]
  exact List.getElem_mem _
 ·intro hk
  obtain⟨i,hi,rfl⟩:=List.getElem_of_mem hk
  have e:=h3 i _ _ (List.getElem?_eq_getElem (show i<bs.length by omega)) (List.getElem?_eq_getElem hi)
  exact⟨_,List.mem_map.mpr ⟨_,List.getElem_mem _,rfl⟩,decide_eq_true (jn e)⟩
theorem Ths.eqs {pins:List (Addr×Obj)}{σ:L2.St}{H:Hp}{s:Shared}(I:Inv X pins σ H s){A:Around}(hu:A.units+1<cLine){b:Addr}{k:List Itm}{ks:List (List Itm)}{bs:List Addr}(hk:K2 H k b)(h2:bs.length=ks.length)(h3:∀ (i:Nat) (b:Addr) (k:List Itm),bs[i]?=some b→ks[i]?=some k→K2 H k b) :
  ∀ v,v∈(bs.map Value.ref).toArray→SeqAt.EqAt A s v (.ref b) (eqK H k v):=fun v hv=>by
 obtain⟨c,hc,rfl⟩:=List.mem_map.mp (show v∈bs.map Value.ref by simpa using hv)
 obtain⟨i,hi,rfl⟩:=List.getElem_of_mem hc
 have e:=h3 i _ _ (List.getElem?_eq_getElem hi) (List.getElem?_eq_getElem (by omega))
 have z:=BQ (A:=A) I hu e hk
 show SeqAt.EqAt _ _ _ _ (decide (qW H bs[i]=k))
 rw[jn e]
 have q:∀ (p:Prop) (d1 d2:Decidable p),@decide p d1=@decide p d2:=fun p d1 d2=>by congr
 rw[q _ _ (instDecidableEqList _ _)]
 rw[q _ (instDecidableEqList _ _) (instDecidableEqList _ _)] at z
 exact z
theorem oC (hu:X.A.units+2<cLine):OpR X (compareOp .In) (BS false):=by
 intro pins s σ H x y v u Q I rx ry h
 obtain⟨b,l,k,ks,rfl,rfl,hk,⟨bs,h1,h2,h3⟩,q⟩:=h
 cases rx
 cases ry
 obtain⟨its,r,pl,hz⟩:=I.list (SqL.of h1)
 have er:its=bs.map Value.ref:=fm r
 subst er
 refine SeqAt.in_listAt (eqK H k) pl.isList (Ths.eqs I (by show X.A.units+1+1<cLine;omega) hk h2 h3) ⟨.bl _,H,I,rfl,?_⟩
 rw[Ths.any (l:=l) (b:=b) h2 h3]
 have:(false != decide (k∈ks))=decide (k∈ks):=by cases decide (k∈ks) <;> rfl
 rw[← this]
 exact q
theorem j3 (hu:X.A.units+2<cLine):OpR X (compareOp .NotIn) (BS true):=by
 intro pins s σ H x y v u Q I rx ry h
 obtain⟨b,l,k,ks,rfl,rfl,hk,⟨bs,h1,h2,h3⟩,q⟩:=h
 cases rx
 cases ry
 obtain⟨its,r,pl,hz⟩:=I.list (SqL.of h1)
 have er:its=bs.map Value.ref:=fm r
 subst er
 refine SeqAt.notIn_listAt (eqK H k) pl.isList (Ths.eqs I (by show X.A.units+1+1<cLine;omega) hk h2 h3) ⟨.bl _,H,I,rfl,?_⟩
 rw[Ths.any (l:=l) (b:=b) h2 h3]
 have:(true != decide (k∈ks))=!decide (k∈ks):=by cases decide (k∈ks) <;> rfl
 rw[← this]
 exact q
end
end NK

namespace NK
open PySem PySem.Spec PyProof.Rows L2
open AutoSeq1 (wpAny_loadPart')
open MeetsSeq MeetsSeq2 MeetsSeq3 SeqRoads2
theorem yk (l:Addr)(its:Array Value)(n:Nat)(x:Value)(e:Value→Bool)(j:Nat)(hj:j<its.size)(hit:e its[j]=true)(hz:its.size≤sizeLine)(m:Nat) :
  ∀ i:Nat,j-i=m→i≤j→(∀ q (hq:q<its.size),i≤q→q<j→e its[q]=false)→Meets (Builtin.«list.remove.loop» ⟨[.ref l,x,rawInt i],[]⟩)
   (fun A R s=>s.heap.get? l=some { cls:=.type "list",dict:=none,data:=.seq its n,slots:=#[] }∧(∀ y,y∈its→SeqAt.EqAt A.in1 s y x (e y))∧R (.ok (.ret .none)) { s with heap:=s.heap.update l (Obj.mapSeq fun xs=>xs.eraseIdxIfInBounds j) }):=by
 induction m with
 | zero =>
  intro i hm hle _ P w A R s ⟨hl,he,hR⟩
  obtain⟨s1,s2,s3,s4,s5⟩:=s
  obtain rfl:i=j:=by omega
  wp_walk using wpAny_loadPart' hl
  rw[show its[((i:Nat):Int).toNat]?=some its[i] by simp[hj]]
  refine wpAny_bind (he its[i] (Array.getElem_mem hj) P w _ _ ?_)
  rw[hit]
  have z2:(its.eraseIdxIfInBounds i).size≤sizeLine+1:=Nat.le_succ_of_le (Nat.le_trans (by simp[Array.eraseIdxIfInBounds,hj]) hz)
  wp_walk using (wpAny_updateSeq hl rfl (hz:=hz) (_hz':=z2)),wpAny_loadPart' hl
  simpa using hR
 | succ m ih =>
  intro i hm hle no P w A R s ⟨hl,he,hR⟩
  obtain⟨s1,s2,s3,s4,s5⟩:=s
  have lt:i<its.size:=by omega
  wp_walk using wpAny_loadPart' hl
  rw[show its[((i:Nat):Int).toNat]?=some its[i] by simp[lt]]
  refine wpAny_bind (he its[i] (Array.getElem_mem lt) P w _ _ ?_)
  rw[no i lt (Nat.le_refl _) (by omega)]
  wp_walk
  rw[show ((i:Int)+1)=((i+1:Nat):Int) by push_cast;rfl]
  refine⟨plainId_quiet plain_remove_loop _,codeAny_builtin entry_remove_loop ?_⟩
  rw[Around.under_plainId plain_remove_loop _]
  exact ih (i+1) (by omega) (by omega) (fun q hq h1 h2=>no q hq (by omega) h2) P w A R _ ⟨hl,he,hR⟩
theorem ym (l:Addr)(its:Array Value)(n:Nat)(x:Value)(e:Value→Bool)(j:Nat)(hj:j<its.size)(hit:e its[j]=true)(no:∀ q (hq:q<its.size),q<j→e its[q]=false)(hz:its.size≤sizeLine) :
  Meets (Builtin.«list.remove» ⟨[.ref l,x],[]⟩)
   (fun A R s=>s.heap.get? l=some { cls:=.type "list",dict:=none,data:=.seq its n,slots:=#[] }∧(∀ y,y∈its→SeqAt.EqAt A.in1 s y x (e y))∧R (.ok (.ret .none)) { s with heap:=s.heap.update l (Obj.mapSeq fun xs=>xs.eraseIdxIfInBounds j) }):=by
 intro P w A R s ⟨hl,he,hR⟩
 obtain⟨s1,s2,s3,s4,s5⟩:=s
 wp_walk using wpAny_loadPart' hl
 refine⟨plainId_quiet plain_remove_loop _,codeAny_builtin entry_remove_loop ?_⟩
 rw[Around.under_plainId plain_remove_loop _]
 exact yk l its n x e j hj hit hz _ 0 rfl (Nat.zero_le _) (fun q hq _ h2=>no q hq h2) P w A R _ ⟨hl,he,hR⟩
section
variable {X:Cx}
theorem da {α β:Type}(f:α→β):∀ (l:List α) (j:Nat),(l.map f).eraseIdx j=(l.eraseIdx j).map f
 | [],_=>rfl
 | _::_,0=>rfl
 | a::r,j+1=>by
  show f a::(r.map f).eraseIdx j=f a::(r.eraseIdx j).map f
  rw[da f r j]
noncomputable def C3:V→List V→Hp→VK→Prop:=fun x vs H Q=>∃ (l b:Addr) (k:List Itm) (ks:List (List Itm)) (bs:List Addr) (j:Nat),x=.ref l∧vs=[.ref b]∧K2 H k b∧H l=some (.lst (bs.map V.ref))∧bs.length=ks.length∧(∀ (i:Nat) (b:Addr) (k:List Itm),bs[i]?=some b→ks[i]?=some k→K2 H k b)∧ks[j]?=some k∧(∀ i,i<j→ks[i]?≠some k)∧Q .non (upd H l (.lst ((bs.eraseIdx j).map V.ref)))
theorem Ay (hu:X.A.units+2<cLine):MtM X "list.remove" C3:=by
 intro pins s σ H x vs v us Q I rx rv h
 obtain⟨l,b,k,ks,bs,j,rfl,rfl,hk,hH,h2,h3,hm,hno,q⟩:=h
 cases rx
 obtain⟨u,rfl,ru⟩:=rv.one
 cases ru
 obtain⟨z,its,n,r,hl,e⟩:=I.pG hH
 have er:its=bs.map Value.ref:=fm r
 subst er
 have hj:j<ks.length:=(List.getElem?_eq_some_iff.mp hm).1
 have at_:∀ i (hi:i<ks.length),eqK H k ((bs.map Value.ref).toArray[i]'(by simp;omega))=decide (ks[i]=k):=fun i hi=>by
  have e:=h3 i _ _ (List.getElem?_eq_getElem (show i<bs.length by omega)) (List.getElem?_eq_getElem hi)
  have e2:(bs.map Value.ref).toArray[i]'(by simp;omega)=Value.ref (bs[i]'(by omega)):=by simp
  rw[e2]
  show decide (qW H _=k)=_
  rw[jn e]
 refine call_meets F.slot_list_remove ⟨_,e,rfl⟩ F.entry_list_remove (F.args_list_remove_2 _ _) (ym l (bs.map Value.ref).toArray n (.ref b) (eqK H k) j (by simp;omega) ?_ ?_ (by rw[List.size_toArray];rw[List.length_map] at z ⊢;exact z)) ⟨e,Ths.eqs I (by show X.A.units+1+1<cLine;omega) hk h2 h3,?_⟩
 ·rw[at_ _ hj]
  exact decide_eq_true ((List.getElem?_eq_some_iff.mp hm).2)
 ·intro i hi hlt
  rw[at_ _ (by omega)]
  exact decide_eq_false fun c=>hno i hlt (by rw[List.getElem?_eq_getElem (by omega),c])
 ·refine⟨.non,_,I.Ad (its':=(bs.eraseIdx j).map Value.ref) hH e ?_ ?_ ?_,rfl,q⟩
  ·simp only[List.eraseIdxIfInBounds_toArray,da]
  ·rw[← da,← da]
   exact r.eraseIdx _
  ·rw[List.length_map]
   have:=m4 bs j
   rw[List.length_map] at z
   omega
end
section
variable {prog:Program}{w:World}{A:Around}{E:Value→Shared→Prop}{s:Shared}{K:Type}[DecidableEq K]{knd:HeapKind prog w K}
noncomputable def qX (xs:List (K×Addr×Value))(k:K):List (K×Addr×Value):=xs.filter fun x=>decide (x.1≠k)
theorem erase_filter {α:Type}{β:Type}[DecidableEq β](f:α→β)(k:β):∀ (xs:List α) (j:Nat) (x:α),(xs.map f).Nodup→xs[j]?=some x→f x=k→xs.eraseIdx j=xs.filter fun y=>decide (f y≠k)
 | [],j,x,_,h,_=>by simp at h
 | y::r,0,x,hn,h,e=>by
  cases h
  rw[List.filter_cons_of_neg (by simp[e])]
  show r=_
  refine(List.filter_eq_self.mpr fun z hz=>?_).symm
  rw[List.map_cons,List.nodup_cons] at hn
  exact decide_eq_true fun c=>hn.1 (by rw[e,← c];exact List.mem_map_of_mem hz)
 | y::r,j+1,x,hn,h,e=>by
  rw[List.map_cons,List.nodup_cons] at hn
  have h':r[j]?=some x:=h
  have ne:f y≠k:=fun c=>hn.1 (by rw[c,← e];exact List.mem_map_of_mem (List.mem_of_getElem? h'))
  rw[List.filter_cons_of_pos (by simp[ne])]
  show y::r.eraseIdx j=_
  rw[erase_filter f k r j x hn.2 h' e]
theorem ux (d a:Addr)(k:K):MeetsIn prog w (Builtin.«dict.pop» ⟨[.ref d,.ref a],[]⟩) (fun A R s=>∃ xs v,knd.room A.in1∧knd.is s.heap k a∧s.heap.DictOfH knd d xs∧xs.length≤sizeLine∧(∃ (b:Addr) (j:Nat),xs[j]?=some (k,b,v)) ∧
  ∀ h',h'.DictOfH knd d (qX xs k)→Heap.SameBut d s.heap h'→R (.ok (.ret v)) { s with heap:=h',toks:=s.toks+knd.draws k }) :=
 .of_wp fun A R s ⟨xs,v,hu,mz,hm,hsz,⟨b,j,hj⟩,hR⟩=>by
  obtain⟨o,es,ep,ho,hc,hd,he,his,hn⟩:=id hm
  have hes:es.size≤sizeLine:=by rw[size_of_entries he];exact hsz
  have hjx:j<xs.length:=(List.getElem?_eq_some_iff.mp hj).1
  unfold Builtin.«dict.pop»
  refine wpAny_bind ?_
  unfold Builtin.Dict.keyAndDefault
  refine wpAny_bind (wpAny_notOrdered_dict hm.typeIs ?_)
  show wpAny _ _ (pure (d,Value.ref a,none)) _ _ s
  refine wpAny_pure ?_
  dsimp only
  rw[if_neg (show ¬ (keyPart (Value.ref a)).isSome=true from Bool.false_ne_true)]
  have ne:es.isEmpty=false:=by
   rw[Array.isEmpty_eq_false_iff]
   intro z
   have:=size_of_entries he
   rw[z] at this
   simp at this
   omega
  refine wpAny_bind (wpAny_dictEntries ho hd (wpAny_bind (wpAny_pure ?_)))
  rw[ne]
  simp only[Bool.false_eq_true,if_false]
  refine wpAny_bind ?_
  unfold Builtin.Dict.takeOut
  try with_reducible refine wpAny_holding ?_
  refine wpAny_bind (knd.pyHash hu mz (wpAny_bind (wpAny_dictFind_heap (s:={ s with toks:=s.toks+knd.draws k }) hu mz ho hd he his hn (fun no=>absurd hj (no j _)) ?_)))
  intro i p hi
  obtain rfl:i=j:=idxH_unique hn hi hj
  cases hi.symm.trans hj
  refine wpAny_bind (wpAny_dictEntries (s:={ s with toks:=s.toks+knd.draws k }) ho hd ?_)
  rw[entry_at he i,hj]
  refine wpAny_bind (wpAny_updateDictKeys (hz:=hes) (s:={ s with toks:=s.toks+knd.draws k }) ho hd (wpAny_pure ?_))
  simp only[Option.isNone_some,Bool.false_eq_true,if_false]
  refine wpAny_bind (wpAny_letGo (wpAny_pure ⟨v,rfl,hR _ ⟨_,_,ep+1,Heap.get?_update_self _ ho (Obj.isFreed_of_dict (Obj.data_mapDictKeys hd _)),hc.mapDictKeys _,Obj.data_mapDictKeys hd _,?_,?_,?_⟩ (Heap.SameBut.update ..)⟩))
  ·have e1:(es.eraseIdxIfInBounds i).toList=es.toList.eraseIdx i:=by
    obtain⟨l⟩:=es
    simp
   rw[e1,he,da,erase_filter (fun x:K×Addr×Value=>x.1) k xs i _ hn hj rfl]
   rfl
  ·exact fun x hx=>knd.keeps (his x (List.mem_filter.mp hx).1) ho hd (Heap.SameBut.update ..)
  ·exact hn.sublist ((List.filter_sublist).map _)
end
section
variable {X:Cx}
noncomputable def gZ (kvs:List Ent)(k:List Itm):List Ent:=kvs.filter fun x=>decide (x.1≠k)
theorem yn {kvs:List Ent}{xs:List (List Itm×Addr×Value)}(r:Paired RE kvs xs)(k:List Itm):Paired RE (gZ kvs k) (qX xs k):=by
 induction r with
 | nil=>exact .nil
 | @cons p q ps qs h t ih =>
  unfold gZ qX
  by_cases e:p.1=k
  ·rw[List.filter_cons_of_neg (by simp[e]),List.filter_cons_of_neg (by simp[← h.1,e])]
   exact ih
  ·rw[List.filter_cons_of_pos (by simp[e]),List.filter_cons_of_pos (by simp[← h.1,e])]
   exact .cons h ih
theorem vZ {kvs:List Ent}{xs:List (List Itm×Addr×Value)}(r:Paired RE kvs xs):∀ {j:Nat} {k:List Itm} {b:Addr} {v:V},kvs[j]?=some (k,b,v)→∃ u,xs[j]?=some (k,b,u)∧RelV v u:=by
 induction r with
 | nil=>intro j k b v h;simp at h
 | @cons p q ps qs h t ih =>
  intro j k b v hj
  cases j with
  | zero =>
   cases hj
   obtain⟨q1,q2,q3⟩:=q
   obtain⟨h1,h2,h3⟩:=h
   cases h1
   cases h2
   exact⟨q3,rfl,h3⟩
  | succ j=>exact ih hj
noncomputable def zu (P:Program)(w:World):V→List V→Hp→VK→Prop:=fun x vs H Q=>∃ (a c:Addr) (kvs:List Ent) (k:List Itm) (v:V),x=.ref a∧vs=[.ref c]∧D2 P w H a kvs∧K2 H k c∧(∃ (b:Addr) (j:Nat),kvs[j]?=some (k,b,v))∧Q v (upd H a (d2O P w a (gZ kvs k)))
theorem yo (hu:X.A.units+2<cLine):MtM X "dict.pop" (zu X.prog X.w):=by
 intro pins s σ H x vs v us Q I rx rv h
 obtain⟨a,c,kvs,k,y,rfl,rfl,d,hk,⟨b,j,hj⟩,q⟩:=h
 cases rx
 obtain⟨u,rfl,ru⟩:=rv.one
 cases ru
 obtain⟨z,hd,xs,rel,dd⟩:=kC I.hok d
 obtain⟨u,hu',ruv⟩:=vZ rel hj
 have hz:xs.length≤sizeLine:=by rw[← Paired.length rel];exact z
 refine call_meetsIn F.slot_dict_pop dd.typeIs F.entry_dict_pop (F.args_dict_pop_2 _ _) (ux (knd:=fS X.prog X.w) a c k) ⟨xs,u,gY hu,kB I.hok hk,dd,hz,⟨b,j,hu'⟩,fun h' dd' hs=>?_⟩
 obtain⟨o,es,ep,ho,h2,h3,h4,_,h5⟩:=dd'
 have hl:(gZ kvs k).length≤sizeLine:=Nat.le_trans (List.length_filter_le _ _) z
 exact⟨y,_,ip I (by rw[d.1];exact True.intro) hs ⟨o,ho⟩ (d2P.ok ⟨hl,hd,_,yn rel k,o,es,ep,ho,h2,h3,h4,h5⟩),ruv,q⟩
theorem D2.drop {P:Program}{w:World}{H:Hp}{a:Addr}{kvs:List Ent}{k:List Itm}(d:D2 P w H a kvs):D2 P w (upd H a (d2O P w a (gZ kvs k))) a (gZ kvs k) :=
 ⟨ae,fun p hp=>(d.2 p (List.mem_filter.mp hp).1).keep fun c ys e=>by rw[ao (fun z=>by rw[z,d.1] at e;cases e)];exact e⟩
end
end NK

namespace NK
open PySem PySem.Spec PyProof.Rows L2 L2V
section
variable {X:Cx}{pins:List (Addr×Obj)}{σ:L2.St}{H:Hp}{s:Shared}{a b:Addr}{kvs:List Ent}{k:List Itm}{v:V}{o:Obj}{A:Around}{E:Value→Shared→Prop}
noncomputable def d2F (P:Program)(w:World)(a:Addr)(kvs:List Ent)(o:Obj):HO:=.ext fun h=>h.get? a=some o∧d2P P w a kvs h
noncomputable def D2f (P:Program)(w:World)(H:Hp)(a:Addr)(kvs:List Ent)(o:Obj):Prop:=H a=some (d2F P w a kvs o)∧∀ p∈kvs,K2 H p.1 p.2.1
theorem Az {P:Program}{w:World}{h:Heap}(q:d2P P w a kvs h)(e:h.get? a=some o):bb P w H h a (d2F P w a kvs o) :=
 ⟨⟨e,q⟩,⟨o,e⟩,fun h1 h2 q1 g=>⟨g o q1.1,by
  obtain⟨z,y,xs,r,o',es,ep,ho,t⟩:=q1.2
  exact⟨z,y,xs,r,o',es,ep,g o' ho,t⟩⟩⟩
theorem oD {P:Program}{w:World}{h:Heap}(ok:HOk P w H h)(d:D2f P w H a kvs o):h.get? a=some o∧d2P P w a kvs h:=by
 obtain⟨q,_⟩:=(show bb P w H h a (d2F P w a kvs o) from ok a _ d.1)
 exact q
theorem wa {P:Program}{w:World}{h:Heap}(ok:HOk P w H h)(q:d2P P w a kvs h)(hk:∀ p∈kvs,K2 H p.1 p.2.1):kvs.length≤sizeLine∧(a == sysModules)=false∧∃ xs,Paired RE kvs xs∧h.DictOfH (fS P w) a xs:=by
 obtain⟨z,y,xs,r,o,es,ep,h1,h2,h3,h4,h5⟩:=q
 refine⟨z,y,xs,r,o,es,ep,h1,h2,h3,h4,?_,h5⟩
 have all:∀ {l:List Ent} {m:List (List Itm×Addr×Value)},Paired RE l m→(∀ p∈l,K2 H p.1 p.2.1)→∀ x∈m,Is2 P w h x.1 x.2.1:=by
  intro l m q
  induction q with
  | nil=>intro _ x hx;exact nomatch hx
  | @cons p q ps qs hq t ih =>
   intro g x hx
   rcases List.mem_cons.mp hx with e | hx
   ·subst e
    rw[← hq.1,← hq.2.1]
    exact kB ok (g p List.mem_cons_self)
   ·exact ih (fun p hp=>g p (List.mem_cons_of_mem _ hp)) x hx
 exact all r hk
theorem D2.freeze (I:Inv X pins σ H s)(d:D2 X.prog X.w H a kvs):∃ o es ep,s.heap.get? a=some o∧o.cls=.type "dict"∧o.data=.dict es ep∧es.size=kvs.length∧Inv X pins σ (upd H a (d2F X.prog X.w a kvs o)) s:=by
 obtain⟨q,_⟩:=(show bb X.prog X.w H s.heap a (d2O X.prog X.w a kvs) from I.hok a _ d.1)
 obtain⟨z,y,xs,r,o,es,ep,h1,h2,h3,h4,h5⟩:=id q
 have hsz:es.size=kvs.length:=by
  rw[r.length]
  have:=congrArg List.length h4
  rwa[Array.length_toList,List.length_map] at this
 exact⟨o,es,ep,h1,h2.1,h3,hsz,I.write (x:=a) (e:=a) (t':=s.toks) (by rw[d.1];exact True.intro) (.inl rfl) (fun b q hb z=>z) ⟨o,h1⟩ (Az q h1)⟩
theorem D2f.C4 (I:Inv X pins σ H s)(d:D2f X.prog X.w H a kvs o):Inv X pins σ (upd H a (d2O X.prog X.w a kvs)) s:=by
 obtain⟨e,q⟩:=oD I.hok d
 exact I.write (x:=a) (e:=a) (t':=s.toks) (by rw[d.1];exact True.intro) (.inl rfl) (fun b q hb z=>z) ⟨o,e⟩ (d2P.ok q)
theorem D2.to {P:Program}{w:World}{H:Hp}(d:D2 P w H a kvs):D2f P w (upd H a (d2F P w a kvs o)) a kvs o :=
 ⟨ae,fun p hp=>(d.2 p hp).keep fun c ys e=>by rw[ao (fun z=>by rw[z,d.1] at e;cases e)];exact e⟩
end
section
variable {X:Cx}{o i:Expr}{pos:Pos}{td ty:TE}
noncomputable def AA (P:Program)(w:World)(td ty:TE):TE:=fun σ H Q=>td σ H fun x H1=>ty σ H1 fun y H2=>∃ a b kvs ob k v,x=.ref a∧y=.ref b∧D2f P w H2 a kvs ob∧K2 H2 k b∧iE kvs k=some v∧Q v H2
theorem ly {P:Program}{w:World}(hP:X.prog=P)(hw:X.w=w)(hu:X.A.units+2<cLine)(ho:PE X o td)(hi:PE X i ty)(hs:ve i):PE X (.Subscript o i pos) (AA P w td ty):=by
 subst hP hw
 intro pins s σ H Q I h
 refine nZ PySem.F.slot_dict_getitem.lookup hs (thn (ho pins s σ H _ I h) fun u s1 ⟨x,H1,I1,rx,q1⟩=>thn (hi pins s1 σ H1 _ I1 q1) fun iv s2 ⟨y,H2,I2,ry,a,b,kvs,ob,k,v,ex,ey,d,hk,l,q2⟩=>?_)
 subst ex ey
 obtain rfl:u=Value.ref a:=rx
 obtain rfl:iv=Value.ref b:=ry
 obtain⟨z,hd,xs,rel,dd⟩:=wa I2.hok (oD I2.hok d).2 d.2
 obtain⟨w',hw,rw'⟩:=iD.some_of (v:=v) (o:=(atKey xs k).map (·.2)) (by rw[← l];exact oA rel k)
 obtain⟨p,hp,hp2⟩:=Option.map_eq_some_iff.mp hw
 refine⟨dd.typeIs,wpAny_getItem_heap (knd:=fS X.prog X.w) (gY hu) (kB I2.hok hk) dd hp ?_⟩
 rw[hp2]
 exact⟨v,H2,I2.tok _,rw',q2⟩
end
noncomputable def Itk (P:Program)(w:World)(d:Addr)(o:Obj)(kvs:List Ent):It :=
 ⟨fun i H=>i<kvs.length∧D2f P w H d kvs o,fun i H y H'=>H'=H∧∃ k b v,kvs[i]?=some (k,b,v)∧y=.ref b,fun i H=>kvs.length≤i∧D2f P w H d kvs o⟩
theorem yp {P:Program}{w:World}{K:PySem.W.Frag}{tg:Expr}(d it:Addr)(o:Obj)(kvs:List Ent)(es:Array DictEntry)(ep:Nat)(hcl:o.cls=.type "dict")(hep:o.data=.dict es ep)(hsz:es.size=kvs.length) :
  Turn P w K tg (Itk P w d o kvs) [it] it (fun i h=>i≤kvs.length∧h.IsKeyIter it d i es.size ep) where
 mem:=by simp
 obj:=fun i h st b hb=>by
  have e:b=it:=by simpa using hb
  subst e
  obtain⟨_,o,e,_,d⟩:=st
  exact⟨_,e,fun v z=>by rw[d] at z;cases z⟩
 keep:=fun i h h' st k=>⟨st.1,st.2.at fun o e=>k it (by simp) o e⟩
 item:=by
  intro X hP hw hK hc i pins s σ H E I hf st hg
  subst hP hw hK
  obtain⟨hi,dF⟩:=hg
  obtain⟨_,hit⟩:=st
  obtain⟨ho,z,lo,xs,rel,od,es',ep',h1,h2,h3,h4,h5⟩:=oD I.hok dF
  obtain⟨f0,f1,f2,f3,f4,f5⟩:=hf it (by simp)
  have e1:od=o:=by rw[ho] at h1;exact(Option.some.inj h1).symm
  subst e1
  have e2:es'=es∧ep'=ep:=by rw[hep] at h3;cases h3;exact⟨rfl,rfl⟩
  obtain⟨rfl,rfl⟩:=e2
  have hi2:i<es'.size:=by omega
  have hx:kvs[i]?=some (kvs[i].1,kvs[i].2.1,kvs[i].2.2):=List.getElem?_eq_getElem hi
  obtain⟨u,hxs,_⟩:=vZ rel hx
  have ee:es'[i]=entryOfKey (fS X.prog X.w) (kvs[i].1,kvs[i].2.1,u):=by
   have e:=entry_at h4 i
   rw[hxs,Array.getElem?_eq_getElem hi2] at e
   exact Option.some.inj e
  refine uv hit ⟨od,h1,hcl,h3⟩ hi2 fun h' qP hs'=>?_
  have I1:Inv X pins σ H { s with heap:=h' }:=I.turned (t':=s.toks) (fun b o hb e=>(hs'.2 b hb).trans e) f0 f1 f3 f4 f5
  obtain⟨oi,e,c,dd⟩:=id qP
  refine⟨_,rfl,mN (s:={ s with heap:=h' }) e c dd (by decide) ⟨.ref kvs[i].2.1,H,I1,?_,⟨rfl,_,_,_,hx,rfl⟩,⟨hi,qP⟩,fun b hb=>(hf b hb).1⟩⟩
  rw[ee]
  rfl
 done:=by
  intro X hP hw hK hc i pins s σ H E I hf st hg
  subst hP hw hK
  obtain⟨hi,dF⟩:=hg
  obtain⟨hle,hit⟩:=st
  obtain⟨ho,_⟩:=oD I.hok dF
  obtain⟨f0,f1,f2,f3,f4,f5⟩:=hf it (by simp)
  have e3:i=es.size:=by omega
  rw[e3] at hit
  exact vV (I.ok.hd hc) hit ⟨o,ho,hcl,hep⟩ fun h' eb=>⟨rfl,I.turned (t':=s.toks) (fun b o hb e=>eb b o hb e) f0 f1 f3 f4 f5⟩
 self:=fun _ _ _ _ _ st h=>wpAny_pyIter_keyiter st.2 h
section
variable {X:Cx}
noncomputable def iKs (P:Program)(w:World)(to:TE):TI:=fun σ H R=>to σ H fun v H1=>∃ d kvs,v=.ref d∧D2 P w H1 d kvs∧∀ o,R (Itk P w d o kvs) (upd H1 d (d2F P w d kvs o))
theorem BU {e tg:Expr}{to:TE}(ho:PE X e to):PI X tg e (iKs X.prog X.w to):=by
 intro pins s σ H R I h
 refine thn (ho pins s σ H _ I h) fun v s1 ⟨x,H1,I1,r1,d,kvs,ex,hd,q⟩=>?_
 subst ex
 cases (show v=Value.ref d from r1)
 obtain⟨o,es,ep,h1,h2,h3,h4,I2⟩:=D2.freeze I1 hd
 obtain⟨z,lo,_⟩:=kC I1.hok hd
 refine uu lo ⟨o,h1,h2,h3⟩ ?_
 refine⟨_,[_],_,_,_,rfl,I2.kept (t':=s1.toks) fun b o e=>Heap.get?_push_of_some _ e,yp d _ o kvs es ep h2 h3 h4,⟨Nat.zero_le _,⟨_,Heap.get?_push_size _ rfl,rfl,rfl⟩⟩,fun b hb=>?_,q o⟩
 have e:=List.mem_singleton.mp hb
 subst e
 exact I2.mw (Nat.le_refl _) (I2.hok.fresh (Nat.le_refl _))
theorem sI {P:Program}{w:World}{d:Addr}{o:Obj}{kvs:List Ent}{g:TG}{tt:TT}{te:TE}{D:Addr}{Q:VK}{σ₀:L2.St}{H₀:Hp}(Pv:Nat→L2.St→Hp→Prop)(h0:Pv 0 σ₀ H₀)(hl:∀ i σ H,i≤kvs.length→Pv i σ H→D2f P w H d kvs o)
  (hs:∀ i k b v σ H,kvs[i]?=some (k,b,v)→Pv i σ H→g (.ref b) σ H fun σ3 H3=>tt σ3 H3 fun b H4=>if b=true then te σ3 H4 fun v H5=>∃ ys,H5 D=some (.lst ys)∧ys.length<sizeLine∧Pv (i+1) σ3 (upd H5 D (.lst (ys++[v]))) else Pv (i+1) σ3 H4)
  (hd:∀ σ H,Pv kvs.length σ H→Q (.ref D) H):km (Itk P w d o kvs) g tt te D Q σ₀ H₀:=by
 refine⟨fun i m σ H=>m=kvs.length-i∧i≤kvs.length∧Pv i σ H,⟨kvs.length,by simp,Nat.zero_le _,h0⟩,?_⟩
 rintro i m σ H ⟨rfl,hi,p⟩
 have q:=hl i σ H hi p
 by_cases hlt:i<kvs.length
 ·refine .inr ⟨⟨hlt,q⟩,Pv (i+1),fun σ' H' p'=>⟨kvs.length-(i+1),by omega,rfl,hlt,p'⟩,fun x H' y=>?_⟩
  obtain⟨e2,k,b,v,hx,e⟩:=y
  subst e e2
  exact hs i k b v σ _ hx p
 ·have e:i=kvs.length:=by omega
  subst e
  exact .inl ⟨⟨Nat.le_refl _,q⟩,hd σ H p⟩
noncomputable def zv (P:Program)(w:World)(t:TE):TE:=fun σ H Q=>t σ H fun v H1=>∃ a kvs o,D2f P w H1 a kvs o∧Q v (upd H1 a (d2O P w a kvs))
theorem yq {e:Expr}{t:TE}(he:PE X e t):PE X e (zv X.prog X.w t):=by
 intro pins s σ H Q I h
 refine thn (he pins s σ H _ I h) fun u s1 ⟨v,H1,I1,r,a,kvs,o,d,q⟩=>?_
 exact⟨v,_,D2f.C4 I1 d,r,q⟩
noncomputable def BV (P:Program)(w:World)(r:V→List V→Hp→VK→Prop)(to:TE)(t:TA):TE:=fun σ H Q=>to σ H fun x H1=>(∃ a kvs,x=.ref a∧D2 P w H1 a kvs)∧t σ H1 fun vs H2=>r x vs H2 Q
theorem AB {o e:Expr}{es:List Expr}{name:Str}{id:String}{apos cp:Pos}{r:V→List V→Hp→VK→Prop}{to:TE}{t:TA}(pa:PlainAttrs "dict")(slot:Slot "dict" name id)(hty:typeOf (.builtin id)=pure (.type "method_descriptor"))(hm:MtM X id r)(ho:PE X o to)(ha:PA X (e::es) t)
  (jh:attributeBase o name X.env (eval o X.env)=eval o X.env:=by rfl)
  (vn:((backTo cp (starEach (e::es) X.env)).all (fun x=>!x.1)&&(backToKw cp (keywordEach [] X.env)).all (fun x=>x.1.isSome)&&decide ((e::es).length+([]:List Keyword).length+(if ([]:List Keyword).isEmpty then 0 else 1)<30))=true:=by rfl)
  (ji:(apos.endLine == cp.line)=true:=by rfl) (hs:starEach (e::es) X.env=(false,eval e X.env)::starEach es X.env:=by rfl) (lq:(backTo cp (starEach es X.env)).any (·.1)=false:=by rfl) :
  PE X (.Call (.Attribute o name apos) (e::es) [] cp) (BV X.prog X.w r to t):=by
 intro pins s σ H Q I h
 refine wpAny_Call_method_late jh vn ji rfl (thn (ho pins s σ H _ I h) fun v s1 ⟨x,H1,I1,r1,⟨a,kvs,ex,d⟩,q1⟩=>?_)
 subst ex
 obtain rfl:v=Value.ref a:=r1
 have h1:=oB I1 d
 have h2:∀ c,Value.ref a=.ref c→∃ ob,s1.heap.get? c=some ob∧ob.dict=none:=fun c z=>by
  cases z
  obtain⟨_,_,xs,_,dd⟩:=kC I1.hok d
  obtain⟨o,es,ep,ho,hx,_⟩:=dd
  exact⟨o,ho,hx.2.1⟩
 refine⟨"dict",id,pa,slot,hty,h1,h2,?_⟩
 have hA:=ha cp pins s1 σ H1 _ I1 q1
 rw[hs] at hA ⊢
 refine Calls.callWith_builtin (by show (false||(backTo cp (starEach es X.env)).any (·.1))=false;rw[lq] <;> rfl) (Calls.evalArgs_plain ?_)
 exact thn hA fun us s2 ⟨vs,H2,I2,r2,q2⟩=>hm pins s2 σ H2 (.ref a) vs _ us Q I2 rfl r2 q2
end
section
variable {X:Cx}
theorem K2.its {P:Program}{w:World}{H:Hp}{h:Heap}(ok:HOk P w H h):∀ {k:List Itm} {vs:List V} {us:List Value},Paired (IV H) k vs→Vals vs us→∀ (j:Nat) (x:Itm) (u:Value),k[j]?=some x→us[j]?=some u→∀ P' w',mG P' w' h x u
 | _,_,_,.nil,_,j,x,u,e,_,_,_=>by simp at e
 | _,_,_,.cons (a:=a) (b:=b) hk t,.cons hv tv,0,x,u,e1,e2,P',w'=>by
  cases e1
  cases e2
  cases a with
  | inl k=>cases (show b=kV k from hk);exact mY hv
  | inr l=>obtain⟨c,e,q⟩:=hk;subst e;exact⟨c,hv,jV (pM (P':=P') (w':=w') ok) (m7 q)⟩
 | _,_,_,.cons _ t,.cons _ tv,j+1,x,u,e1,e2,P',w'=>K2.its ok t tv j x u e1 e2 P' w'
noncomputable def C5:R2:=fun x y H Q=>∃ (a b:Addr) (k l:List Itm),x=.ref a∧y=.ref b∧K2 H k a∧K2 H l b∧Q (.bl (!decide (k=l))) H
theorem wb (hu:X.A.units+1<cLine):OpR X (compareOp .NotEq) C5:=by
 intro pins s σ H x y v u Q I rx ry h
 obtain⟨a,b,k,l,rfl,rfl,⟨vs,h1,p1⟩,⟨ws,h2,p2⟩,q⟩:=h
 cases rx
 cases ry
 obtain⟨i1,r1,t1,z1⟩:=I.tuple (SqT.of h1)
 obtain⟨i2,r2,t2,z2⟩:=I.tuple (SqT.of h2)
 have l1:i1.length=k.length:=by rw[← r1.length,← p1.length]
 have l2:i2.length=l.length:=by rw[← r2.length,← p2.length]
 refine SeqAt.RcNeAt.tuples (A:=X.A) (e:=fun j=>decide (k[j]?=l[j]?)) (show s.heap.IsTuple a i1.toArray from t1) (show s.heap.IsTuple b i2.toArray from t2) (by omega) (fun j q1 q2=>?_) X.prog X.w X.xe _ ⟨.bl (!decide (k=l)),H,I,?_,q⟩
 ·rw[List.size_toArray] at q1 q2
  have ek:=List.getElem?_eq_getElem (l:=k) (i:=j) (by omega)
  have el:=List.getElem?_eq_getElem (l:=l) (i:=j) (by omega)
  have w:=BR (A:=X.A.in1) I (by show X.A.units+1<cLine;exact hu) (K2.its I.hok p1 r1 j _ _ ek (List.getElem?_eq_getElem q1)) (K2.its I.hok p2 r2 j _ _ el (List.getElem?_eq_getElem q2))
  rw[ek,el]
  have ed:decide (some k[j]=some l[j])=decide (k[j]=l[j]):=decide_eq_decide.mpr ⟨fun h=>Option.some.inj h,fun h=>congrArg some h⟩
  rw[ed]
  simpa using w
 ·show Value.bool _=Value.bool _
  congr 2
  rw[List.size_toArray,List.size_toArray,l1,l2,Bool.eq_iff_iff,decide_eq_true_iff,Bool.and_eq_true,List.all_eq_true,beq_iff_eq]
  constructor
  ·rintro⟨g1,g2⟩
   refine List.ext_getElem? fun j=>?_
   by_cases c:j<k.length
   ·exact of_decide_eq_true (g1 j (List.mem_range.mpr (by omega)))
   ·rw[List.getElem?_eq_none (by omega),List.getElem?_eq_none (by omega)]
  ·intro g
   exact⟨fun j _=>decide_eq_true (by rw[g]),by rw[g]⟩
end
section
variable {X:Cx}{P:Program}{w:World}(hP:X.prog=P)(hw:X.w=w)
include hP hw
theorem qY {e tg:Expr}{to:TE}(ho:PE X e to):PI X tg e (iKs P w to):=by subst hP hw;exact BU ho
theorem pO {e:Expr}{t:TE}(he:PE X e t):PE X e (zv P w t):=by subst hP hw;exact yq he
theorem jo {pos:Pos}:PE X (.Dict [] [] pos) (zr P w):=by subst hP hw;exact yh
theorem cw {o i:Expr}{pos:Pos}{td ty:TE}(hu:X.A.units+2<cLine)(ho:PE X o td)(hi:PE X i ty)(hs:ve i):PE X (.Subscript o i pos) (zt P w td ty):=by subst hP hw;exact yi hu ho hi hs
theorem fZ {o i value:Expr}{pos pos':Pos}{td ty tv:TE}(hu:X.A.units+2<cLine)(ho:PE X o td)(hi:PE X i ty)(hv:PE X value tv)(hs:swapsWith value (some (.Subscript o i pos')) pos.line X.env=pure false):PS X (.Assign [.Subscript o i pos'] value pos) (vU P w td ty tv):=by subst hP hw;exact yj hu ho hi hv hs
theorem we {o e:Expr}{apos cp:Pos}{to:TE}{t:TA}(hu:X.A.units+2<cLine)(ho:PE X o to)(ha:PA X [e] t)
  (jh:attributeBase o "pop" X.env (eval o X.env)=eval o X.env:=by rfl)
  (vn:((backTo cp (starEach [e] X.env)).all (fun x=>!x.1)&&(backToKw cp (keywordEach [] X.env)).all (fun x=>x.1.isSome)&&decide (([e]:List Expr).length+([]:List Keyword).length+(if ([]:List Keyword).isEmpty then 0 else 1)<30))=true:=by rfl)
  (ji:(apos.endLine == cp.line)=true:=by rfl) (hs:starEach [e] X.env=(false,eval e X.env)::starEach [] X.env:=by rfl) (lq:(backTo cp (starEach [] X.env)).any (·.1)=false:=by rfl) :
  PE X (.Call (.Attribute o "pop" apos) [e] [] cp) (BV P w (zu P w) to t):=by
 subst hP hw
 exact AB F.plainAttrs_dict F.slot_dict_pop F.type_dict_pop (yo hu) ho ha jh vn ji hs lq
end
end NK


namespace L2
open PySem PySem.Spec PyProof.Rows
section
variable {X:Cx}
theorem dO {K:PySem.W.Frag}(hK:X.K=K):eO X (.builtin "len") (fun xs H Q=>∃ p ys,xs=[.ref p]∧(SqL K H p ys∨SqT K H p ys)∧Q (.int (ys.length:Nat)) H):=hK ▸ aF
end
end L2

namespace L2
open PySem PySem.Spec PyProof.Rows
section
variable {X:Cx}
theorem pP (hu:X.A.units<cLine):OpR X (compareOp .NotEq) (fun x y H Q=>∃ (a b:Addr) (ns ms:List Int),x=.ref a∧y=.ref b∧SqL X.K H a (ns.map V.int)∧SqL X.K H b (ms.map V.int)∧ns.length=ms.length∧Q (.bl (!decide (ns=ms))) H):=by
 intro pins s σ H x y v u Q I rx ry h
 obtain⟨a,b,ns,ms,rfl,rfl,ha,hb,hl,q⟩:=h
 cases rx
 cases ry
 obtain⟨i1,r1,p1,z1⟩:=I.list ha
 obtain⟨i2,r2,p2,z2⟩:=I.list hb
 have l1:ns.length=i1.length:=by have z:=r1.length;rwa[List.length_map] at z
 have l2:ms.length=i2.length:=by have z:=r2.length;rwa[List.length_map] at z
 refine SeqAt.RcNeAt.lists (A:=X.A) (e:=fun j=>ns.getD j 0 == ms.getD j 0) p1.isList p2.isList (by simp only[List.size_toArray];omega) (by omega) (fun j q1 q2=>uw r1 r2 j q1 q2) X.prog X.w X.xe _ ⟨.bl (!decide (ns=ms)),H,I,?_,q⟩
 show Value.bool _=Value.bool _
 congr 1
 have z:=qV r1 r2
 have e:(i1.toArray.size == i2.toArray.size)=true:=by simp only[List.size_toArray,beq_iff_eq];omega
 have e2:min i1.toArray.size i2.toArray.size=i1.toArray.size:=by simp only[List.size_toArray];omega
 rw[e,Bool.and_true,e2] at z
 rw[z]
end
end L2

namespace L2
open PySem PySem.Spec
theorem AD:bootBuiltins "abs" = some (.builtin "abs"):=by decide +kernel
end L2
namespace Mir
open PySem L2
noncomputable def aZ (i:Int):Int:=if i<0 then -i else i
noncomputable def a6 (ns:List Int):List Int:=ns.map aZ
noncomputable def fF (n:Nat):List Int:=(List.range n).map fun (i:Nat)=>1+(i:Int)
structure Fit (ns:List Int):Prop where
 small:ns.length≤40
 perm:(a6 ns).Perm (fF ns.length)
theorem de (ns:List Int):(a6 ns).length=ns.length:=by unfold a6;rw[List.length_map]
theorem lz (n:Nat):fF (n+1)=fF n++[(n:Int)+1]:=by
 unfold fF
 rw[List.range_succ,List.map_append]
 show _++[1+(n:Int)]=_
 rw[Int.add_comm]
end Mir

namespace L2
open PySem PySem.Spec PyProof.Rows
section
variable {X:Cx}
noncomputable def BW:R2:=fun x y H Q=>∃ a b xs ys,x=.ref a∧y=.ref b∧H a=some (.tup xs)∧H b=some (.tup ys)∧xs.length+ys.length≤sizeLine∧∀ p H1,aq H H1→H1 p=some (.tup (xs++ys))→Q (.ref p) H1
theorem sJ:OpR X (binaryOp .Add) BW:=by
 intro pins s σ H x y v u Q I rx ry h
 obtain⟨a,b,xs,ys,ex,ey,ha,hb,hz,q⟩:=h
 by_cases hy:ys=[]
 ·subst hy
  by_cases hx:xs=[]
  ·subst hx ex ey
   cases rx
   cases ry
   obtain⟨its,r1,p1,_⟩:=I.tuple (SqT.of ha)
   obtain⟨kJ,r2,p2,_⟩:=I.tuple (SqT.of hb)
   obtain⟨⟨cls,dd,data,sl⟩,ho,hc,n,hd⟩:=id p1
   obtain⟨⟨BA,dd2,data2,sl2⟩,ho2,hc2,n2,hd2⟩:=id p2
   simp only at hc hd hc2 hd2
   subst hc hd hc2 hd2
   have e:its=[]:=r1.je.mpr rfl
   exact concat_meets ⟨_,ho,rfl⟩ ⟨_,ho2,rfl⟩ noFill_tuple_add seq_tuple_add PySem.F.slot_tuple_add PySem.F.entry_tuple_add (PySem.F.args_tuple_add_2 _ _)
    (L2E.tuple_addW0 a b its.toArray kJ.toArray n n2 dd dd2 sl sl2 (by rw[e];rfl)) ⟨ho,ho2,⟨.ref b,H,I,rfl,q b H (aq.refl _) hb⟩⟩
  ·exact sm pins s σ H x y v u Q I rx ry ⟨a,b,xs,[],ex,ey,SqT.of ha,SqT.of hb,hx,hz,fun _=>q a H (aq.refl _) (by rw[List.append_nil];exact ha),fun z=>absurd rfl z⟩
 ·exact vX pins s σ H x y v u Q I rx ry ⟨a,b,xs,ys,ex,ey,SqT.of ha,SqT.of hb,hy,hz,fun z=>q b H (aq.refl _) (by rw[z];exact hb),fun _ p hp=>q p _ (ag hp) ae⟩
end
end L2

namespace Mir
open PySem L2
noncomputable def TsT {α:Type}(f:α→List V)(H:Hp)(l:Addr)(xs:List α):Prop :=
 ∃ ts:List Addr,H l=some (.lst (ts.map V.ref))∧ts.length=xs.length∧∀ (i:Nat) (t:Addr) (x:α),ts[i]?=some t→xs[i]?=some x→H t=some (.tup (f x))
section
variable {α:Type}{f:α→List V}{H H':Hp}{l r b t d:Addr}{xs ys:List α}{x:α}
theorem TsT.same (h:TsT f H l xs)(s:aq H H'):TsT f H' l xs:=by
 obtain⟨ts,h1,h2,h3⟩:=h
 exact⟨ts,s _ _ h1,h2,fun i t p e1 e2=>s _ _ (h3 i t p e1 e2)⟩
theorem TsT.nil (h:H l=some (.lst [])):TsT f H l ([]:List α):=⟨[],h,rfl,fun i t r e=>by simp at e⟩
theorem TsT.len (h:TsT f H l xs):∃ vs,H l=some (.lst vs)∧vs.length=xs.length:=by
 obtain⟨ts,h1,h2,_⟩:=h
 exact⟨_,h1,by rw[List.length_map];exact h2⟩
theorem TsT.get {i:Nat}(h:TsT f H l xs)(e:xs[i]?=some x):∃ vs t,H l=some (.lst vs)∧vs[i]?=some (.ref t)∧H t=some (.tup (f x)):=by
 obtain⟨ts,h1,h2,h3⟩:=h
 have hi:=(List.getElem?_eq_some_iff.mp e).1
 have et:ts[i]?=some (ts[i]'(by omega)):=List.getElem?_eq_getElem (by omega)
 exact⟨_,_,h1,by rw[List.getElem?_map,et];rfl,h3 i _ x et e⟩
noncomputable def Tup (f:α→List V)(H:Hp)(ts:List Addr)(xs:List α):Prop:=ts.length=xs.length∧∀ (i:Nat) (t:Addr) (x:α),ts[i]?=some t→xs[i]?=some x→H t=some (.tup (f x))
theorem TsT.tup (h:TsT f H l xs):∃ ts,H l=some (.lst (ts.map V.ref))∧Tup f H ts xs:=by
 obtain⟨ts,h1,h2,h3⟩:=h
 exact⟨ts,h1,h2,h3⟩
theorem Tup.tst {ts:List Addr}(h:Tup f H ts xs)(hl:H l=some (.lst (ts.map V.ref))):TsT f H l xs:=⟨ts,hl,h.1,h.2⟩
theorem Tup.same {ts:List Addr}(h:Tup f H ts xs)(s:aq H H'):Tup f H' ts xs:=⟨h.1,fun i t p e1 e2=>s _ _ (h.2 i t p e1 e2)⟩
theorem Tup.upd {ts:List Addr}{o:HO}{vs:List V}(h:Tup f H ts xs)(hl:H l=some (.lst vs)):Tup f (upd H l o) ts xs:=⟨h.1,fun i t p e1 e2=>by
 have key:=h.2 i t p e1 e2
 rw[ao (fun e=>by rw[e,hl] at key;cases key)]
 exact key⟩
theorem Tup.C6 {ts:List Addr}{o:HO}(h:Tup f H ts xs)(hl:H l=none):Tup f (L2.upd H l o) ts xs:=h.same (ag hl)
theorem Tup.app {ts us:List Addr}(h:Tup f H ts xs)(k:Tup f H us ys):Tup f H (ts++us) (xs++ys):=⟨by rw[List.length_append,List.length_append,h.1,k.1],fun i t p e1 e2=>by
 by_cases hi:i<ts.length
 ·rw[List.getElem?_append_left hi] at e1
  rw[List.getElem?_append_left (by have:=h.1;omega)] at e2
  exact h.2 i t p e1 e2
 ·rw[List.getElem?_append_right (by omega)] at e1
  rw[List.getElem?_append_right (by have:=h.1;omega),← h.1] at e2
  exact k.2 _ t p e1 e2⟩
theorem Tup.one (h:H t=some (.tup (f x))):Tup f H [t] [x]:=⟨rfl,fun i u p e1 e2=>by
 cases i with
 | zero=>cases e1;cases e2;exact h
 | succ i=>cases e1⟩
theorem TsT.snoc (h:TsT f H l xs)(ht:H t=some (.tup (f x))):∃ vs,H l=some (.lst vs)∧vs.length=xs.length∧TsT f (L2.upd H l (.lst (vs++[.ref t]))) l (xs++[x]):=by
 obtain⟨ts,h1,h2⟩:=h.tup
 refine⟨_,h1,by rw[List.length_map];exact h2.1,?_⟩
 exact((h2.app (Tup.one ht)).upd h1).tst (by rw[ae,List.map_append];rfl)
theorem TsT.other {vs:List V}{o:HO}(h:TsT f H l xs)(hd:H d=some (.lst vs))(ne:d≠l):TsT f (L2.upd H d o) l xs:=by
 obtain⟨ts,h1,h2⟩:=h.tup
 exact(h2.upd hd).tst (by rw[ao (Ne.symm ne)];exact h1)
theorem TsT.deep {K:PySem.W.Frag}(hf:∀ x,∀ v∈f x,fY v=true)(h:TsT f H l xs)(k:TsT f H r xs):zo K H 1 l r:=by
 obtain⟨ts,h1,h2⟩:=h.tup
 obtain⟨us,k1,k2⟩:=k.tup
 refine⟨_,_,SqL.of h1,SqL.of k1,by rw[List.length_map,List.length_map,h2.1,k2.1],fun i u v e1 e2=>?_⟩
 have hi:i<ts.length:=by have z:=(List.getElem?_eq_some_iff.mp e1).1;rw[List.length_map] at z;exact z
 have hi2:i<us.length:=by rw[k2.1,← h2.1];exact hi
 have hx:i<xs.length:=by rw[← h2.1];exact hi
 rw[List.getElem?_map,List.getElem?_eq_getElem hi] at e1
 rw[List.getElem?_map,List.getElem?_eq_getElem hi2] at e2
 obtain rfl:=Option.some.inj e1
 obtain rfl:=Option.some.inj e2
 refine .inr ⟨_,_,_,_,rfl,rfl,.inr ⟨SqT.of (h2.2 i _ _ (List.getElem?_eq_getElem hi) (List.getElem?_eq_getElem hx)),SqT.of (k2.2 i _ _ (List.getElem?_eq_getElem hi2) (List.getElem?_eq_getElem hx))⟩,rfl,fun j a b d1 d2=>?_⟩
 rw[d1] at d2
 obtain rfl:=Option.some.inj d2
 exact⟨rfl,hf _ _ (List.mem_of_getElem? d1)⟩
end
noncomputable def pr (p:Int×Int):List V:=[.int p.1,.int p.2]
theorem getD_get {rs:List Int}{j:Nat}(h:j<rs.length):rs[j]?=some (rs.getD j 0):=by
 rw[List.getD,List.getElem?_eq_getElem h]
 rfl
end Mir

set_option maxHeartbeats 2000000

namespace Mir
open PySem L2
noncomputable def idx (os:List Int)(a:Int):Nat:=(a6 os).idxOf a
theorem dW {os:List Int}{j:Nat}(h:j<os.length):(a6 os)[j]?=some (aZ (os.getD j 0)):=by
 unfold a6
 rw[List.getElem?_map,getD_get h]
 rfl
theorem AE {os:List Int}(nd:(a6 os).Nodup){j:Nat}{a:Int}(h:(a6 os)[j]?=some a):idx os a=j:=by
 have hj:=(List.getElem?_eq_some_iff.mp h).1
 have ha:a∈a6 os:=List.mem_of_getElem? h
 have h1:(a6 os).idxOf a<(a6 os).length:=List.idxOf_lt_length_iff.mpr ha
 have h2:(a6 os)[(a6 os).idxOf a]=a:=List.getElem_idxOf h1
 have h3:(a6 os)[(a6 os).idxOf a]?=(a6 os)[j]?:=by rw[List.getElem?_eq_getElem h1,h2,h]
 exact(List.getElem?_inj h1 nd).mp h3
theorem lA (x:Int):aZ (-x)=aZ x:=by unfold aZ;split <;> split <;> omega
theorem fo (x:Int):0≤aZ x:=by unfold aZ;split <;> omega
end Mir

namespace Mir
noncomputable def frm (rs:List Int):List Int:=0::(rs++[(rs.length:Int)+1])
theorem ba (rs:List Int):(frm rs).length=rs.length+2:=by unfold frm;simp
theorem gc (rs:List Int):(frm rs).getD 0 0=0:=rfl
theorem sL {rs:List Int}{j:Nat}(h:j<rs.length):(frm rs).getD (j+1) 0=rs.getD j 0:=by
 unfold frm
 rw[List.getD,List.getD,List.getElem?_cons_succ,List.getElem?_append_left h]
theorem dX (rs:List Int):(frm rs).getD (rs.length+1) 0=(rs.length:Int)+1:=by
 unfold frm
 rw[List.getD,List.getElem?_cons_succ,List.getElem?_append_right (Nat.le_refl _),Nat.sub_self]
 rfl
noncomputable def df (n:Nat):List Int:=(List.range n).map fun (i:Nat)=>(i:Int)
theorem gf {n:Nat}{a:Int}:a∈df n↔0≤a∧a<n:=by
 unfold df
 rw[List.mem_map]
 constructor
 ·rintro⟨i,hi,rfl⟩
  have:=List.mem_range.mp hi
  omega
 ·rintro⟨h1,h2⟩
  exact⟨a.toNat,List.mem_range.mpr (by omega),by omega⟩
theorem g7 (n:Nat):(df n).Nodup:=by
 unfold df
 rw[List.nodup_iff_pairwise_ne,List.pairwise_map]
 exact List.pairwise_lt_range.imp fun h=>by omega
theorem qZ (n:Nat):df (n+1)=0::fF n:=by
 unfold df fF
 rw[List.range_succ_eq_map,List.map_cons,List.map_map]
 congr 1
 refine List.map_congr_left fun i _=>?_
 show ((i+1:Nat):Int)=1+(i:Int)
 omega
theorem pQ {rs:List Int}(h:Fit rs):(a6 (frm rs)).Perm (df (rs.length+2)):=by
 have e:a6 (frm rs)=0::(a6 rs++[(rs.length:Int)+1]):=by
  unfold a6 frm
  rw[List.map_cons,List.map_append]
  have e1:aZ ((rs.length:Int)+1)=(rs.length:Int)+1:=by unfold aZ;rw[if_neg (by omega)]
  show 0::(_++[aZ ((rs.length:Int)+1)])=_
  rw[e1]
 rw[e,qZ,lz]
 exact(h.perm.append_right _).cons _
theorem dD {rs:List Int}(h:Fit rs):(a6 (frm rs)).Nodup:=(pQ h).nodup_iff.mpr (g7 _)
theorem yr {rs:List Int}(h:Fit rs){a:Int}:a∈a6 (frm rs)↔0≤a∧a<rs.length+2:=by rw[(pQ h).mem_iff,gf];omega
theorem sM {rs:List Int}(h:Fit rs){j:Nat}(hj:j<rs.length+2):0≤aZ ((frm rs).getD j 0)∧aZ ((frm rs).getD j 0)<rs.length+2 :=
 (yr h).mp (List.mem_of_getElem? (dW (by rw[ba];exact hj)))
theorem yt {rs:List Int}(h:Fit rs){i j:Nat}(hi:i<rs.length+2)(hj:j<rs.length+2)(e:aZ ((frm rs).getD i 0)=aZ ((frm rs).getD j 0)):i=j:=by
 have a1:=dW (os:=frm rs) (j:=i) (by rw[ba];exact hi)
 have a2:=dW (os:=frm rs) (j:=j) (by rw[ba];exact hj)
 rw[e] at a1
 exact(List.getElem?_inj (by rw[de,ba];exact hi) (dD h)).mp (a1.trans a2.symm)
noncomputable abbrev plF (rs:List Int)(k:Nat):Nat:=idx (frm rs) (k:Int)
theorem wg {rs:List Int}(h:Fit rs){j:Nat}(hj:j<rs.length+2){k:Nat}(e:aZ ((frm rs).getD j 0)=k):plF rs k=j :=
 AE (dD h) (by rw[dW (by rw[ba];exact hj),e])
theorem wj {rs:List Int}(h:Fit rs):plF rs 0=0:=wg h (by omega) rfl
noncomputable def isOpen (fs:List Int)(g:Nat):Bool:=decide (fs.getD (g+1) 0≠fs.getD g 0+1)
noncomputable def jq (fs:List Int)(m:Nat):List Int:=((List.range m).filter (isOpen fs)).map fun (g:Nat)=>(g:Int)
theorem q8 {rs:List Int}{p:Nat}(hp:p<rs.length+2)(h:(frm rs).getD p 0<0):1≤p∧p≤rs.length:=by
 constructor
 ·cases p with
  | zero=>rw[gc] at h;omega
  | succ p=>omega
 ·refine Classical.byContradiction fun z=>?_
  have e:p=rs.length+1:=by omega
  rw[e,dX] at h
  omega
end Mir

namespace Mir
noncomputable def amA (fs:List Int)(a j:Nat):Int:=if fs.getD a 0<0 then-aZ (fs.getD j 0) else aZ (fs.getD j 0)
structure Wh (fs:List Int) (a b:Nat):Prop where
 lt:a<b
 lb:b<fs.length
 mid:∀ j,a<j→j≤b→fs.getD a 0≤amA fs a j∧amA fs a j≤fs.getD b 0
 own:fs.getD b 0=amA fs a b
 far:fs.getD b 0=fs.getD a 0+((b:Int)-(a:Int))
theorem fq (fs:List Int)(a:Nat):amA fs a a=fs.getD a 0:=by
 unfold amA aZ
 split <;> omega
theorem oE {fs:List Int}(nd:(a6 fs).Nodup){a i j:Nat}(hi:i<fs.length)(hj:j<fs.length)(e:amA fs a i=amA fs a j):i=j:=by
 have e:aZ (fs.getD i 0)=aZ (fs.getD j 0):=by
  unfold amA at e
  split at e <;> omega
 have a1:=dW (os:=fs) hi
 have a2:=dW (os:=fs) hj
 rw[e] at a1
 exact(List.getElem?_inj (by rw[de];exact hi) nd).mp (a1.trans a2.symm)
structure oF (fs:List Int) (a c:Nat) (hi:Int):Prop where
 lo:∀ j,a<j→j<c→fs.getD a 0≤amA fs a j
 up:∀ j,a≤j→j<c→amA fs a j≤hi
 is:∃ j,a≤j∧j<c∧hi=amA fs a j
theorem oF.first (fs:List Int)(a:Nat):oF fs a (a+1) (fs.getD a 0):=by
 refine⟨fun j h1 h2=>by omega,fun j h1 h2=>?_,⟨a,by omega,by omega,by rw[fq]⟩⟩
 have e:j=a:=by omega
 rw[e,fq]
 exact Int.le_refl _
theorem oF.next {fs:List Int}{a c:Nat}{hi:Int}(h:oF fs a c hi)(hac:a<c)(hlo:fs.getD a 0≤amA fs a c):oF fs a (c+1) (if amA fs a c>hi then amA fs a c else hi):=by
 refine⟨fun j h1 h2=>?_,fun j h1 h2=>?_,?_⟩
 ·by_cases e:j=c
  ·rw[e];exact hlo
  ·exact h.lo j h1 (by omega)
 ·by_cases e:j=c
  ·rw[e];split <;> omega
  ·have:=h.up j h1 (by omega)
   split <;> omega
 ·by_cases c':amA fs a c>hi
  ·rw[if_pos c'];exact⟨c,by omega,by omega,rfl⟩
  ·rw[if_neg c']
   obtain⟨j,h1,h2,h3⟩:=h.is
   exact⟨j,h1,by omega,h3⟩
theorem oF.wh {fs:List Int}(nd:(a6 fs).Nodup){a c:Nat}{hi:Int}(h:oF fs a (c+1) hi)(hac:a<c)(hc:c<fs.length):(fs.getD c 0=hi∧hi=fs.getD a 0+(c:Int)-(a:Int))↔Wh fs a c:=by
 constructor
 ·rintro⟨e1,e2⟩
  obtain⟨j,h1,h2,h3⟩:=h.is
  have ej:j=c:=by
   by_cases ja:j=a
   ·rw[ja,fq] at h3
    omega
   ·have hj:aZ (fs.getD j 0)=aZ (fs.getD c 0):=by
     have aa:∀ x:Int,aZ (aZ x)=aZ x:=fun x=>by
      have:=fo x
      generalize aZ x=y at this
      unfold aZ
      rw[if_neg (by omega)]
     rw[e1,h3]
     unfold amA
     split
     ·rw[lA,aa]
     ·rw[aa]
    have a1:=dW (os:=fs) (j:=j) (by omega)
    have a2:=dW (os:=fs) hc
    rw[hj] at a1
    exact(List.getElem?_inj (by rw[de];omega) nd).mp (a1.trans a2.symm)
  refine⟨hac,hc,fun i h1 h2=>⟨h.lo i h1 (by omega),?_⟩,?_,by omega⟩
  ·rw[e1];exact h.up i (by omega) (by omega)
  ·rw[e1,h3,ej]
 ·intro W
  have e1:hi=fs.getD c 0:=by
   have u:=h.up c (by omega) (by omega)
   rw[← W.own] at u
   obtain⟨j,h1,h2,h3⟩:=h.is
   have v:amA fs a j≤fs.getD c 0:=by
    by_cases ja:j=a
    ·rw[ja,fq];have:=W.far;omega
    ·exact(W.mid j (by omega) (by omega)).2
   omega
  exact⟨e1.symm,by rw[e1,W.far];omega⟩
theorem Wh.stop {fs:List Int}{a c b:Nat}(hac:a<c)(h:amA fs a c<fs.getD a 0)(hb:c≤b):¬ Wh fs a b:=fun W=>by
 have:=(W.mid c hac hb).1
 omega
theorem Wh.rest {fs:List Int}(nd:(a6 fs).Nodup){a c b:Nat}(h1:Wh fs a c)(h2:Wh fs a b)(hcb:c<b):Wh fs c b:=by
 have hac:=h1.lt
 have sg:∀ j,amA fs c j=amA fs a j:=fun j=>by
  have e:=h1.own
  unfold amA at e ⊢
  by_cases s:fs.getD a 0<0
  ·rw[if_pos s] at e
   by_cases t:fs.getD c 0<0
   ·rw[if_pos s,if_pos t]
   ·exfalso
    have z:=fo (fs.getD c 0)
    have z0:fs.getD c 0=0:=by omega
    have hm:=(h2.mid b (by omega) (Nat.le_refl _))
    have hb:=h2.far
    have hc:=h1.far
    have ob:=h2.own
    unfold amA at ob
    rw[if_pos s] at ob
    have zb:=fo (fs.getD b 0)
    omega
  ·rw[if_neg s] at e
   have z:=fo (fs.getD c 0)
   rw[if_neg s,if_neg (by omega)]
 have above:∀ j,c<j→j≤b→fs.getD c 0<amA fs a j:=fun j hj hjb=>by
  refine Classical.byContradiction fun z=>?_
  have z:amA fs a j≤fs.getD c 0:=by omega
  have lo:=(h2.mid j (by omega) hjb).1
  have key:∀ (m:Nat),∀ (S:List Nat),S.Nodup→(∀ i∈S,i<fs.length∧fs.getD a 0≤amA fs a i∧amA fs a i<fs.getD a 0+m)→S.length≤m:=by
   intro m
   induction m with
   | zero =>
    intro S _ hS
    cases S with
    | nil=>exact Nat.le_refl _
    | cons i r=>have:=hS i (List.mem_cons_self ..);omega
   | succ m ih =>
    intro S hn hS
    by_cases c0:∃ i∈S,amA fs a i=fs.getD a 0+m
    ·obtain⟨i,hi,ei⟩:=c0
     have l1:(S.erase i).length=S.length-1:=List.length_erase_of_mem hi
     have l2:=ih (S.erase i) (hn.erase i) fun k hk=>by
      have hk':=(List.Nodup.mem_erase_iff hn).mp hk
      have q:=hS k hk'.2
      refine⟨q.1,q.2.1,?_⟩
      have ne:amA fs a k≠fs.getD a 0+m:=fun e=>hk'.1 (oE nd q.1 (hS i hi).1 (e.trans ei.symm))
      omega
     have:=List.length_pos_of_mem hi
     omega
    ·have:=ih S hn fun k hk=>by
      have q:=hS k hk
      refine⟨q.1,q.2.1,?_⟩
      have ne:amA fs a k≠fs.getD a 0+m:=fun e=>c0 ⟨k,hk,e⟩
      omega
     omega
  have S:=key (c-a+1) (j::(List.range (c-a+1)).map (· + a)) (by
   rw[List.nodup_cons]
   refine⟨fun hm=>?_,?_⟩
   ·obtain⟨i,hi,e⟩:=List.mem_map.mp hm
    have:=List.mem_range.mp hi
    omega
   ·rw[List.nodup_iff_pairwise_ne,List.pairwise_map]
    exact List.pairwise_lt_range.imp fun h=>by omega) (fun i hi=>by
   have hf:=h1.far
   have hlb:=h2.lb
   rcases List.mem_cons.mp hi with rfl | hi
   ·exact⟨by omega,lo,by omega⟩
   ·obtain⟨k,hk,rfl⟩:=List.mem_map.mp hi
    have hk:=List.mem_range.mp hk
    by_cases k0:k=0
    ·rw[k0,Nat.zero_add,fq]
     exact⟨by omega,Int.le_refl _,by omega⟩
    ·have q:=h1.mid (k+a) (by omega) (by omega)
     exact⟨by omega,q.1,by omega⟩)
  rw[List.length_cons,List.length_map,List.length_range] at S
  omega
 refine⟨hcb,h2.lb,fun j k1 k2=>?_,?_,?_⟩
 ·rw[sg]
  exact⟨Int.le_of_lt (above j k1 k2),(h2.mid j (by omega) k2).2⟩
 ·rw[sg];exact h2.own
 ·have:=h1.far
  have:=h2.far
  omega
noncomputable def Kn (fs:List Int)(a b:Nat):Prop:=Wh fs a b∧∀ c,c<b→¬ Wh fs a c
theorem wk {fs:List Int}(nd:(a6 fs).Nodup){a b:Nat}:Kn fs a b↔Wh fs a b∧¬ ∃ c,Wh fs a c∧Wh fs c b:=by
 constructor
 ·rintro⟨h1,h2⟩
  exact⟨h1,fun ⟨c,k1,k2⟩=>h2 c k2.lt k1⟩
 ·rintro⟨h1,h2⟩
  refine⟨h1,fun c hc hw=>h2 ⟨c,hw,hw.rest nd h1 hc⟩⟩
end Mir

namespace Mir
noncomputable def Rw (rs:List Int):Prop:=(a6 rs).Perm (fF rs.length)
theorem Rw.of {rs ss:List Int}(h:Rw rs)(p:(a6 ss).Perm (a6 rs)):Rw ss:=by
 unfold Rw at *
 have e:ss.length=rs.length:=by have:=p.length_eq;rwa[de,de] at this
 rw[e]
 exact p.trans h
theorem g9 (a b:List Int):a6 (a++b)=a6 a++a6 b:=by unfold a6;rw[List.map_append]
theorem Rw.rot {rs:List Int}{x:Int}(h:Rw rs)(hx:rs[0]?=some x):Rw (rs.drop 1++[x]):=by
 refine h.of ?_
 cases rs with
 | nil=>cases hx
 | cons y r =>
  obtain rfl:y=x:=Option.some.inj hx
  show (a6 (r++[y])).Perm (a6 ([y]++r))
  rw[g9,g9]
  exact List.perm_append_comm
theorem Rw.snoc {rs:List Int}(h:Rw rs):Rw (rs++[(rs.length:Int)+1]):=by
 unfold Rw at *
 rw[g9,List.length_append,List.length_singleton,lz]
 refine List.Perm.append h ?_
 have:aZ ((rs.length:Int)+1)=(rs.length:Int)+1:=by unfold aZ;rw[if_neg (by omega)]
 show ([aZ ((rs.length:Int)+1)]).Perm _
 rw[this]
theorem Rw.tail {rs ss:List Int}(f:Nat)(h:Rw rs)(p:(a6 ss).Perm (a6 (rs.drop f))):Rw (rs.take f++ss):=by
 refine h.of ?_
 have e:a6 rs=a6 (rs.take f)++a6 (rs.drop f):=by rw[← g9,List.take_append_drop]
 rw[e,g9]
 exact List.Perm.append_left _ p
theorem pR (rs:List Int):(a6 rs.reverse).Perm (a6 rs):=by
 unfold a6
 rw[List.map_reverse]
 exact List.reverse_perm _
theorem pS (rs:List Int):(a6 (rs.reverse.map fun x=>0-x)).Perm (a6 rs):=by
 have e:a6 (rs.reverse.map fun x=>0-x)=a6 rs.reverse:=by
  unfold a6
  rw[List.map_map]
  refine List.map_congr_left fun x _=>?_
  show aZ (0-x)=aZ x
  rw[Int.zero_sub,lA]
 rw[e]
 exact pR rs
theorem Rw.fit {rs:List Int}(h:Rw rs)(hl:rs.length≤40):Fit rs:=⟨hl,h⟩
noncomputable def shf (low:Int)(y:Int):Int:=y+3*(if y>low then 1 else 0)
theorem BX {rs inner:List Int}{spot:Nat}{low:Int}(h:rs.Perm (df rs.length))(hs:rs[spot]?=some low)(hi:inner.Perm [low,low+1,low+2,low+3]) :
  ((rs.map (shf low)).take spot++inner++(rs.map (shf low)).drop (spot+1)).Perm (df (rs.length+3)):=by
 have hsl:=(List.getElem?_eq_some_iff.mp hs).1
 have nd:rs.Nodup:=h.nodup_iff.mpr (g7 _)
 have dec:rs=rs.take spot++low::rs.drop (spot+1):=by
  have e:rs.drop spot=low::rs.drop (spot+1):=by
   rw[List.drop_eq_getElem_cons hsl]
   congr 1
   rw[List.getElem?_eq_getElem hsl] at hs
   exact Option.some.inj hs
  rw[← e,List.take_append_drop]
 have p1:rs.Perm (low::(rs.take spot++rs.drop (spot+1))):=by
  conv=>lhs;rw[dec]
  exact List.perm_middle
 generalize hR:rs.take spot++rs.drop (spot+1)=R at p1
 have nd1:=p1.nodup_iff.mp nd
 obtain⟨C7,ndR⟩:=List.nodup_cons.mp nd1
 have p2:((rs.map (shf low)).take spot++inner++(rs.map (shf low)).drop (spot+1)).Perm ([low,low+1,low+2,low+3]++R.map (shf low)):=by
  have e:(rs.map (shf low)).take spot++inner++(rs.map (shf low)).drop (spot+1)=(rs.take spot).map (shf low)++inner++(rs.drop (spot+1)).map (shf low):=by rw[List.map_take,List.map_drop]
  rw[e,← hR,List.map_append]
  have q1:((rs.take spot).map (shf low)++inner++(rs.drop (spot+1)).map (shf low)).Perm (inner++(rs.take spot).map (shf low)++(rs.drop (spot+1)).map (shf low)):=List.Perm.append_right _ List.perm_append_comm
  refine q1.trans ?_
  rw[List.append_assoc]
  exact List.Perm.append_right _ hi
 refine p2.trans ?_
 have mR:∀ y,y∈R↔(0≤y∧y<rs.length)∧y≠low:=fun y=>by
  have z:=(p1.symm.trans h).mem_iff (a:=y)
  rw[List.mem_cons,gf] at z
  constructor
  ·intro hy
   exact⟨z.mp (.inr hy),fun e=>C7 (e ▸ hy)⟩
  ·rintro⟨h1,h2⟩
   exact(z.mpr h1).resolve_left h2
 have DY:0≤low∧low<rs.length:=by
  have z:=(p1.symm.trans h).mem_iff (a:=low)
  rw[gf] at z
  exact z.mp (List.mem_cons_self ..)
 have e3:∀ y,shf low y=if y>low then y+3 else y:=fun y=>by unfold shf;split <;> omega
 refine(List.perm_ext_iff_of_nodup ?_ (g7 _)).mpr fun z=>?_
 ·rw[List.nodup_append]
  refine⟨?_,?_,?_⟩
  ·simp only[List.nodup_cons,List.mem_cons,List.not_mem_nil,or_false,not_false_eq_true,List.nodup_nil,and_true,not_or]
   omega
  ·rw[List.nodup_iff_pairwise_ne,List.pairwise_map]
   refine List.Pairwise.imp_of_mem ?_ (List.nodup_iff_pairwise_ne.mp ndR)
   intro a b ha hb hab e
   rw[e3,e3] at e
   split at e <;> split at e <;> omega
  ·intro x hx y hy e
   obtain⟨v,hv,rfl⟩:=List.mem_map.mp hy
   have hv:=(mR v).mp hv
   rw[e3] at e
   simp only[List.mem_cons,List.not_mem_nil,or_false] at hx
   split at e <;> omega
 ·rw[List.mem_append,gf,List.mem_map]
  constructor
  ·rintro(hx | ⟨v,hv,rfl⟩)
   ·simp only[List.mem_cons,List.not_mem_nil,or_false] at hx
    omega
   ·have hv:=(mR v).mp hv
    rw[e3]
    split <;> omega
  ·intro hz
   by_cases c1:z<low
   ·exact .inr ⟨z,(mR z).mpr (by omega),by rw[e3,if_neg (by omega)]⟩
   ·by_cases c2:z≤low+3
    ·left
     simp only[List.mem_cons,List.not_mem_nil,or_false]
     omega
    ·exact .inr ⟨z-3,(mR (z-3)).mpr (by omega),by rw[e3,if_pos (by omega)];omega⟩
theorem zw {rs:List Int}(h:rs.Perm (df rs.length)):Rw (rs.map fun x=>x+1):=by
 unfold Rw
 have e:a6 (rs.map fun x=>x+1)=rs.map fun x=>x+1:=by
  unfold a6
  rw[List.map_map]
  refine List.map_congr_left fun x hx=>?_
  have:=gf.mp (h.mem_iff.mp hx)
  show aZ (x+1)=x+1
  unfold aZ
  rw[if_neg (by omega)]
 rw[e,List.length_map]
 refine(h.map _).trans ?_
 have:(df rs.length).map (fun x=>x+1)=fF rs.length:=by
  unfold df fF
  rw[List.map_map]
  refine List.map_congr_left fun i _=>?_
  show (i:Int)+1=1+i
  omega
 rw[this]
theorem Rw.flip {rs:List Int}(h:Rw rs){j:Nat}{x:Int}(hx:rs[j]?=some x):Rw (rs.set j (0-x)):=by
 refine h.of ?_
 have e:a6 (rs.set j (0-x))=a6 rs:=by
  unfold a6
  rw[List.map_set]
  have:aZ (0-x)=aZ x:=by rw[Int.zero_sub,lA]
  rw[this]
  refine List.ext_getElem? fun i=>?_
  rw[List.getElem?_set]
  by_cases c:j=i
  ·subst c
   have hl:=(List.getElem?_eq_some_iff.mp hx).1
   rw[if_pos rfl,if_pos (by rw[List.length_map];exact hl),List.getElem?_map,hx]
   rfl
  ·rw[if_neg c]
 rw[e]
end Mir

set_option maxHeartbeats 2000000
namespace jr
open PySem PyProof.Rows
class RkP where
 G:Keyed→Prop
 nm:Keyed→Int
 kd:SortKind
variable [RkP]
noncomputable def num (p:Keyed):Int:=RkP.nm p
noncomputable def K (xs:Array Keyed)(i:Nat):Int:=match xs[i]? with
 | some p=>num p
 | none=>0
noncomputable def IntKeys (xs:Array Keyed):Prop:=∀ p∈xs.toList,RkP.G p
noncomputable def SortedTo (xs:Array Keyed)(k:Nat):Prop:=∀ i j,i≤j→j<k→K xs i≤K xs j
noncomputable abbrev oneType':SortKind:=RkP.kd
noncomputable def Asks (prog:Program)(w:World)(A:Around)(s:Shared):Prop:=∀ x y:Keyed,RkP.G x→RkP.G y→∀ (E:Value→Shared→Prop) (Q:Bool→Shared→Prop),Q (decide (num x<num y)) s→wpAny (model prog w) A (keyLt' oneType' x.1 y.1) Q E s
structure IKA (prog:Program) (w:World) (A:Around) (s:Shared) (xs:Array Keyed):Prop where
 ik:IntKeys xs
 as:Asks prog w A s
theorem K_congr {xs ys:Array Keyed}{i j:Nat}(h:xs[i]?=ys[j]?):K xs i=K ys j:=by unfold K;rw[h]
theorem K_bubble {xs:Array Keyed}{src d:Nat}(hs:src<xs.size)(hd:d≤src)(k:Nat):K (bubble xs src d) k=if k=src-d then K xs src else if src-d<k∧k≤src then K xs (k-1) else K xs k:=by
 have e:=getElem?_bubble hs d hd k
 split at e
 ·rw[if_pos (by assumption)];exact K_congr e
 ·rw[if_neg (by assumption)]
  split at e
  ·rw[if_pos (by assumption)];exact K_congr e
  ·rw[if_neg (by assumption)];exact K_congr e
theorem K_mirror {xs:Array Keyed}{i j:Nat}(hj:j≤xs.size)(k:Nat):K (mirror xs i j ((j-i)/2)) k=if i≤k∧k<j then K xs (i+j-1-k) else K xs k:=by
 have e:=getElem?_mirror_all (i:=i) hj k
 split at e
 ·rw[if_pos (by assumption)];exact K_congr e
 ·rw[if_neg (by assumption)];exact K_congr e
theorem K_mirror_equal {xs:Array Keyed}{i j:Nat}(hj:j≤xs.size)(heq:∀ k,i≤k→k<j→K xs k=K xs (j-1))(k:Nat):K (mirror xs i j ((j-i)/2)) k=K xs k:=by
 rw[K_mirror hj]
 by_cases c:i≤k∧k<j
 ·rw[if_pos c,heq k c.1 c.2]
  exact heq _ (by omega) (by omega)
 ·rw[if_neg c]
section
variable {prog:Program}{w:World}{A:Around}{E:Value→Shared→Prop}{s:Shared}
theorem AF {st:SortSt}{x y:Keyed}{i j:Int}{Q:Option Bool→SortSt→Prop}(as:Asks prog w A s)(hk:kindOf st=oneType')(hx:RkP.G x∧num x=i)(hy:RkP.G y∧num y=j)(h:Q (some (decide (i<j))) st):wpS (model prog w) A E s (lt' x y) Q st:=by
 rw[lt'_eq]
 refine wpS_bind (wpS_get ?_)
 rw[hk]
 refine wpS_bind (wpS_lift (wpAny_attempt (as x y hx.1 hy.1 _ _ ⟨rfl,?_⟩)))
 rw[hx.2,hy.2]
 exact wpS_pure h
theorem pT {st:SortSt}{arr:Array Keyed}{i:Nat}{Q:Keyed→SortSt→Prop}{p:Keyed}(hp:arr[i]?=some p)(h:Q p st):wpS (model prog w) A E s (elem' arr i) Q st:=by
 rw[elem'_eq,hp]
 exact wpS_pure h
theorem bQ {α:Type}{c:Prop}[Decidable c]{m m':StateT SortSt Sem α}{Q:α→SortSt→Prop}{st:SortSt}(h1:c→wpS (model prog w) A E s m Q st)(h2:¬ c→wpS (model prog w) A E s m' Q st):wpS (model prog w) A E s (if c then m else m') Q st:=by
 by_cases h:c
 ·rw[if_pos h];exact h1 h
 ·rw[if_neg h];exact h2 h
end
section
variable {a b out:Array Keyed}{ia ib k:Nat}
theorem wq {xs:Array Keyed}{i:Nat}{p:Keyed}(h:xs[i]?=some p):K xs i=num p:=by unfold K;rw[h]
end
structure SB (a₀:Array Keyed) (pd:Array (Nat×Nat×Nat)) (lo:Nat) (f:Nat→Int) (st:SortSt):Prop where
 perm:(arrOf st).Perm a₀
 kd:kindOf st=oneType'
 fl:failedOf st=none
 pd:pendingOf st=pd
 pre:∀ i,i<lo→K (arrOf st) i=f i
section
variable {a₀:Array Keyed}{pd:Array (Nat×Nat×Nat)}{lo:Nat}{f:Nat→Int}{st:SortSt}
theorem SB.sz (h:SB a₀ pd lo f st):(arrOf st).size=a₀.size:=h.perm.size_eq
theorem SB.put (h:SB a₀ pd lo f st){xs:Array Keyed}(hp:xs.Perm (arrOf st))(hk:∀ i,i<lo→K xs i=K (arrOf st) i):SB a₀ pd lo f (setArr st xs):=⟨hp.trans h.perm,h.kd,h.fl,h.pd,fun i hi=>(hk i hi).trans (h.pre i hi)⟩
theorem SB.item (h:SB a₀ pd lo f st)(h0:IntKeys a₀){i:Nat}(hi:i<a₀.size):∃ p,(arrOf st)[i]?=some p∧RkP.G p∧num p=K (arrOf st) i:=by
 have hi':i<(arrOf st).size:=h.sz.symm ▸ hi
 have e:(arrOf st)[i]?=some (arrOf st)[i]:=getElem?_pos _ i hi'
 exact⟨(arrOf st)[i],e,h0 _ ((Array.perm_iff_toList_perm.mp h.perm).mem_iff.mp (Array.getElem_mem_toList hi')),(wq e).symm⟩
end
noncomputable def gB (lo:Nat)(xs:Array Keyed)(n:Nat):Prop:=∀ i j,i≤j→j<n→K xs (lo+i)≤K xs (lo+j)
noncomputable def iW (lo:Nat)(xs:Array Keyed)(n:Nat):Prop:=∀ i j,i≤j→j<n→K xs (lo+j)≤K xs (lo+i)
theorem gB.more {lo n:Nat}{xs:Array Keyed}(h:gB lo xs n)(hn:1≤n)(k:K xs (lo+n-1)≤K xs (lo+n)):gB lo xs (n+1):=fun i j hij hj=>by
 by_cases c:j<n
 ·exact h i j hij c
 ·obtain rfl:j=n:=by omega
  by_cases d:i=j
  ·rw[d];exact Int.le_refl _
  ·have z:=h i (j-1) (by omega) (by omega)
   rw[show lo+(j-1)=lo+j-1 by omega] at z
   exact Int.le_trans z k
theorem iW.more {lo n:Nat}{xs:Array Keyed}(h:iW lo xs n)(hn:1≤n)(k:K xs (lo+n)≤K xs (lo+n-1)):iW lo xs (n+1):=fun i j hij hj=>by
 by_cases c:j<n
 ·exact h i j hij c
 ·obtain rfl:j=n:=by omega
  by_cases d:i=j
  ·rw[d];exact Int.le_refl _
  ·have z:=h i (j-1) (by omega) (by omega)
   rw[show lo+(j-1)=lo+j-1 by omega] at z
   exact Int.le_trans k z
theorem gB.one {lo:Nat}{xs:Array Keyed}:gB lo xs 1:=fun i j hij hj=>by
 obtain rfl:i=j:=by omega
 exact Int.le_refl _
theorem iW.one {lo:Nat}{xs:Array Keyed}:iW lo xs 1:=fun i j hij hj=>by
 obtain rfl:i=j:=by omega
 exact Int.le_refl _
theorem iW.congr {lo n:Nat}{xs ys:Array Keyed}(h:iW lo xs n)(e:∀ k,K ys k=K xs k):iW lo ys n:=fun i j hij hj=>by rw[e,e];exact h i j hij hj
noncomputable def upL (lo a m:Nat):StateT SortSt Sem AscSt :=
 forIn [a:m] ((none,a):AscSt) fun _ c=>do
  let x ← ltAt' (lo+c.2) (lo+c.2-1)
  match x with
  | some b=>if b=true then pure (ForInStep.done (none,c.2)) else pure (ForInStep.yield (none,c.2+1))
  | _=>pure (ForInStep.done (some none,c.2))
noncomputable def wt (lo n m:Nat):StateT SortSt Sem (Option Nat):=do
 reverseSlice' lo (lo+n)
 let c ← upL lo n m
 match c.1 with
 | some r=>pure r
 | none=>pure (some c.2)
noncomputable def sN (lo n m:Nat):StateT SortSt Sem DescSt :=
 forIn [n:m] ((none,n,0):DescSt) fun _ c=>do
  let x ← ltAt' (lo+c.2.1) (lo+c.2.1-1)
  match x with
  | some b =>
   if b=true then
    if c.2.2>0 then do
     reverseSlice' (lo+c.2.1-(c.2.2+1)) (lo+c.2.1)
     pure (ForInStep.yield (none,c.2.1+1,0))
    else pure (ForInStep.yield (none,c.2.1+1,0))
   else do
    let y ← ltAt' (lo+c.2.1-1) (lo+c.2.1)
    match y with
    | some g=>if g=true then pure (ForInStep.done (none,c.2.1,c.2.2)) else pure (ForInStep.yield (none,c.2.1+1,c.2.2+1))
    | _=>pure (ForInStep.done (some none,c.2.1,c.2.2))
  | _=>pure (ForInStep.done (some none,c.2.1,c.2.2))
noncomputable def pU (lo n m:Nat):StateT SortSt Sem (Option Nat):=do
 liftM (rule "list.sort.descending-run")
 let c ← sN lo (n+1) m
 match c.1 with
 | some r=>pure r
 | none =>
  if c.2.2>0 then do
   reverseSlice' (lo+c.2.1-(c.2.2+1)) (lo+c.2.1)
   wt lo c.2.1 m
  else wt lo c.2.1 m
theorem uy (lo m:Nat):countRun' lo m=(do
  let c ← upL lo 1 m
  match c.1 with
  | some r=>pure r
  | none =>
   if (c.2 == m)=true then pure (some c.2)
   else if c.2>1 then do
    let x ← ltAt' lo (lo+c.2-1)
    match x with
    | some b=>if b=true then pure (some c.2) else do
      reverseSlice' lo (lo+c.2)
      pU lo c.2 m
    | _=>pure none
   else pU lo c.2 m):=by
 rw[countRun'_eq]
 dsimp only
 unfold pU wt sN upL
 congr 1
 funext c
 obtain⟨r,n⟩:=c
 cases r with
 | some r=>rfl
 | none =>
  dsimp only
  split
  ·rfl
  ·split
   ·congr 1;funext x
    cases x with
    | none=>rfl
    | some b =>
     dsimp only
     split
     ·rfl
     ·congr 1;funext _r
      congr 1;funext _u
      congr 1;congr 1;funext s2
      obtain⟨r2,n2,q2⟩:=s2
      cases r2 with
      | some r2=>rfl
      | none =>
       dsimp only
       split
       ·congr 1;funext _v;congr 1;funext _w;congr 1;funext s3;obtain⟨r3,n3⟩:=s3;cases r3 <;> rfl
       ·congr 1;funext _w;congr 1;funext s3;obtain⟨r3,n3⟩:=s3;cases r3 <;> rfl
   ·congr 1;funext _u
    congr 1;congr 1;funext s2
    obtain⟨r2,n2,q2⟩:=s2
    cases r2 with
    | some r2=>rfl
    | none =>
     dsimp only
     split
     ·congr 1;funext _v;congr 1;funext _w;congr 1;funext s3;obtain⟨r3,n3⟩:=s3;cases r3 <;> rfl
     ·congr 1;funext _w;congr 1;funext s3;obtain⟨r3,n3⟩:=s3;cases r3 <;> rfl
theorem AG {f:Nat→Int}{lo l k i:Nat}(hi:i≤k):(if lo+i=lo+l then f (lo+k) else if lo+l<lo+i∧lo+i≤lo+k then f (lo+i-1) else f (lo+i))=if i=l then f (lo+k) else if i<l then f (lo+i) else f (lo+(i-1)):=by
 by_cases c:i=l
 ·rw[if_pos (congrArg _ c),if_pos c]
 ·rw[if_neg (fun z=>c (Nat.add_left_cancel z)),if_neg c]
  by_cases d:i<l
  ·rw[if_neg (fun z=>Nat.lt_asymm d (Nat.lt_of_add_lt_add_left z.1)),if_pos d]
  ·rw[if_pos ⟨Nat.add_lt_add_left (Nat.lt_of_le_of_ne (Nat.le_of_not_lt d) (Ne.symm c)) lo,Nat.add_le_add_left hi lo⟩,if_neg d,Nat.add_sub_assoc (by omega)]
theorem yu {X Y:Nat→Int}{l k:Nat}(hY:∀ i,i≤k→Y i=if i=l then X k else if i<l then X i else X (i-1))(up:∀ i j,i≤j→j<k→X i≤X j)(p4:∀ i,i<l→X i≤X k)(p5:∀ i,l≤i→i<k→X k<X i)(i j:Nat)(hij:i≤j)(hj:j≤k):Y i≤Y j:=by
 rw[hY i (Nat.le_trans hij hj),hY j hj]
 by_cases ci:i=l
 ·rw[if_pos ci]
  by_cases cj:j=l
  ·rw[if_pos cj];exact Int.le_refl _
  ·rw[if_neg cj,if_neg (by omega)];exact Int.le_of_lt (p5 _ (by omega) (by omega))
 ·rw[if_neg ci]
  by_cases ci2:i<l
  ·rw[if_pos ci2]
   by_cases cj:j=l
   ·rw[if_pos cj];exact p4 i ci2
   ·rw[if_neg cj]
    by_cases cj2:j<l
    ·rw[if_pos cj2]
     by_cases cl:l≤k
     ·exact up i j hij (Nat.lt_of_lt_of_le cj2 cl)
     ·by_cases ck:j=k
      ·rw[ck];exact p4 i ci2
      ·exact up i j hij (Nat.lt_of_le_of_ne hj ck)
    ·rw[if_neg cj2];exact up i (j-1) (by omega) (by omega)
  ·rw[if_neg ci2,if_neg (by omega),if_neg (by omega)];exact up _ _ (Nat.sub_le_sub_right hij 1) (by omega)
section
variable {prog:Program}{w:World}{A:Around}{E:Value→Shared→Prop}{s:Shared}{a₀:Array Keyed}{pd:Array (Nat×Nat×Nat)}{lo:Nat}{f:Nat→Int}
theorem hC {st:SortSt}{i j:Nat}{Q:Option Bool→SortSt→Prop}(hB:SB a₀ pd lo f st)(h0:IKA prog w A s a₀)(hi:i<a₀.size)(hj:j<a₀.size)(h:Q (some (decide (K (arrOf st) i<K (arrOf st) j))) st):wpS (model prog w) A E s (ltAt' i j) Q st:=by
 obtain⟨p,e1,g1⟩:=hB.item h0.ik hi
 obtain⟨q,e2,g2⟩:=hB.item h0.ik hj
 rw[ltAt'_eq]
 refine wpS_bind (wpS_get ?_)
 refine wpS_bind (pT e1 (wpS_bind (pT e2 ?_)))
 exact AF h0.as hB.kd g1 g2 h
theorem SB.turn {st:SortSt}(hB:SB a₀ pd lo f st){i j:Nat}(hi:lo≤i)(hj:j≤a₀.size):SB a₀ pd lo f (setArr st (mirror (arrOf st) i j ((j-i)/2))) :=
 hB.put (mirror_perm _ _ _ _) fun k hk=>by rw[K_mirror (by rw[hB.sz];exact hj),if_neg (by omega)]
theorem sO {st:SortSt}{a m:Nat}{Q:AscSt→SortSt→Prop}(h0:IKA prog w A s a₀)(hn:lo+m≤a₀.size)(ha:1≤a)(han:a≤m)(hB:SB a₀ pd lo f st)(hs:gB lo (arrOf st) a)
  (h:∀ n,a≤n→n≤m→gB lo (arrOf st) n→(n=m∨K (arrOf st) (lo+n)<K (arrOf st) (lo+n-1))→Q (none,n) st):wpS (model prog w) A E s (upL lo a m) Q st:=by
 unfold upL
 refine wpS_forRange (I:=fun x c st'=>st'=st∧c=(none,x)∧gB lo (arrOf st) x) ?step ?fin ⟨rfl,rfl,hs⟩
 case fin =>
  rintro c st' ⟨e1,e2,g⟩
  subst e1 e2
  have e:max a m=m:=Nat.max_eq_right han
  rw[e] at g ⊢
  exact h m han (Nat.le_refl _) g (.inl rfl)
 case step =>
  rintro x c st' hax hxm ⟨e1,e2,g⟩
  subst e1 e2
  dsimp only
  refine wpS_bind (hC hB h0 (by omega) (by omega) ?_)
  dsimp only
  refine bQ (fun z=>?_) (fun z=>?_)
  ·exact wpS_pure (h x hax (by omega) g (.inr (of_decide_eq_true z)))
  ·exact wpS_pure ⟨rfl,rfl,g.more (by omega) (Int.not_lt.mp fun y=>z (decide_eq_true y))⟩
theorem pW {st:SortSt}{n m:Nat}{Q:Option Nat→SortSt→Prop}(h0:IKA prog w A s a₀)(hn:lo+m≤a₀.size)(h1:1≤n)(hnn:n≤m)(hB:SB a₀ pd lo f st)(hs:iW lo (arrOf st) n)
  (h:∀ k st',SB a₀ pd lo f st'→1≤k→k≤m→gB lo (arrOf st') k→Q (some k) st'):wpS (model prog w) A E s (wt lo n m) Q st:=by
 unfold wt
 have hz:lo+n≤(arrOf st).size:=by rw[hB.sz];omega
 have hB':=hB.turn (i:=lo) (j:=lo+n) (Nat.le_refl _) (by omega)
 refine wpS_bind (wpS_reverse (wpS_bind (sO h0 hn h1 hnn hB' (fun i j hij hj=>?_) fun k k1 k2 g _=>wpS_pure (h k _ hB' (by omega) k2 g))))
 show K (mirror (arrOf st) lo (lo+n) _) (lo+i)≤K (mirror (arrOf st) lo (lo+n) _) (lo+j)
 rw[K_mirror hz,K_mirror hz,if_pos (by omega),if_pos (by omega)]
 have z:=hs (n-1-j) (n-1-i) (by omega) (by omega)
 rw[show lo+(n-1-j)=lo+(lo+n)-1-(lo+j) by omega,show lo+(n-1-i)=lo+(lo+n)-1-(lo+i) by omega] at z
 exact z
theorem uz {st:SortSt}{n m:Nat}{Q:DescSt→SortSt→Prop}(h0:IKA prog w A s a₀)(hn:lo+m≤a₀.size)(h1:1≤n)(hnn:n≤m)(hB:SB a₀ pd lo f st)(hs:iW lo (arrOf st) n)
  (h:∀ k q st',SB a₀ pd lo f st'→n≤k→k≤m→iW lo (arrOf st') k→q+1≤k→(∀ i,lo+k-(q+1)≤i→i<lo+k→K (arrOf st') i=K (arrOf st') (lo+k-1))→Q (none,k,q) st'):wpS (model prog w) A E s (sN lo n m) Q st:=by
 unfold sN
 refine wpS_forRange (I:=fun x c st'=>∃ q,c=(none,x,q)∧SB a₀ pd lo f st'∧iW lo (arrOf st') x∧q+1≤x∧(∀ i,lo+x-(q+1)≤i→i<lo+x→K (arrOf st') i=K (arrOf st') (lo+x-1))) ?step ?fin
  ⟨0,rfl,hB,hs,by omega,fun i z1 z2=>congrArg _ (by omega)⟩
 case fin =>
  rintro c st' ⟨q,e,g1,g2,g3,g4⟩
  subst e
  have e:max n m=m:=Nat.max_eq_right hnn
  rw[e] at g2 g3 g4 ⊢
  exact h m q st' g1 hnn (Nat.le_refl _) g2 g3 g4
 case step =>
  rintro x c st' hax hxm ⟨q,e,g1,g2,g3,g4⟩
  subst e
  dsimp only
  refine wpS_bind (hC g1 h0 (by omega) (by omega) ?_)
  dsimp only
  refine bQ (fun z=>?_) (fun z=>?_)
  ·have z:=Int.le_of_lt (of_decide_eq_true z)
   refine bQ (fun y=>?_) (fun y=>?_)
   ·have hz:lo+x≤(arrOf st').size:=by rw[g1.sz];omega
    have ke:=K_mirror_equal (i:=lo+x-(q+1)) hz g4
    refine wpS_bind (wpS_reverse (wpS_pure ⟨0,rfl,g1.turn (by omega) (by omega),(g2.congr ke).more (by omega) ?_,by omega,fun i z1 z2=>congrArg _ (by omega)⟩))
    show K (mirror (arrOf st') _ _ _) _≤K (mirror (arrOf st') _ _ _) _
    rw[ke,ke]
    exact z
   ·exact wpS_pure ⟨0,rfl,g1,g2.more (by omega) z,by omega,fun i z1 z2=>congrArg _ (by omega)⟩
  ·have z:K (arrOf st') (lo+x-1)≤K (arrOf st') (lo+x):=Int.not_lt.mp fun y=>z (decide_eq_true y)
   refine wpS_bind (hC g1 h0 (by omega) (by omega) ?_)
   dsimp only
   refine bQ (fun y=>?_) (fun y=>?_)
   ·exact wpS_pure (h x q st' g1 hax (by omega) g2 g3 g4)
   ·have y:K (arrOf st') (lo+x)≤K (arrOf st') (lo+x-1):=Int.not_lt.mp fun u=>y (decide_eq_true u)
    have ee:K (arrOf st') (lo+x)=K (arrOf st') (lo+x-1):=Int.le_antisymm y z
    refine wpS_pure ⟨q+1,rfl,g1,g2.more (by omega) y,by omega,fun i z1 z2=>?_⟩
    rw[show lo+(x+1)-1=lo+x by omega]
    by_cases c:i=lo+x
    ·rw[c]
    ·rw[ee];exact g4 i (by omega) (by omega)
theorem m8 {st:SortSt}{n m:Nat}{Q:Option Nat→SortSt→Prop}(h0:IKA prog w A s a₀)(hn:lo+m≤a₀.size)(hnn:n+1≤m)(hB:SB a₀ pd lo f st)(hs:iW lo (arrOf st) (n+1))
  (h:∀ k st',SB a₀ pd lo f st'→1≤k→k≤m→gB lo (arrOf st') k→Q (some k) st'):wpS (model prog w) A E s (pU lo n m) Q st:=by
 unfold pU
 refine wpS_bind (wpS_lift (wpAny_rule ⟨rfl,wpS_bind (uz h0 hn (by omega) hnn hB hs fun k q st' g1 k1 k2 g2 g3 g4=>?_)⟩))
 dsimp only
 have hz:lo+k≤(arrOf st').size:=by rw[g1.sz];omega
 refine bQ (fun y=>?_) (fun y=>?_)
 ·exact wpS_bind (wpS_reverse (pW h0 hn (by omega) k2 (g1.turn (by omega) (by omega)) (g2.congr (K_mirror_equal (i:=lo+k-(q+1)) hz g4)) h))
 ·exact pW h0 hn (by omega) k2 g1 g2 h
theorem q9 {st:SortSt}{m:Nat}{Q:Option Nat→SortSt→Prop}(h0:IKA prog w A s a₀)(hn:lo+m≤a₀.size)(h1:1≤m)(hB:SB a₀ pd lo f st)
  (h:∀ k st',SB a₀ pd lo f st'→1≤k→k≤m→gB lo (arrOf st') k→Q (some k) st'):wpS (model prog w) A E s (countRun' lo m) Q st:=by
 rw[uy]
 refine wpS_bind (sO h0 hn (Nat.le_refl 1) h1 hB gB.one fun n n1 n2 g hor=>?_)
 dsimp only
 refine bQ (fun c=>?_) (fun c=>?_)
 ·exact wpS_pure (h n st hB n1 n2 g)
 ·have c:n≠m:=fun z=>c (by rw[z];exact beq_self_eq_true _)
  have hlt:=Int.le_of_lt (hor.resolve_left c)
  refine bQ (fun d=>?_) (fun d=>?_)
  ·refine wpS_bind (hC hB h0 (by omega) (by omega) ?_)
   dsimp only
   refine bQ (fun y=>?_) (fun y=>?_)
   ·exact wpS_pure (h n st hB n1 n2 g)
   ·have y:K (arrOf st) (lo+n-1)≤K (arrOf st) lo:=Int.not_lt.mp fun u=>y (decide_eq_true u)
    have hz:lo+n≤(arrOf st).size:=by rw[hB.sz];omega
    have all:∀ k,lo≤k→k<lo+n→K (arrOf st) k=K (arrOf st) (lo+n-1):=fun k z1 z2=>by
     have a1:=g 0 (k-lo) (by omega) (by omega)
     have a2:=g (k-lo) (n-1) (by omega) (by omega)
     rw[show lo+(k-lo)=k by omega] at a1 a2
     rw[show lo+(n-1)=lo+n-1 by omega] at a2
     rw[Nat.add_zero] at a1
     omega
    have ke:=K_mirror_equal (i:=lo) hz all
    have dn:iW lo (arrOf st) n:=fun i j hij hj=>by rw[all (lo+i) (by omega) (by omega),all (lo+j) (by omega) (by omega)];exact Int.le_refl _
    exact wpS_bind (wpS_reverse (m8 h0 hn (by omega) (hB.turn (Nat.le_refl _) (by omega)) ((dn.more (by omega) hlt).congr ke) h))
  ·obtain rfl:n=1:=by omega
   exact m8 h0 hn (by omega) hB (iW.one.more (Nat.le_refl _) hlt) h
theorem wu {st:SortSt}{n ok:Nat}{Q:Bool→SortSt→Prop}(h0:IKA prog w A s a₀)(hn:lo+n≤a₀.size)(C8:1≤ok)(hok:ok≤n)(hB:SB a₀ pd lo f st)(hs:gB lo (arrOf st) ok)
  (h:∀ st',SB a₀ pd lo f st'→gB lo (arrOf st') n→Q true st'):wpS (model prog w) A E s (binarySort' lo n ok) Q st:=by
 rw[binarySort'_eq]
 have em:max ok 1=ok:=Nat.max_eq_left C8
 rw[em]
 refine wpS_bind (wpS_mono (wpS_forRange (I:=fun k c st'=>c=(none,())∧SB a₀ pd lo f st'∧gB lo (arrOf st') k) (Q:=fun c st'=>c=(none,())∧SB a₀ pd lo f st'∧gB lo (arrOf st') n) ?step ?fin ⟨rfl,hB,hs⟩) ?post)
 case post =>
  rintro c st' ⟨e,g1,g2⟩
  subst e
  exact wpS_pure (h st' g1 g2)
 case fin =>
  rintro c st' ⟨e,g1,g2⟩
  have e2:max ok n=n:=Nat.max_eq_right hok
  rw[e2] at g2
  exact⟨e,g1,g2⟩
 case step =>
  rintro k c st' hak hkn ⟨e,g1,g2⟩
  subst e
  have hk:lo+k<a₀.size:=by omega
  refine wpS_bind (wpS_mono (wpS_forRange (I:=fun x c gO=>gO=st'∧∃ l r,c=(none,l,r)∧l≤r∧r≤k∧r-l≤k-x∧(∀ i,i<l→K (arrOf st') (lo+i)≤K (arrOf st') (lo+k))∧(∀ i,r≤i→i<k→K (arrOf st') (lo+k)<K (arrOf st') (lo+i)))
   (Q:=fun c gO=>gO=st'∧∃ l r,c=(none,l,r)∧l≤k∧(∀ i,i<l→K (arrOf st') (lo+i)≤K (arrOf st') (lo+k))∧(∀ i,l≤i→i<k→K (arrOf st') (lo+k)<K (arrOf st') (lo+i))) ?istep ?ifin
   ⟨rfl,0,k,rfl,Nat.zero_le _,Nat.le_refl _,Nat.le_refl _,fun i z=>absurd z (Nat.not_lt_zero _),fun i z1 z2=>absurd z1 (by omega)⟩) ?ipost)
  case ifin =>
   rintro c gO ⟨e1,l,r,e2,p1,p2,p3,p4,p5⟩
   obtain rfl:l=r:=by omega
   exact⟨e1,l,l,e2,p2,p4,p5⟩
  case istep =>
   rintro x c gO _ hxk ⟨e1,l,r,e2,p1,p2,p3,p4,p5⟩
   subst e1 e2
   dsimp only
   refine bQ (fun y=>?_) (fun y=>?_)
   ·obtain rfl:l=r:=by omega
    exact wpS_pure ⟨rfl,l,l,rfl,p2,p4,p5⟩
   ·refine wpS_bind (hC g1 h0 hk (by omega) ?_)
    dsimp only
    refine bQ (fun z=>?_) (fun z=>?_)
    ·have z:=of_decide_eq_true z
     exact wpS_pure ⟨rfl,l,(l+r)/2,rfl,by omega,by omega,by omega,p4,fun i z1 z2=>Int.lt_of_lt_of_le z (g2 _ _ z1 z2)⟩
    ·have z:=Int.not_lt.mp fun u=>z (decide_eq_true u)
     exact wpS_pure ⟨rfl,(l+r)/2+1,r,rfl,by omega,by omega,by omega,fun i z1=>Int.le_trans (g2 i ((l+r)/2) (by omega) (by omega)) z,p5⟩
  case ipost =>
   rintro c gO ⟨e1,l,r,e2,p2,p4,p5⟩
   subst e1 e2
   show wpS _ _ _ _ (do moveDown' (lo+k) (lo+l);pure (ForInStep.yield (none,()))) _ _
   rw[moveDown'_eq]
   have hz:lo+k<(arrOf gO).size:=by rw[g1.sz];exact hk
   have dl:lo+k-(lo+l)=k-l:=Nat.add_sub_add_left lo k l
   rw[dl]
   have pk:lo+k-(k-l)=lo+l:=by omega
   have kb:=fun i=>K_bubble (d:=k-l) hz (Nat.le_trans (Nat.sub_le k l) (Nat.le_add_left k lo)) i
   rw[pk] at kb
   refine wpS_bind (wpS_modify (wpS_pure ⟨rfl,g1.put (bubble_perm _ _ _) fun i hi=>?_,fun i j hij hj=>?_⟩))
   ·rw[kb,if_neg (by omega),if_neg (by omega)]
   ·refine yu (X:=fun i=>K (arrOf gO) (lo+i)) (Y:=fun i=>K (bubble (arrOf gO) (lo+k) (k-l)) (lo+i)) (l:=l) (k:=k) (fun i hi=>?_) (fun a b=>g2 a b) p4 p5 i j hij (Nat.le_of_lt_succ hj)
    show K (bubble (arrOf gO) (lo+k) (k-l)) (lo+i)=_
    rw[kb]
    exact AG (f:=fun i=>K (arrOf gO) i) hi
end
section
variable {prog:Program}{w:World}{A:Around}{E:Value→Shared→Prop}{s:Shared}{a₀:Array Keyed}
theorem oG {xs:Array Keyed}{n:Nat}(h:gB 0 xs n):SortedTo xs n:=fun i j hij hj=>by
 have z:=h i j hij hj
 rw[Nat.zero_add,Nat.zero_add] at z
 exact z
end
end jr




namespace L2
theorem AH {b:Bool}{A B:Prop}(hb:b=true)(h:A):if b=true then A else B:=by rw[if_pos hb];exact h
theorem BY {b:Bool}{A B:Prop}(hb:b=false)(h:B):if b=true then A else B:=by rw[if_neg (by rw[hb];decide)];exact h
end L2
namespace Mir
open PySem L2
noncomputable def jt:Sp:=fun vs H Q _=>∃ (t:Addr) (rs:List Int),vs=[.ref t]∧H t=some (.tup (iV rs))∧rs.length≤100∧∀ (t':Addr) (H':Hp),aq H H'→H' t'=some (.tup (iV (frm rs)))→Q (.ref t') H'
noncomputable def lC:Sp:=fun vs H Q _=>∃ (t:Addr) (rs:List Int),vs=[.ref t]∧H t=some (.tup (iV rs))∧rs.length≤100∧∀ (l:Addr) (H':Hp),H l=none→aq H H'→H' l=some (.lst (iV (jq (frm rs) (rs.length+1))))→Q (.ref l) H'
theorem eQ (a b:List Int):iV (a++b)=iV a++iV b:=by unfold iV;rw[List.map_append]
theorem dg {rs:List Int}{j:Nat}(h:j<rs.length):(iV rs)[j]?=some (.int (rs.getD j 0)):=Ax (getD_get h)
theorem yv (x:Int):(if x<0 then -x else x)=aZ x:=rfl
end Mir

namespace L2
open PySem PySem.Spec PyProof.Rows
theorem iX {X:Cx}{K:PySem.W.Frag}(hK:X.K=K)(hu:X.A.units<cLine):OpR X (compareOp .Eq) (fun x y H Q=>∃ (a b:Addr) (xs:List V),x=.ref a∧y=.ref b∧SqL K H a xs∧SqL K H b []∧Q (.bl (decide (xs.length=0))) H):=by
 subst hK
 intro pins s σ H x y v u Q I rx ry h
 obtain⟨a,b,xs,rfl,rfl,ha,hb,q⟩:=h
 cases rx
 cases ry
 obtain⟨i1,r1,p1,z1⟩:=I.list ha
 obtain⟨i2,r2,p2,z2⟩:=I.list hb
 have l1:xs.length=i1.length:=r1.length
 have l2:0=i2.length:=r2.length
 by_cases c:xs.length=0
 ·refine SeqAt.eq_listAt (e:=fun j=>true) p1.isList p2.isList (by simp only[List.size_toArray];omega) hu (fun j h1 h2=>?_) ⟨.bl (decide (xs.length=0)),H,I,?_,q⟩
  ·exfalso
   simp only[List.size_toArray] at h1
   omega
  ·show Value.bool _=Value.bool _
   congr 1
   rw[decide_eq_true c]
   exact List.all_eq_true.mpr fun _ _=>rfl
 ·refine SeqAt.eq_list_lengthsAt p1.isList p2.isList (by simp only[List.size_toArray,bne_iff_ne];omega) hu ⟨.bl (decide (xs.length=0)),H,I,?_,q⟩
  show Value.bool _=Value.bool _
  rw[decide_eq_false c]
end L2

namespace Mir
open PySem L2
open Classical
noncomputable def hE (fs:List Int)(a m:Nat):List (Int×Int):=((List.range m).filter fun b=>decide (Wh fs a b)).map fun (b:Nat)=>((a:Int),(b:Int))
noncomputable def whL (fs:List Int)(i:Nat):List (Int×Int):=(List.range i).flatMap fun a=>hE fs a fs.length
noncomputable def lD (fs:List Int)(p:Int×Int):Bool:=decide (Kn fs p.1.toNat p.2.toNat)
noncomputable def b4 (fs:List Int):List (Int×Int):=(whL fs fs.length).filter (lD fs)
theorem rb (fs:List Int)(a m:Nat):hE fs a (m+1)=hE fs a m++(if Wh fs a m then [((a:Int),(m:Int))] else []):=by
 unfold hE
 rw[List.range_succ,List.filter_append,List.map_append,List.filter_cons,List.filter_nil]
 congr 1
 by_cases c:Wh fs a m
 ·rw[if_pos (decide_eq_true c),if_pos c];rfl
 ·rw[if_neg (by rw[decide_eq_false c];decide),if_neg c];rfl
theorem ju (fs:List Int)(i:Nat):whL fs (i+1)=whL fs i++hE fs i fs.length:=by unfold whL;rw[List.range_succ,List.flatMap_append];simp
theorem j4 {fs:List Int}{a m:Nat}{p:Int×Int}:p∈hE fs a m↔∃ b:Nat,b<m∧Wh fs a b∧p=((a:Int),(b:Int)):=by
 unfold hE
 rw[List.mem_map]
 constructor
 ·rintro⟨b,hb,rfl⟩
  obtain⟨h1,h2⟩:=List.mem_filter.mp hb
  exact⟨b,List.mem_range.mp h1,of_decide_eq_true h2,rfl⟩
 ·rintro⟨b,h1,h2,rfl⟩
  exact⟨b,List.mem_filter.mpr ⟨List.mem_range.mpr h1,decide_eq_true h2⟩,rfl⟩
theorem yw {fs:List Int}{p:Int×Int}:p∈whL fs fs.length↔∃ a b:Nat,Wh fs a b∧p=((a:Int),(b:Int)):=by
 unfold whL
 rw[List.mem_flatMap]
 constructor
 ·rintro⟨a,ha,h⟩
  obtain⟨b,_,h2,rfl⟩:=j4.mp h
  exact⟨a,b,h2,rfl⟩
 ·rintro⟨a,b,W,rfl⟩
  exact⟨a,List.mem_range.mpr (Nat.lt_trans W.lt W.lb),j4.mpr ⟨b,W.lb,W,rfl⟩⟩
theorem jv {fs:List Int}{a b c:Nat}(h1:Kn fs a b)(h2:Kn fs a c):b=c:=by
 by_cases x:b<c
 ·exact absurd h1.1 (h2.2 b x)
 ·by_cases y:c<b
  ·exact absurd h2.1 (h1.2 c y)
  ·omega
theorem pX {fs:List Int}{a:Nat}:∀ b,Wh fs a b→∃ c,Kn fs a c:=fun b=>by
 induction b using Nat.strongRecOn with
 | _ b ih =>
  intro W
  by_cases h:∃ c,c<b∧Wh fs a c
  ·obtain⟨c,h1,h2⟩:=h
   exact ih c h1 h2
  ·exact⟨b,W,fun c hc hw=>h ⟨c,hc,hw⟩⟩
theorem sP {fs:List Int}{a:Nat}:(∀ b,¬ Wh fs a b)∧(hE fs a fs.length).filter (lD fs)=[]∨∃ b,Kn fs a b∧(hE fs a fs.length).filter (lD fs)=[((a:Int),(b:Int))]:=by
 by_cases h:∃ b,Wh fs a b
 ·right
  obtain⟨b0,W⟩:=h
  obtain⟨b,hk⟩:=pX b0 W
  refine⟨b,hk,?_⟩
  have key:∀ m,(hE fs a m).filter (lD fs)=if b<m then [((a:Int),(b:Int))] else []:=fun m=>by
   induction m with
   | zero=>rw[if_neg (by omega)];rfl
   | succ m ih =>
    rw[rb,List.filter_append,ih]
    by_cases e:b=m
    ·subst e
     rw[if_neg (by omega),if_pos hk.1,if_pos (by omega),List.filter_cons,List.filter_nil,if_pos]
     ·rfl
     ·unfold lD;exact decide_eq_true (by simpa using hk)
    ·by_cases w:Wh fs a m
     ·have nk:¬ lD fs ((a:Int),(m:Int))=true:=fun z=>by
       have z:Kn fs a m:=by have:=of_decide_eq_true (show decide (Kn fs ((a:Int)).toNat ((m:Int)).toNat)=true from z);simpa using this
       exact e (jv hk z)
      rw[if_pos w,List.filter_cons,List.filter_nil,if_neg nk,List.append_nil]
      by_cases lt:b<m
      ·rw[if_pos lt,if_pos (by omega)]
      ·rw[if_neg lt,if_neg (by omega)]
     ·rw[if_neg w,List.filter_nil,List.append_nil]
      by_cases lt:b<m
      ·rw[if_pos lt,if_pos (by omega)]
      ·rw[if_neg lt,if_neg (by omega)]
  rw[key,if_pos hk.1.lb]
 ·left
  refine⟨fun b W=>h ⟨b,W⟩,?_⟩
  have:hE fs a fs.length=[]:=List.eq_nil_iff_forall_not_mem.mpr fun p hp=>by
   obtain⟨b,_,W,_⟩:=j4.mp hp
   exact h ⟨b,W⟩
  rw[this]
  rfl
theorem lF (fs:List Int):∀ i,((whL fs i).filter (lD fs)).length≤i
 | 0=>Nat.le_refl _
 | i+1=>by
  have ih:=lF fs i
  rw[ju,List.filter_append,List.length_append]
  rcases sP (fs:=fs) (a:=i) with ⟨_,e⟩ | ⟨b,_,e⟩
  ·rw[e];show _+0≤_;omega
  ·rw[e];show _+1≤_;omega
theorem gg (fs:List Int):(b4 fs).length≤fs.length:=lF fs _
noncomputable def pY:Sp:=fun vs H Q _=>∃ (t:Addr) (fs:List Int) (a:Nat),vs=[.ref t,.int a]∧H t=some (.tup (iV fs))∧(a6 fs).Nodup∧a<fs.length∧fs.length≤100 ∧
 (∀ b:Nat,Kn fs a b→Q (.int b) H)∧((∀ b,¬ Wh fs a b)→Q .non H)
noncomputable def gC:Sp:=fun vs H Q _=>∃ (t:Addr) (rs:List Int),vs=[.ref t]∧H t=some (.tup (iV rs))∧Fit rs∧∀ (l:Addr) (H':Hp),H l=none→aq H H'→TsT pr H' l (b4 (frm rs))→Q (.ref l) H'
noncomputable def kD (K:PySem.W.Frag):Sp:=fun vs H Q _=>∃ (a:Addr) (ns:List Int) (at' many:Nat),vs=[.ref a,.int at',.int many]∧SqL K H a (ns.map V.int)∧many≤40 ∧
 ∀ (t:Addr) (H':Hp) (rs:List Int),aq H H'→H' t=some (.tup (iV rs))→rs.length=many→Fit rs→Q (.ref t) H'
noncomputable def lH (K:PySem.W.Frag):Sp:=fun vs H Q _=>∃ (a:Addr) (ns:List Int) (at' room:Nat),vs=[.ref a,.int at',.int room]∧SqL K H a (ns.map V.int)∧ns.length≤63∧at'≤63∧room≤41 ∧
 ∀ (t:Addr) (H':Hp) (rs:List Int),aq H H'→H' t=some (.tup (iV rs))→rs.length<max room 5→Fit rs→Q (.ref t) H'
end Mir

namespace Mir
noncomputable def mkS (m:Int→Int)(p:Int×Int):Int→Int:=fun x=>if m x=m p.2 then m p.1 else m x
noncomputable def mk (ps:List (Int×Int)):Int→Int:=ps.foldl mkS id
theorem kW (ps:List (Int×Int))(p:Int×Int):mk (ps++[p])=mkS (mk ps) p:=by unfold mk;rw[List.foldl_append];rfl
noncomputable def Sn (ps:List (Int×Int))(x:Int):Prop:=∃ p∈ps,x=p.1∨x=p.2
theorem ir {ps:List (Int×Int)}{p:Int×Int}{x:Int}:Sn (ps++[p]) x↔Sn ps x∨x=p.1∨x=p.2:=by
 unfold Sn
 constructor
 ·rintro⟨q,hq,h⟩
  rcases List.mem_append.mp hq with hq | hq
  ·exact .inl ⟨q,hq,h⟩
  ·rw[List.mem_singleton.mp hq] at h
   exact .inr h
 ·rintro(⟨q,hq,h⟩ | h)
  ·exact⟨q,List.mem_append_left _ hq,h⟩
  ·exact⟨p,List.mem_append_right _ (List.mem_singleton.mpr rfl),h⟩
theorem gh {α:Type}{P:List α→Prop}(h0:P [])(h1:∀ l a,P l→P (l++[a])):∀ l,P l:=fun l=>by
 have:∀ l:List α,P l.reverse:=fun l=>by
  induction l with
  | nil=>exact h0
  | cons a r ih=>rw[List.reverse_cons];exact h1 _ _ ih
 have z:=this l.reverse
 rwa[List.reverse_reverse] at z
theorem iu (ps:List (Int×Int)):(∀ x,¬ Sn ps x→mk ps x=x)∧∀ x,Sn ps x→Sn ps (mk ps x):=by
 refine gh (P:=fun ps=>(∀ x,¬ Sn ps x→mk ps x=x)∧∀ x,Sn ps x→Sn ps (mk ps x)) ⟨fun _ _=>rfl,fun x ⟨p,h,_⟩=>by cases h⟩ ?_ ps
 intro ps p ⟨h1,h2⟩
 have a:∀ x,x=p.1∨x=p.2→Sn (ps++[p]) (mk ps x):=fun x hx=>by
  by_cases c:Sn ps x
  ·exact ir.mpr (.inl (h2 x c))
  ·rw[h1 x c]
   exact ir.mpr (.inr hx)
 rw[kW]
 constructor
 ·intro x hx
  have c:¬ Sn ps x:=fun z=>hx (ir.mpr (.inl z))
  unfold mkS
  rw[h1 x c,if_neg]
  intro e
  exact hx (e ▸ a p.2 (.inr rfl))
 ·intro x hx
  unfold mkS
  split
  ·exact a p.1 (.inl rfl)
  ·rcases ir.mp hx with c | c
   ·exact ir.mpr (.inl (h2 x c))
   ·exact a x c
noncomputable def eT (g:List (Int×List Int))(k x:Int):List (Int×List Int) :=
 if (g.any fun e=>decide (e.1=k))=true then g.map (fun e=>if e.1=k then (e.1,e.2++[x]) else e) else g++[(k,[x])]
noncomputable def grp (c:Nat→Int):Nat→List (Int×List Int)
 | 0=>[]
 | n+1=>eT (grp c n) (c n) n
theorem m9 (g:List (Int×List Int))(k x:Int):(eT g k x).map Prod.fst=if k∈g.map Prod.fst then g.map Prod.fst else g.map Prod.fst++[k]:=by
 have e:(g.any fun e=>decide (e.1=k))=true↔k∈g.map Prod.fst:=by
  rw[List.any_eq_true,List.mem_map]
  exact⟨fun ⟨e,h1,h2⟩=>⟨e,h1,of_decide_eq_true h2⟩,fun ⟨e,h1,h2⟩=>⟨e,h1,decide_eq_true h2⟩⟩
 unfold eT
 by_cases c:(g.any fun e=>decide (e.1=k))=true
 ·rw[if_pos c,if_pos (e.mp c),List.map_map]
  refine List.map_congr_left fun y _=>?_
  show (if y.1=k then (y.1,y.2++[x]) else y).1=y.1
  split <;> rfl
 ·rw[if_neg c,if_neg (fun z=>c (e.mpr z)),List.map_append]
  rfl
theorem kX (c:Nat→Int):∀ n,(grp c n).length≤n
 | 0=>Nat.le_refl _
 | n+1=>by
  have:=kX c n
  show (eT (grp c n) (c n) n).length≤n+1
  unfold eT
  split
  ·rw[List.length_map];omega
  ·rw[List.length_append];show _+1≤_;omega
structure zx (g:List (Int×List Int)) (n:Nat):Prop where
 ne:∀ e∈g,e.2≠[]
 lt:∀ e∈g,∀ x∈e.2,0≤x∧x<n
 len:∀ e∈g,e.2.length≤n
 asc:g.Pairwise fun e f=>e.2.headD 0<f.2.headD 0
theorem nc {l:List Int}(h:l≠[])(x:Int):(l++[x]).headD 0=l.headD 0:=by
 cases l with
 | nil=>exact absurd rfl h
 | cons y r=>rfl
theorem gD (c:Nat→Int):∀ n,zx (grp c n) n
 | 0=>⟨fun e h=>(nomatch h),fun e h=>(nomatch h),fun e h=>(nomatch h),List.Pairwise.nil⟩
 | n+1=>by
  have ih:=gD c n
  show zx (eT (grp c n) (c n) n) (n+1)
  unfold eT
  split
  ·have key:∀ e∈(grp c n).map (fun e=>if e.1=c n then (e.1,e.2++[(n:Int)]) else e),∃ d∈grp c n,(e=d∨e=(d.1,d.2++[(n:Int)]))∧e.2.headD 0=d.2.headD 0:=fun e he=>by
    obtain⟨d,hd,rfl⟩:=List.mem_map.mp he
    refine⟨d,hd,?_⟩
    split
    ·exact⟨.inr rfl,nc (ih.ne d hd) _⟩
    ·exact⟨.inl rfl,rfl⟩
   refine⟨fun e he=>?_,fun e he x hx=>?_,fun e he=>?_,?_⟩
   ·obtain⟨d,hd,h | h,_⟩:=key e he
    ·rw[h];exact ih.ne d hd
    ·rw[h];simp
   ·obtain⟨d,hd,h | h,_⟩:=key e he
    ·rw[h] at hx
     have:=ih.lt d hd x hx
     omega
    ·rw[h] at hx
     rcases List.mem_append.mp hx with hx | hx
     ·have:=ih.lt d hd x hx
      omega
     ·rw[List.mem_singleton.mp hx]
      omega
   ·obtain⟨d,hd,h | h,_⟩:=key e he
    ·rw[h]
     have:=ih.len d hd
     omega
    ·rw[h]
     have:=ih.len d hd
     show (d.2++[(n:Int)]).length≤_
     rw[List.length_append]
     show _+1≤_
     omega
   ·rw[List.pairwise_map]
    refine List.Pairwise.imp_of_mem ?_ ih.asc
    intro a b ha hb h
    have hh:∀ d∈grp c n,(if d.1=c n then (d.1,d.2++[(n:Int)]) else d).2.headD 0=d.2.headD 0:=fun d hd=>by
     split
     ·exact nc (ih.ne d hd) _
     ·rfl
    rw[hh a ha,hh b hb]
    exact h
  ·refine⟨fun e he=>?_,fun e he x hx=>?_,fun e he=>?_,?_⟩
   ·rcases List.mem_append.mp he with he | he
    ·exact ih.ne e he
    ·rw[List.mem_singleton.mp he];simp
   ·rcases List.mem_append.mp he with he | he
    ·have:=ih.lt e he x hx
     omega
    ·rw[List.mem_singleton.mp he] at hx
     rw[List.mem_singleton.mp hx]
     omega
   ·rcases List.mem_append.mp he with he | he
    ·have:=ih.len e he
     omega
    ·rw[List.mem_singleton.mp he]
     show 1≤n+1
     omega
   ·rw[List.pairwise_append]
    refine⟨ih.asc,List.pairwise_singleton ..,fun a ha b hb=>?_⟩
    rw[List.mem_singleton.mp hb]
    show a.2.headD 0<(n:Int)
    cases h:a.2 with
    | nil=>exact absurd h (ih.ne a ha)
    | cons y r =>
     have:=ih.lt a ha y (by rw[h];exact List.mem_cons_self ..)
     show y<(n:Int)
     omega
theorem lJ (c:Nat→Int):∀ n k,k∈(grp c n).map Prod.fst↔∃ i,i<n∧c i=k
 | 0,k=>⟨fun h=>(nomatch h),fun ⟨i,h,_⟩=>by omega⟩
 | n+1,k=>by
  have ih:=lJ c n k
  show k∈(eT (grp c n) (c n) n).map Prod.fst↔_
  rw[m9]
  have cov:(∃ i,i<n+1∧c i=k)↔(∃ i,i<n∧c i=k)∨c n=k:=by
   constructor
   ·rintro⟨i,h1,h2⟩
    by_cases e:i=n
    ·exact .inr (e ▸ h2)
    ·exact .inl ⟨i,by omega,h2⟩
   ·rintro(⟨i,h1,h2⟩ | h)
    ·exact⟨i,by omega,h2⟩
    ·exact⟨n,by omega,h⟩
  rw[cov,← ih]
  split
  ·rename_i h
   constructor
   ·exact .inl
   ·rintro(h' | rfl)
    ·exact h'
    ·exact h
  ·rw[List.mem_append,List.mem_singleton]
   constructor
   ·rintro(h' | rfl)
    ·exact .inl h'
    ·exact .inr rfl
   ·rintro(h' | rfl)
    ·exact .inl h'
    ·exact .inr rfl
theorem iw (c:Nat→Int):∀ n,((grp c n).map Prod.fst).Nodup
 | 0=>List.nodup_nil
 | n+1=>by
  have ih:=iw c n
  show ((eT (grp c n) (c n) n).map Prod.fst).Nodup
  rw[m9]
  split
  ·exact ih
  ·rename_i h
   rw[List.nodup_append]
   exact⟨ih,by simp,fun a ha b hb e=>h (by rw[← List.mem_singleton.mp hb,← e];exact ha)⟩
theorem ng {c d:Nat→Int}:∀ {n:Nat},(∀ i,i<n→c i=d i)→grp c n=grp d n
 | 0,_=>rfl
 | n+1,h=>by
  show eT (grp c n) (c n) n=eT (grp d n) (d n) n
  rw[ng fun i hi=>h i (by omega),h n (by omega)]
end Mir

namespace Mir
inductive Cn (ps:List (Int×Int)):Int→Int→Prop
 | base {p:Int×Int} (h:p∈ps):Cn ps p.1 p.2
 | refl (x:Int):Cn ps x x
 | symm {x y:Int} (h:Cn ps x y):Cn ps y x
 | trans {x y z:Int} (h:Cn ps x y) (k:Cn ps y z):Cn ps x z
theorem Cn.mono {ps qs:List (Int×Int)}{x y:Int}(h:Cn ps x y)(s:∀ p∈ps,p∈qs):Cn qs x y:=by
 induction h with
 | base h=>exact .base (s _ h)
 | refl x=>exact .refl x
 | symm _ ih=>exact ih.symm
 | trans _ _ ih1 ih2=>exact ih1.trans ih2
theorem wx (ps:List (Int×Int)):(∀ x,Cn ps x (mk ps x))∧∀ p∈ps,mk ps p.1=mk ps p.2:=by
 refine gh (P:=fun ps=>(∀ x,Cn ps x (mk ps x))∧∀ p∈ps,mk ps p.1=mk ps p.2) ⟨fun x=>.refl x,fun p hp=>absurd hp List.not_mem_nil⟩ ?_ ps
 intro ps p ⟨h1,h2⟩
 rw[kW]
 have up:∀ {x y},Cn ps x y→Cn (ps++[p]) x y:=fun h=>h.mono fun q hq=>List.mem_append_left _ hq
 have bp:Cn (ps++[p]) p.1 p.2:=.base (List.mem_append_right _ (List.mem_singleton.mpr rfl))
 constructor
 ·intro x
  unfold mkS
  by_cases c:mk ps x=mk ps p.2
  ·rw[if_pos c]
   have a:=up (h1 x)
   rw[c] at a
   exact((a.trans (up (h1 p.2)).symm).trans bp.symm).trans (up (h1 p.1))
  ·rw[if_neg c]
   exact up (h1 x)
 ·intro q hq
  unfold mkS
  rcases List.mem_append.mp hq with hq | hq
  ·rw[h2 q hq]
  ·rw[List.mem_singleton.mp hq,if_pos rfl]
   split <;> rfl
theorem yx {rs:List Int}(fit:Fit rs){p:Nat}(h0:0<p)(hp:p<rs.length+2):(frm rs).getD p 0≠0:=fun e=>by
 have z:aZ ((frm rs).getD p 0)=((0:Nat):Int):=by rw[e];rfl
 have:=wg fit hp z
 rw[wj fit] at this
 omega
end Mir

namespace Mir
theorem AI {fs:List Int}(nd:(a6 fs).Nodup){a:Nat}(lo:Int):∀ (m:Nat) (S:List Nat),S.Nodup→(∀ i∈S,i<fs.length∧lo≤amA fs a i∧amA fs a i<lo+m)→S.length≤m:=by
 intro m
 induction m with
 | zero =>
  intro S _ hS
  cases S with
  | nil=>exact Nat.le_refl _
  | cons i r=>have:=hS i List.mem_cons_self;omega
 | succ m ih =>
  intro S hn hS
  by_cases c0:∃ i∈S,amA fs a i=lo+m
  ·obtain⟨i,hi,ei⟩:=c0
   have l1:(S.erase i).length=S.length-1:=List.length_erase_of_mem hi
   have l2:=ih (S.erase i) (hn.erase i) fun k hk=>by
    have hk':=(List.Nodup.mem_erase_iff hn).mp hk
    have q:=hS k hk'.2
    refine⟨q.1,q.2.1,?_⟩
    have ne:amA fs a k≠lo+m:=fun e=>hk'.1 (oE nd q.1 (hS i hi).1 (e.trans ei.symm))
    omega
   have:=List.length_pos_of_mem hi
   omega
  ·have:=ih S hn fun k hk=>by
    have q:=hS k hk
    refine⟨q.1,q.2.1,?_⟩
    have ne:amA fs a k≠lo+m:=fun e=>c0 ⟨k,hk,e⟩
    omega
   omega
theorem j5 (a m:Nat):((List.range m).map (· + a)).Nodup:=by
 rw[List.nodup_iff_pairwise_ne,List.pairwise_map]
 exact List.pairwise_lt_range.imp fun h=>by omega
theorem kY {a m i:Nat}(h:i∈(List.range m).map (· + a)):a≤i∧i<a+m:=by
 obtain⟨k,hk,rfl⟩:=List.mem_map.mp h
 have:=List.mem_range.mp hk
 omega
theorem Wh.at' {fs:List Int}{a b j:Nat}(W:Wh fs a b)(h1:a≤j)(h2:j≤b):fs.getD a 0≤amA fs a j∧amA fs a j≤fs.getD b 0:=by
 by_cases e:j=a
 ·rw[e,fq];have:=W.far;have:=W.lt;omega
 ·exact W.mid j (by omega) h2
theorem Wh.inside {fs:List Int}(nd:(a6 fs).Nodup){a b j:Nat}(W:Wh fs a b)(hj:j<fs.length)(h1:fs.getD a 0≤amA fs a j)(h2:amA fs a j≤fs.getD b 0):a≤j∧j≤b:=by
 refine Classical.byContradiction fun c=>?_
 have lt:=W.lt
 have lb:=W.lb
 have far:=W.far
 have S:=AI nd (a:=a) (fs.getD a 0) (b-a+1) (j::(List.range (b-a+1)).map (· + a)) (List.nodup_cons.mpr ⟨fun hm=>by have:=kY hm;omega,j5 a _⟩) (fun i hi=>by
  rcases List.mem_cons.mp hi with rfl | hi
  ·exact⟨hj,h1,by omega⟩
  ·have q:=kY hi
   have z:=W.at' (j:=i) (by omega) (by omega)
   exact⟨by omega,z.1,by omega⟩)
 rw[List.length_cons,List.length_map,List.length_range] at S
 omega
theorem yy {fs:List Int}(nd:(a6 fs).Nodup){a b c d:Nat}(h:Kn fs a b)(k:Wh fs c d)(h1:a<c)(h2:c<b):d≤b:=by
 refine Classical.byContradiction fun hd=>?_
 have hd:b<d:=by omega
 obtain⟨W,no⟩:=h
 have f1:=W.far
 have f2:=k.far
 have lb:=k.lb
 have mc:=W.mid c h1 (by omega)
 have mb:=k.mid b h2 (by omega)
 have ob:=W.own
 have inj:aZ (fs.getD b 0)=aZ (fs.getD c 0)→False:=fun e=>by
  have:b=c:=oE nd (a:=a) (by omega) (by omega) (by unfold amA;rw[e])
  omega
 by_cases s:(fs.getD a 0<0)↔(fs.getD c 0<0)
 ·have sg:∀ j,amA fs c j=amA fs a j:=fun j=>by
   unfold amA
   by_cases t:fs.getD a 0<0
   ·rw[if_pos t,if_pos (s.mp t)]
   ·rw[if_neg t,if_neg fun z=>t (s.mpr z)]
  have ec:fs.getD c 0=amA fs a c:=by rw[← sg,fq]
  rw[sg] at mb
  have below:∀ j,a≤j→j<c→amA fs a j<fs.getD c 0:=fun j j1 j2=>by
   refine Classical.byContradiction fun z=>?_
   have u:=(W.at' (j:=j) j1 (by omega)).2
   have:=k.inside nd (j:=j) (by omega) (by rw[sg];omega) (by rw[sg];omega)
   omega
  have S1:=AI nd (a:=a) (fs.getD a 0) (fs.getD c 0-fs.getD a 0).toNat ((List.range (c-a)).map (· + a)) (j5 a _) (fun i hi=>by
   have q:=kY hi
   have z:=W.at' (j:=i) (by omega) (by omega)
   have y:=below i (by omega) (by omega)
   exact⟨by omega,z.1,by omega⟩)
  have S2:=AI nd (a:=a) (fs.getD c 0) (fs.getD b 0+1-fs.getD c 0).toNat ((List.range (b+1-c)).map (· + c)) (j5 c _) (fun i hi=>by
   have q:=kY hi
   have z:=W.at' (j:=i) (by omega) (by omega)
   have y:=k.at' (j:=i) (by omega) (by omega)
   rw[sg] at y
   exact⟨by omega,y.1,by omega⟩)
  rw[List.length_map,List.length_range] at S1 S2
  refine no c h2 ⟨h1,by omega,fun j j1 j2=>⟨(W.mid j j1 (by omega)).1,?_⟩,ec,by omega⟩
  by_cases e:j=c
  ·rw[e,← ec];exact Int.le_refl _
  ·exact Int.le_of_lt (below j (by omega) (by omega))
 ·have p1:=fo (fs.getD b 0)
  have p2:=fo (fs.getD c 0)
  unfold amA at mc mb ob
  by_cases t:fs.getD a 0<0
  ·have u:¬ fs.getD c 0<0:=fun z=>s ⟨fun _=>z,fun _=>t⟩
   rw[if_pos t] at mc ob
   rw[if_neg u] at mb
   have e:aZ (fs.getD c 0)=fs.getD c 0:=by unfold aZ;rw[if_neg u]
   exact inj (by omega)
  ·have u:fs.getD c 0<0:=Classical.byContradiction fun z=>s ⟨fun y=>absurd y t,fun y=>absurd y z⟩
   rw[if_neg t] at mc ob
   rw[if_pos u] at mb
   have e:aZ (fs.getD c 0)=- fs.getD c 0:=by unfold aZ;rw[if_pos u]
   exact inj (by omega)
theorem AJ {fs:List Int}(nd:(a6 fs).Nodup){b g:Nat}:∀ m a,b-a=m→Wh fs a b→a≤g→g<b→∃ c d,Kn fs c d∧c≤g∧g<d:=by
 intro m
 induction m using Nat.strongRecOn with
 | _ m ih =>
  intro a hm W h1 h2
  obtain⟨c,hc⟩:=pX b W
  by_cases e:g<c
  ·exact⟨a,c,hc,h1,e⟩
  ·have lt:=hc.1.lt
   exact ih (b-c) (by omega) c rfl (hc.1.rest nd W (by omega)) (by omega) h2
theorem uA {rs:List Int}(fit:Fit rs):Wh (frm rs) 0 (rs.length+1):=by
 have l:=ba rs
 have e0:amA (frm rs) 0=fun j=>aZ ((frm rs).getD j 0):=by funext j;unfold amA;rw[gc,if_neg (by decide)]
 refine⟨by omega,by omega,fun j h1 h2=>?_,?_,?_⟩
 ·have:=sM fit (j:=j) (by omega)
  rw[e0,gc,dX]
  dsimp only
  omega
 ·rw[e0,dX]
  dsimp only
  rw[dX]
  unfold aZ
  rw[if_neg (by omega)]
 ·rw[gc,dX];omega
structure Own (fs:List Int) (g c d:Nat):Prop where
 kn:Kn fs c d
 le:c≤g
 lt:g<d
 top:∀ c' d',Kn fs c' d'→c'≤g→g<d'→c'≤c
theorem Own.uniq {fs:List Int}{g c d c' d':Nat}(h:Own fs g c d)(k:Own fs g c' d'):c=c'∧d=d':=by
 have e:c=c':=Nat.le_antisymm (k.top c d h.kn h.le h.lt) (h.top c' d' k.kn k.le k.lt)
 subst e
 exact⟨rfl,jv h.kn k.kn⟩
theorem AK {fs:List Int}{g:Nat}:∀ m c d,g-c=m→Kn fs c d→c≤g→g<d→∃ c d,Own fs g c d:=by
 intro m
 induction m using Nat.strongRecOn with
 | _ m ih =>
  intro c d hm k h1 h2
  by_cases e:∃ c' d',Kn fs c' d'∧c'≤g∧g<d'∧c<c'
  ·obtain⟨c',d',k',h1',h2',lt⟩:=e
   exact ih (g-c') (by omega) c' d' rfl k' h1' h2'
  ·exact⟨c,d,k,h1,h2,fun c' d' k' h1' h2'=>Classical.byContradiction fun z=>e ⟨c',d',k',h1',h2',by omega⟩⟩
theorem rf {rs:List Int}(fit:Fit rs){g:Nat}(hg:g<rs.length+1):∃ c d,Own (frm rs) g c d:=by
 obtain⟨c,d,k,h1,h2⟩:=AJ (dD fit) (rs.length+1-0) 0 rfl (uA fit) (Nat.zero_le g) hg
 exact AK _ c d rfl k h1 h2
open Classical in
noncomputable def ow (fs:List Int)(g:Nat):Int×Int:=if h:∃ p:Nat×Nat,Own fs g p.1 p.2 then (((choose h).1:Int),((choose h).2:Int)) else (0,0)
theorem zy {fs:List Int}{g c d:Nat}(h:Own fs g c d):ow fs g=((c:Int),(d:Int)):=by
 have e:∃ p:Nat×Nat,Own fs g p.1 p.2:=⟨(c,d),h⟩
 unfold ow
 rw[dif_pos e]
 have z:=(Classical.choose_spec e).uniq h
 rw[z.1,z.2]
noncomputable def yz (rs:List Int):List (Int×Int):=(List.range (rs.length+1)).map (ow (frm rs))
open Classical in
theorem bO {fs:List Int}{p:Int×Int}:p∈b4 fs↔∃ a b:Nat,Kn fs a b∧p=((a:Int),(b:Int)):=by
 unfold b4
 rw[List.mem_filter,yw]
 constructor
 ·rintro⟨⟨a,b,W,rfl⟩,h⟩
  refine⟨a,b,?_,rfl⟩
  have:=of_decide_eq_true (show decide (Kn fs ((a:Int)).toNat ((b:Int)).toNat)=true from h)
  simpa using this
 ·rintro⟨a,b,k,rfl⟩
  refine⟨⟨a,b,k.1,rfl⟩,?_⟩
  show decide (Kn fs ((a:Int)).toNat ((b:Int)).toNat)=true
  exact decide_eq_true (by simpa using k)
theorem gj (fs:List Int):(b4 fs).Pairwise fun p q=>p.1<q.1:=by
 have key:∀ i,(((whL fs i).filter (lD fs)).Pairwise fun p q=>p.1<q.1)∧∀ p∈(whL fs i).filter (lD fs),p.1<(i:Int):=fun i=>by
  induction i with
  | zero=>exact⟨List.Pairwise.nil,fun p hp=>absurd hp List.not_mem_nil⟩
  | succ i ih =>
   rw[ju,List.filter_append]
   rcases sP (fs:=fs) (a:=i) with ⟨_,e⟩ | ⟨b,_,e⟩
   ·rw[e,List.append_nil]
    exact⟨ih.1,fun p hp=>by have:=ih.2 p hp;omega⟩
   ·rw[e]
    refine⟨List.pairwise_append.mpr ⟨ih.1,List.pairwise_singleton ..,fun p hp q hq=>?_⟩,fun p hp=>?_⟩
    ·rw[List.mem_singleton.mp hq]
     exact ih.2 p hp
    ·rcases List.mem_append.mp hp with hp | hp
     ·have:=ih.2 p hp;omega
     ·rw[List.mem_singleton.mp hp]
      show (i:Int)<_
      omega
 exact(key fs.length).1
noncomputable def mv (n:Nat)(x:Int):Int:=if x<0 then-((n:Int)+1)-x else (n:Int)+1-x
noncomputable def mir (rs:List Int):List Int:=rs.reverse.map (mv rs.length)
theorem fG (rs:List Int):(mir rs).length=rs.length:=by unfold mir;rw[List.length_map,List.length_reverse]
theorem wy {rs:List Int}(fit:Fit rs){x:Int}(h:x∈rs):1≤aZ x∧aZ x≤rs.length:=by
 have z:=fit.perm.mem_iff.mp (show aZ x∈a6 rs from List.mem_map.mpr ⟨x,h,rfl⟩)
 unfold fF at z
 obtain⟨i,hi,e⟩:=List.mem_map.mp z
 have:=List.mem_range.mp hi
 omega
theorem wA {n:Nat}{x:Int}(h1:1≤aZ x)(h2:aZ x≤n):aZ (mv n x)=(n:Int)+1-aZ x∧(mv n x<0↔x<0)∧mv n (mv n x)=x:=by
 unfold mv aZ at *
 by_cases s:x<0
 ·rw[if_pos s] at *
  rw[if_pos (by omega),if_pos (by omega)]
  omega
 ·rw[if_neg s] at *
  rw[if_neg (by omega),if_neg (by omega)]
  omega
theorem sQ {rs:List Int}(fit:Fit rs):Fit (mir rs):=by
 refine⟨by rw[fG];exact fit.small,?_⟩
 rw[fG]
 have e:a6 (mir rs)=(a6 rs).reverse.map fun y=>(rs.length:Int)+1-y:=by
  unfold mir a6
  rw[List.map_map,← List.map_reverse,List.map_map]
  refine List.map_congr_left fun x hx=>?_
  have z:=wy fit (List.mem_reverse.mp hx)
  exact(wA z.1 z.2).1
 have nd:(fF rs.length).Nodup:=by
  unfold fF
  rw[List.nodup_iff_pairwise_ne,List.pairwise_map]
  exact List.pairwise_lt_range.imp fun h=>by omega
 have nd1:(a6 rs).Nodup:=fit.perm.nodup_iff.mpr nd
 rw[e]
 refine(List.perm_ext_iff_of_nodup ?_ nd).mpr fun y=>?_
 ·rw[List.nodup_iff_pairwise_ne,List.pairwise_map]
  exact List.pairwise_reverse.mpr (List.Pairwise.imp (fun h=>by omega) nd1)
 ·have f1:∀ y,y∈fF rs.length↔1≤y∧y≤rs.length:=fun y=>by
   unfold fF
   rw[List.mem_map]
   constructor
   ·rintro⟨i,hi,rfl⟩
    have:=List.mem_range.mp hi
    omega
   ·intro h
    exact⟨(y-1).toNat,List.mem_range.mpr (by omega),by omega⟩
  rw[List.mem_map,f1]
  constructor
  ·rintro⟨z,hz,rfl⟩
   have:=(f1 z).mp (fit.perm.mem_iff.mp (List.mem_reverse.mp hz))
   omega
  ·intro h
   exact⟨(rs.length:Int)+1-y,List.mem_reverse.mpr (fit.perm.mem_iff.mpr ((f1 _).mpr (by omega))),by omega⟩
theorem yA {rs:List Int}(fit:Fit rs):mir (mir rs)=rs:=by
 unfold mir
 rw[List.length_map,List.length_reverse,← List.map_reverse,List.reverse_reverse,List.map_map]
 refine(List.map_congr_left fun x hx=>?_).trans (List.map_id rs)
 have z:=wy fit hx
 exact(wA z.1 z.2).2.2
theorem oH {rs:List Int}{p:Nat}(hp:p<rs.length+2):(frm (mir rs)).getD p 0=mv rs.length ((frm rs).getD (rs.length+1-p) 0):=by
 cases p with
 | zero =>
  rw[Nat.sub_zero,dX,gc]
  unfold mv
  rw[if_neg (by omega)]
  omega
 | succ p =>
  by_cases c:p<rs.length
  ·rw[sL (by rw[fG];exact c),show rs.length+1-(p+1)=(rs.length-1-p)+1 by omega,sL (by omega)]
   have e:(mir rs)[p]?=some (mv rs.length (rs.getD (rs.length-1-p) 0)):=by
    unfold mir
    rw[List.getElem?_map,List.getElem?_reverse c,getD_get (by omega)]
    rfl
   rw[List.getD,e]
   rfl
  ·have e:p=rs.length:=by omega
   have z:=dX (mir rs)
   rw[fG] at z
   rw[e,z,Nat.sub_self,gc]
   unfold mv
   rw[if_neg (by omega)]
   omega
theorem j6 {rs:List Int}(fit:Fit rs){j:Nat}(hj:j<rs.length+2):aZ (mv rs.length ((frm rs).getD j 0))=(rs.length:Int)+1-aZ ((frm rs).getD j 0)∧(mv rs.length ((frm rs).getD j 0)<0↔(frm rs).getD j 0<0)∧((frm rs).getD j 0<0→1≤j∧j≤rs.length):=by
 have a:=sM fit hj
 have nn:(frm rs).getD j 0<0→1≤j∧j≤rs.length∧- (rs.length:Int)≤(frm rs).getD j 0:=fun h=>by
  have z:=q8 hj h
  refine⟨z.1,z.2,Classical.byContradiction fun c=>?_⟩
  have e:aZ ((frm rs).getD j 0)=aZ ((frm rs).getD (rs.length+1) 0):=by
   rw[dX]
   unfold aZ at *
   rw[if_pos h] at *
   rw[if_neg (by omega)]
   omega
  have:=yt fit hj (by omega) e
  omega
 refine⟨?_,?_,fun h=>⟨(nn h).1,(nn h).2.1⟩⟩
 ·unfold mv aZ at *
  by_cases s:(frm rs).getD j 0<0
  ·have:=nn s
   rw[if_pos s] at *
   rw[if_pos (by omega)]
   omega
  ·rw[if_neg s] at *
   rw[if_neg (by omega),if_neg s]
 ·unfold mv
  by_cases s:(frm rs).getD j 0<0
  ·have:=nn s
   rw[if_pos s]
   omega
  ·unfold aZ at a
   rw[if_neg s] at *
   omega
theorem Wh.mirror {rs:List Int}(fit:Fit rs){a b:Nat}(W:Wh (frm rs) a b):Wh (frm (mir rs)) (rs.length+1-b) (rs.length+1-a):=by
 have lt:=W.lt
 have lb:=W.lb
 rw[ba] at lb
 have far:=W.far
 have own:=W.own
 have eA:(frm (mir rs)).getD (rs.length+1-b) 0=mv rs.length ((frm rs).getD b 0):=by rw[oH (by omega),show rs.length+1-(rs.length+1-b)=b by omega]
 have eB:(frm (mir rs)).getD (rs.length+1-a) 0=mv rs.length ((frm rs).getD a 0):=by rw[oH (by omega),show rs.length+1-(rs.length+1-a)=a by omega]
 have nz:=yx fit (p:=b) (by omega) (by omega)
 have ka:=j6 fit (j:=a) (by omega)
 have kb:=j6 fit (j:=b) (by omega)
 have pb:=fo ((frm rs).getD b 0)
 have sb:(frm rs).getD b 0<0↔(frm rs).getD a 0<0:=by
  unfold amA at own
  by_cases s:(frm rs).getD a 0<0
  ·rw[if_pos s] at own
   exact⟨fun _=>s,fun _=>by omega⟩
  ·rw[if_neg s] at own
   exact⟨fun z=>by omega,fun z=>absurd z s⟩
 have am:∀ j,j<rs.length+2→amA (frm (mir rs)) (rs.length+1-b) (rs.length+1-j)=if (frm rs).getD a 0<0 then-((rs.length:Int)+1-aZ ((frm rs).getD j 0)) else (rs.length:Int)+1-aZ ((frm rs).getD j 0):=fun j hj=>by
  have kj:=j6 fit hj
  unfold amA
  rw[eA,oH (by omega),show rs.length+1-(rs.length+1-j)=j by omega,kj.1]
  by_cases s:(frm rs).getD a 0<0
  ·rw[if_pos (kb.2.1.mpr (sb.mpr s)),if_pos s]
  ·rw[if_neg fun z=>s (sb.mp (kb.2.1.mp z)),if_neg s]
 have mvA:mv rs.length ((frm rs).getD a 0)=if (frm rs).getD a 0<0 then-((rs.length:Int)+1)-(frm rs).getD a 0 else (rs.length:Int)+1-(frm rs).getD a 0:=rfl
 have mvB:mv rs.length ((frm rs).getD b 0)=if (frm rs).getD a 0<0 then-((rs.length:Int)+1)-(frm rs).getD b 0 else (rs.length:Int)+1-(frm rs).getD b 0:=by
  unfold mv
  by_cases s:(frm rs).getD a 0<0
  ·rw[if_pos (sb.mpr s),if_pos s]
  ·rw[if_neg fun z=>s (sb.mp z),if_neg s]
 refine⟨by omega,by rw[ba,fG];omega,fun j h1 h2=>?_,?_,?_⟩
 ·have e:j=rs.length+1-(rs.length+1-j):=by omega
  have z:=W.at' (j:=rs.length+1-j) (by omega) (by omega)
  rw[e,am _ (by omega),eA,eB,mvA,mvB]
  unfold amA at z
  by_cases s:(frm rs).getD a 0<0
  ·rw[if_pos s] at z ⊢
   rw[if_pos s,if_pos s]
   omega
  ·rw[if_neg s] at z ⊢
   rw[if_neg s,if_neg s]
   omega
 ·rw[am a (by omega),eB,mvA]
  by_cases s:(frm rs).getD a 0<0
  ·rw[if_pos s,if_pos s]
   unfold aZ
   rw[if_pos s]
   omega
  ·rw[if_neg s,if_neg s]
   unfold aZ
   rw[if_neg s]
 ·rw[eA,eB,mvA,mvB]
  by_cases s:(frm rs).getD a 0<0
  ·rw[if_pos s,if_pos s];omega
  ·rw[if_neg s,if_neg s];omega
theorem Wh.sR {rs:List Int}(fit:Fit rs){a b:Nat}(ha:a≤rs.length+1)(hb:b≤rs.length+1)(W:Wh (frm (mir rs)) (rs.length+1-b) (rs.length+1-a)):Wh (frm rs) a b:=by
 have z:=W.mirror (sQ fit)
 rw[yA fit,fG] at z
 rwa[show rs.length+1-(rs.length+1-a)=a by omega,show rs.length+1-(rs.length+1-b)=b by omega] at z
theorem Kn.mirror {rs:List Int}(fit:Fit rs){a b:Nat}(k:Kn (frm rs) a b):Kn (frm (mir rs)) (rs.length+1-b) (rs.length+1-a):=by
 have lb:=k.1.lb
 have lt:=k.1.lt
 rw[ba] at lb
 have k':=(wk (dD fit)).mp k
 refine(wk (dD (sQ fit))).mpr ⟨k'.1.mirror fit,fun ⟨c,h1,h2⟩=>k'.2 ⟨rs.length+1-c,?_,?_⟩⟩
 ·have lc:=h1.lb
  rw[ba,fG] at lc
  refine Wh.sR fit (by omega) (by omega) ?_
  rw[show rs.length+1-(rs.length+1-c)=c by omega]
  exact h2
 ·have lc:=h1.lb
  rw[ba,fG] at lc
  refine Wh.sR fit (by omega) (by omega) ?_
  rw[show rs.length+1-(rs.length+1-c)=c by omega]
  exact h1
end Mir

namespace Mir
theorem sS (c:Nat→Int):∀ n,∀ e∈grp c n,(∀ x,x∈e.2↔∃ i:Nat,i<n∧c i=e.1∧x=(i:Int))∧e.2.Pairwise (· < ·)
 | 0=>fun e h=>absurd h List.not_mem_nil
 | n+1=>fun e he=>by
  have ih:=sS c n
  have he:e∈eT (grp c n) (c n) n:=he
  unfold eT at he
  split at he
  ·obtain⟨d,hd,ed⟩:=List.mem_map.mp he
   obtain⟨i1,i2⟩:=ih d hd
   by_cases k:d.1=c n
   ·rw[if_pos k] at ed
    subst ed
    refine⟨fun x=>?_,List.pairwise_append.mpr ⟨i2,List.pairwise_singleton ..,fun a ha b hb=>?_⟩⟩
    ·show x∈d.2++[(n:Int)]↔∃ i:Nat,i<n+1∧c i=d.1∧x=(i:Int)
     rw[List.mem_append,i1,List.mem_singleton]
     constructor
     ·rintro(⟨i,h1,h2,h3⟩ | h)
      ·exact⟨i,by omega,h2,h3⟩
      ·exact⟨n,by omega,k.symm,h⟩
     ·rintro⟨i,h1,h2,h3⟩
      by_cases e:i=n
      ·right;rw[h3,e]
      ·exact .inl ⟨i,by omega,h2,h3⟩
    ·obtain⟨i,h1,_,h3⟩:=(i1 a).mp ha
     rw[List.mem_singleton.mp hb,h3]
     omega
   ·rw[if_neg k] at ed
    subst ed
    refine⟨fun x=>?_,i2⟩
    rw[i1]
    constructor
    ·rintro⟨i,h1,h2,h3⟩
     exact⟨i,by omega,h2,h3⟩
    ·rintro⟨i,h1,h2,h3⟩
     have:i≠n:=fun e=>k (by rw[← h2,e])
     exact⟨i,by omega,h2,h3⟩
  ·rename_i no
   rcases List.mem_append.mp he with he | he
   ·obtain⟨i1,i2⟩:=ih e he
    refine⟨fun x=>?_,i2⟩
    have k:e.1≠c n:=fun z=>no (List.any_eq_true.mpr ⟨e,he,decide_eq_true z⟩)
    rw[i1]
    constructor
    ·rintro⟨i,h1,h2,h3⟩
     exact⟨i,by omega,h2,h3⟩
    ·rintro⟨i,h1,h2,h3⟩
     have:i≠n:=fun e=>k (by rw[← h2,e])
     exact⟨i,by omega,h2,h3⟩
   ·rw[List.mem_singleton.mp he]
    refine⟨fun x=>?_,List.pairwise_singleton ..⟩
    show x∈[(n:Int)]↔_
    rw[List.mem_singleton]
    constructor
    ·intro h
     exact⟨n,by omega,rfl,h⟩
    ·rintro⟨i,h1,h2,h3⟩
     by_cases e:i=n
     ·rw[h3,e]
     ·exfalso
      have z:=(lJ c n (c n)).mpr ⟨i,by omega,h2⟩
      obtain⟨d,hd,ed⟩:=List.mem_map.mp z
      exact no (List.any_eq_true.mpr ⟨d,hd,decide_eq_true ed⟩)
end Mir

namespace jr
open PySem PyProof.Rows PySem.W
section
variable {prog:Program}{w:World}{A:Around}{E:Value→Shared→Prop}{s:Shared}
theorem pZ [RkP]{vs:List Value}{rk:Value→Int}(hr:∀ p:Keyed,num p=rk p.1){xs:Array Keyed}(hp:xs.Perm (pairsOf vs))(hs:SortedTo xs (pairsOf vs).size):(xs.map (·.2)).toList.Perm vs∧(xs.map (·.2)).toList.Pairwise fun u v=>rk u≤rk v:=by
 have hl:=Array.perm_iff_toList_perm.mp hp
 have ez:(pairsOf vs).toList=vs.zip vs:=by unfold pairsOf;simp
 have same:∀ p∈xs.toList,p.1=p.2:=fun p hpm=>by
  have z:=hl.mem_iff.mp hpm
  rw[ez] at z
  obtain⟨i,hi,e⟩:=List.getElem_of_mem z
  rw[List.getElem_zip] at e
  rw[← e]
 rw[Array.toList_map]
 constructor
 ·have z:=hl.map (·.2)
  rw[ez] at z
  have e2:(vs.zip vs).map (·.2)=vs:=by rw[List.map_snd_zip];exact Nat.le_refl _
  rw[e2] at z
  exact z
 ·rw[List.pairwise_map]
  refine List.pairwise_iff_getElem.mpr fun i j hi hj hij=>?_
  have hsz:xs.size=(pairsOf vs).size:=hp.size_eq
  have hi':i<xs.size:=by simpa using hi
  have hj':j<xs.size:=by simpa using hj
  have z:=hs i j (by omega) (by omega)
  rw[wq (getElem?_pos xs i hi'),wq (getElem?_pos xs j hj'),hr,hr] at z
  have e1:=same _ (List.getElem_mem hi)
  have e2:=same _ (List.getElem_mem hj)
  rw[← e1,← e2]
  simpa using z
theorem wB {a:Addr}{vs:List Value}{n:Nat}{P:PySem.Fin→Shared→Prop}(ho:s.heap.get? a=some (seqObj "list" vs.toArray n))(h2:vs.length<2)
  (h:P (.done (.ret .none)) { s with heap:=sortedHeap s.heap a vs vs.toArray }):wpAny (model prog w) A (Builtin.«list.sort» ⟨[.ref a],[]⟩) P E s:=by
 rw[list_sort_plain]
 obtain⟨k,hk⟩:∃ k,(s.heap.update a (Obj.mapSeq fun _=>#[])).get? a=some (seqObj "list" #[] k):=⟨_,get?_update_seq ho (fun _=>#[])⟩
 have hk2:(((s.heap.update a (Obj.mapSeq fun _=>#[])).push (seqObj "tuple" vs.toArray 0)).push (seqObj "list" #[] 0)).get? a=some (seqObj "list" #[] k) :=
  Heap.get?_push_of_some _ (Heap.get?_push_of_some _ hk)
 have hz1:vs.toArray.size≤sizeLine:=by rw[List.size_toArray,sizeLine_eq];omega
 have hz2:vs.toArray.toList.length≤sizeLine:=by rw[sizeLine_eq];simp;omega
 refine wpAny_bind (listItems_at ho rfl (wpAny_bind (listUpdate_at ho rfl (wpAny_bind (seqEpoch_at hk rfl ?_)) hz1 (Nat.zero_le _))))
 refine wpAny_bind (wpAny_newTuple (wpAny_bind (wpAny_newList (wpAny_holding ?_) (Nat.zero_le _))) hz2)
 show wpAny (model prog w) A _ P E { s with heap:=((s.heap.update a (Obj.mapSeq fun _=>#[])).push (seqObj "tuple" vs.toArray 0)).push (seqObj "list" #[] 0) }
 dsimp only
 have z2:vs.toArray.size<2:=by rw[List.size_toArray];omega
 rw[if_pos z2,if_pos z2]
 refine wpAny_bind (wpAny_pure (wpAny_bind (wpAny_pure ?_)))
 dsimp only
 have e:(arrOf (SortSt.mk' general' (vs.toArray.zip vs.toArray) #[] 7 none)).map (·.2)=vs.toArray:=by
  apply Array.toList_inj.mp
  show ((vs.toArray.zip vs.toArray).map (·.2)).toList=vs
  have e2:(vs.zip vs).map (·.2)=vs:=by rw[List.map_snd_zip];exact Nat.le_refl _
  simpa using e2
 rw[e]
 refine wpAny_bind (seqEpoch_at hk2 rfl (wpAny_bind (listUpdate_at hk2 rfl ?_ (hsz2:=by rw[List.size_toArray,sizeLine_eq];omega))))
 dsimp only
 rw[bne_self_eq_false]
 exact wpAny_pure h
theorem lK {l:Addr}{vs:List Value}{Q:Value→Shared→Prop}(hl:s.heap.IsList l vs.toArray)(h2:vs.length<2)
  (h:Q (.ref (s.heap.objs.size+1)) { s with heap:=sortedAll s.heap vs vs.toArray }):wpAny (model prog w) A (call (.builtin "sorted") [.ref l]) Q E s:=by
 have z:((s.heap.push (seqObj "list" #[] 0)).update s.heap.objs.size (Obj.mapSeq (· ++ vs.toArray))).objs.size=s.heap.objs.size+1:=(Heap.size_update _ _ _).trans (size_push' _ _)
 have hL:(((s.heap.push (seqObj "list" #[] 0)).update s.heap.objs.size (Obj.mapSeq (· ++ vs.toArray))).push (seqObj "list" vs.toArray 0)).get? (s.heap.objs.size+1)=some (seqObj "list" vs.toArray 0):=z ▸ Heap.get?_push_size _ rfl
 refine Calls.call_function_entry kind_sorted plain_sorted entry_sorted (args_sorted1 _) ?_
 unfold Builtin.«sorted»
 refine wpAny_bind (m:=checkCount "sorted" 1 1 _) (wpAny_pure (wpAny_bind (collect_list hl (wpAny_bind (wpAny_newList ?_ (by rw[sizeLine_eq];omega))) (hsz:=by rw[sizeLine_eq];omega))))
 show wpAny _ _ _ _ _ { s with heap:=((s.heap.push (seqObj "list" #[] 0)).update s.heap.objs.size (Obj.mapSeq (· ++ vs.toArray))).push (seqObj "list" vs.toArray 0) }
 rw[z]
 exact wpAny_bind (wpAny_holding (wpAny_call_entry slot_list_sort ⟨_,hL,rfl⟩ entry_list_sort (wB hL h2 ⟨_,rfl,wpAny_pure ⟨_,rfl,h⟩⟩) (args_list_sort _)))
end
end jr



namespace Th
open Classical
section
variable {N:Nat}{a b:Nat→Nat}
inductive Kd | ring | odd | bare | tied
deriving DecidableEq
end
end Th

set_option maxHeartbeats 4000000




namespace Mir
open PySem L2
noncomputable def ks:Th.Kd→Str
 | .ring=>"ring"
 | .odd=>"odd"
 | .bare=>"bare"
 | .tied=>"tied"
variable (K:PySem.W.Frag)
end Mir

namespace Mir
open PySem L2
theorem wC:∀ a b:Th.Kd,ks a=ks b→a=b:=by
 intro a b h
 cases a <;> cases b <;> first | rfl | exact absurd h (by decide)
end Mir

namespace jr
open PySem PySem.Spec PyProof.Rows PySem.W L2
noncomputable def kx:Th.Kd→Int
 | .bare=>0
 | .odd=>1
 | .ring=>2
 | .tied=>3
theorem AL:∀ a b:Th.Kd,kx a=kx b→a=b:=by intro a b h;cases a <;> cases b <;> first | rfl | exact absurd h (by decide)
theorem BZ:∀ a b:Th.Kd,decide ((Mir.ks a).cps.toList<(Mir.ks b).cps.toList)=decide (kx a<kx b):=by intro a b;cases a <;> cases b <;> decide +kernel
noncomputable def Pr (h:Heap)(str:Bool)(v:Value)(r:Int):Prop:=∃ (t:Addr) (o:Obj) (n:Nat) (x:Value) (y a:Int) (u1 u2:Tok),v=.ref t∧h.get? t=some o∧o.cls=.type "tuple"∧o.data=.seq #[x,.int y u2] n∧0≤y∧y<1000∧r=1000*a+y ∧
 ((str=false∧x=.int a u1)∨(str=true∧∃ k:Th.Kd,x=.str (Mir.ks k) u1∧a=kx k))
theorem Pr.uniq {h:Heap}{str:Bool}{v:Value}{r r':Int}(p:Pr h str v r)(q:Pr h str v r'):r=r':=by
 obtain⟨t,o,n,x,y,a,u1,u2,rfl,e1,e2,e3,e4,e5,e6,e7⟩:=p
 obtain⟨t',o',n',x',y',a',u1',u2',f0,f1,f2,f3,f4,f5,f6,f7⟩:=q
 injection f0 with f0
 subst f0
 rw[e1] at f1
 obtain rfl:=Option.some.inj f1
 rw[e3] at f3
 injection f3 with f3 _
 have f3:=congrArg Array.toList f3
 injection f3 with g1 g2
 injection g2 with g2 _
 injection g2 with g2 _
 subst g2
 rcases e7 with ⟨s1,e7⟩ | ⟨e8,k,e7,e9⟩
 ·rcases f7 with ⟨_,f7⟩ | ⟨f8,_⟩
  ·rw[e7,f7] at g1
   injection g1 with g1 _
   rw[e6,f6,g1]
  ·rw[s1] at f8;cases f8
 ·rcases f7 with ⟨f8,f7⟩ | ⟨_,k',f7,f9⟩
  ·rw[e8] at f8;cases f8
  ·rw[e7,f7] at g1
   injection g1 with g1 _
   have:=Mir.wC _ _ g1
   rw[e6,f6,e9,f9,this]
open Classical in
noncomputable def rkO (h:Heap)(str:Bool)(v:Value):Int:=if e:∃ r,Pr h str v r then choose e else 0
theorem wD {h:Heap}{str:Bool}{v:Value}{r:Int}(p:Pr h str v r):rkO h str v=r:=by
 unfold rkO
 have e:∃ r,Pr h str v r:=⟨r,p⟩
 rw[dif_pos e]
 exact(Classical.choose_spec e).uniq p
@[reducible] noncomputable def AM (h:Heap)(str:Bool):RkP:=⟨fun p=>∃ r,Pr h str p.1 r,fun p=>rkO h str p.1,tuples' true⟩
noncomputable def tyP (str:Bool):Value:=if str=true then .type "str" else .type "int"
theorem yB {prog:Program}{w:World}{A:Around}{s:Shared}{h:Heap}{str:Bool}(k:∀ b o,h.get? b=some o→s.heap.get? b=some o):@Asks (AM h str) prog w A s:=by
 letI:=AM h str
 intro x y ⟨r,px⟩ ⟨r',py⟩ E Q q0
 have q:Q (decide (r<r')) s:=by
  have e1:num x=r:=wD px
  have e2:num y=r':=wD py
  rw[e1,e2] at q0
  exact q0
 clear q0
 obtain⟨x1,x2⟩:=x
 obtain⟨y1,y2⟩:=y
 obtain⟨t,o,n,x,y,a,u1,u2,rfl,e1,e2,e3,e4,e5,e6,e7⟩:=px
 obtain⟨t',o',n',x',y',a',u1',u2',rfl,f1,f2,f3,f4,f5,f6,f7⟩:=py
 show wpAny _ _ (keyLt' (tuples' true) (.ref t) (.ref t')) _ _ _
 refine kat_lt (k _ _ e1) e3 (k _ _ f1) f3 ?_
 show KatLex prog w A true (decide (2<2)) _ [(x,x'),(.int y u2,.int y' u2')] 0 s
 have second:a=a'→KatLex prog w A true (decide (2<2)) Q [(.int y u2,.int y' u2')] 1 s:=fun ea=>by
  refine kat_cons (wpAny_eqBool_int ?_)
  by_cases c:y=y'
  ·rw[show (y == y')=true from beq_iff_eq.mpr c]
   refine kat_yes (kat_nil ?_)
   rw[show decide (2<2)=decide (r<r') from decide_eq_decide.mpr (by omega)]
   exact q
  ·rw[show (y == y')=false from beq_eq_false_iff_ne.mpr c]
   refine kat_no (kat_one _ _ (lt_int ?_))
   show Q _ s
   rw[show decide (y<y')=decide (r<r') from decide_eq_decide.mpr (by omega)]
   exact q
 rcases e7 with ⟨s1,rfl⟩ | ⟨s1,k1,rfl,ek⟩
 ·rcases f7 with ⟨_,rfl⟩ | ⟨s2,_⟩
  ·refine kat_cons (wpAny_eqBool_int ?_)
   by_cases c:a=a'
   ·rw[show (a == a')=true from beq_iff_eq.mpr c]
    exact kat_yes (second c)
   ·rw[show (a == a')=false from beq_eq_false_iff_ne.mpr c]
    refine kat_no (oneLt_int ?_)
    rw[show decide (a<a')=decide (r<r') from decide_eq_decide.mpr (by omega)]
    exact q
  ·rw[s1] at s2;cases s2
 ·rcases f7 with ⟨s2,_⟩ | ⟨_,k2,rfl,fk⟩
  ·rw[s1] at s2;cases s2
  ·refine kat_cons (eqBool_str ?_)
   by_cases c:k1=k2
   ·subst c
    rw[beq_self_eq_true]
    exact kat_yes (second (by rw[ek,fk]))
   ·rw[show (Mir.ks k1 == Mir.ks k2)=false from beq_eq_false_iff_ne.mpr fun z=>c (Mir.wC _ _ z)]
    refine kat_no (oneLt_str ?_)
    have ne:a≠a':=fun z=>c (AL _ _ (by rw[← ek,← fk,z]))
    rw[BZ,← ek,← fk,show decide (a<a')=decide (r<r') from decide_eq_decide.mpr (by omega)]
    exact q
end jr
namespace L2
open PySem PySem.Spec PyProof.Rows jr
section
variable {X:Cx}
noncomputable def PrV (str:Bool)(vs:List V)(r:Int):Prop:=∃ (x:V) (y a:Int),vs=[x,.int y]∧0≤y∧y<1000∧r=1000*a+y∧((str=false∧x=.int a)∨(str=true∧∃ k:Th.Kd,x=.str (Mir.ks k)∧a=kx k))
theorem B0 {pins:List (Addr×Obj)}{s:Shared}{σ:L2.St}{H:Hp}{t:Addr}{vs:List V}{r:Int}{str:Bool}(I:Inv X pins σ H s)(h:H t=some (.tup vs))(p:PrV str vs r):Pr s.heap str (.ref t) r:=by
 obtain⟨x,y,a,rfl,h1,h2,h3,h4⟩:=p
 obtain⟨its,rv,⟨o,e1,e2,n,e3⟩,_⟩:=I.tuple (SqT.of h)
 cases rv with
 | cons r1 rr =>
  cases rr with
  | cons r2 rr =>
   cases rr
   obtain⟨u2,rfl⟩:=r2
   rcases h4 with ⟨s1,rfl⟩ | ⟨s1,k,rfl,ek⟩
   ·obtain⟨u1,rfl⟩:=r1
    exact⟨t,o,n,_,y,a,u1,u2,rfl,e1,e2,e3,h1,h2,h3,.inl ⟨s1,rfl⟩⟩
   ·obtain⟨u1,rfl⟩:=r1
    exact⟨t,o,n,_,y,a,u1,u2,rfl,e1,e2,e3,h1,h2,h3,.inr ⟨s1,k,rfl,ek⟩⟩
theorem lM {h h':Heap}(k:∀ b o,h.get? b=some o→h'.get? b=some o):∀ {vs fs:List Value},PySem.W.KatTups h vs fs→PySem.W.KatTups h' vs fs
 | [],[],_=>trivial
 | [],_::_,z=>z.elim
 | _::_,[],z=>z.elim
 | _::_,_::_,⟨⟨a,o,xs,n,e0,e1,e2⟩,r⟩=>⟨⟨a,o,xs,n,e0,k _ _ e1,e2⟩,lM k r⟩
theorem kat_tups {h:Heap}{str:Bool}:∀ ts:List Addr,(∀ t∈ts,∃ r,Pr h str (.ref t) r)→∃ fs:List Value,PySem.W.KatTups h (ts.map Value.ref) fs∧∀ v∈fs,(str=false∧∃ i u,v=.int i u)∨(str=true∧∃ z u,v=.str z u)
 | [],_=>⟨[],PySem.W.KatTups.nil,fun v hv=>absurd hv List.not_mem_nil⟩
 | t::ts,hp=>by
  obtain⟨fs,h1,h2⟩:=kat_tups ts fun t ht=>hp t (List.mem_cons_of_mem _ ht)
  obtain⟨r,t',o,n,x,y,a,u1,u2,e0,e1,e2,e3,e4,e5,e6,e7⟩:=hp t List.mem_cons_self
  injection e0 with e0
  subst e0
  refine⟨x::fs,PySem.W.KatTups.cons e1 e2 e3 rfl h1,fun v hv=>?_⟩
  rcases List.mem_cons.mp hv with rfl | hv
  ·rcases e7 with ⟨s1,e7⟩ | ⟨s1,k,e7,_⟩
   ·exact .inl ⟨s1,_,_,e7⟩
   ·exact .inr ⟨s1,_,_,e7⟩
  ·exact h2 v hv
theorem j7:∀ {ts:List Addr} {its:List Value},Vals (ts.map V.ref) its→its=ts.map Value.ref
 | [],_,.nil=>rfl
 | t::ts,_,.cons r rr=>by cases r;rw[j7 rr];rfl
theorem iY:∀ ts:List Addr,Vals (ts.map V.ref) (ts.map Value.ref)
 | []=>.nil
 | t::ts=>.cons rfl (iY ts)
theorem nh {us:List Value}{ts:List Addr}(h:us.Perm (ts.map Value.ref)):∃ ws:List Addr,us=ws.map Value.ref∧ws.Perm ts:=by
 let g:Value→Addr:=fun v=>match v with
  | .ref a=>a
  | _=>0
 have e:∀ v∈us,Value.ref (g v)=v:=fun v hv=>by
  obtain⟨t,_,rfl⟩:=List.mem_map.mp (h.mem_iff.mp hv)
  rfl
 refine⟨us.map g,?_,?_⟩
 ·rw[List.map_map]
  exact(List.map_id' us).symm.trans (List.map_congr_left fun v hv=>(e v hv).symm)
 ·have z:=h.map g
  rw[List.map_map] at z
  have e2:ts.map (g ∘ Value.ref)=ts:=List.map_id' ts
  rw[e2] at z
  exact z
end
end L2

namespace jr
open PySem PySem.Spec PyProof.Rows PySem.W
section
variable [RkP]{prog:Program}{w:World}{A:Around}{E:Value→Shared→Prop}{s:Shared}{a₀:Array Keyed}
noncomputable def wF (a₀:Array Keyed)(st:SortSt):Prop:=(arrOf st).Perm a₀∧failedOf st=none∧∃ p,pendingOf st = #[p]∧gB 0 (arrOf st) a₀.size
theorem rg {st:SortSt}{Q:Unit→SortSt→Prop}(h0:IKA prog w A s a₀)(hp:(arrOf st).Perm a₀)(hk:kindOf st=oneType')(hf:failedOf st=none)(hd:pendingOf st = #[])(h2:2≤a₀.size)(h64:a₀.size<64)
  (h:∀ st',(arrOf st').Perm a₀→failedOf st'=none→SortedTo (arrOf st') a₀.size→Q () st'):wpS (model prog w) A E s sortRuns' Q st:=by
 rw[sortRuns'_eq]
 refine wpS_bind (wpS_get ?_)
 dsimp only
 have hsz:(arrOf st).size=a₀.size:=hp.size_eq
 rw[hsz]
 have em:minRun' a₀.size a₀.size 0=a₀.size:=by
  obtain⟨g,e⟩:∃ g,a₀.size=g+1:=⟨a₀.size-1,by omega⟩
  rw[e,minRun'_succ,if_pos (by omega)]
 rw[em]
 refine wpS_bind (wpS_mono (wpS_forRange
  (I:=fun x c st'=>(x=0∧c=(none,0)∧SB a₀ #[] 0 (fun _=>0) st')∨(1≤x∧c=(none,a₀.size)∧wF a₀ st'))
  (Q:=fun c st'=>c=(none,a₀.size)∧wF a₀ st') ?step ?fin (.inl ⟨rfl,rfl,⟨hp,hk,hf,hd,fun i hi=>absurd hi (Nat.not_lt_zero _)⟩⟩)) ?post)
 case fin =>
  rintro c st' (⟨hx,_⟩ | ⟨_,e,L⟩)
  ·have:max 0 a₀.size=a₀.size:=Nat.max_eq_right (Nat.zero_le _)
   omega
  ·exact⟨e,L⟩
 case step =>
  rintro x c st' _ hx (⟨rfl,rfl,hB⟩ | ⟨hx2,rfl,L⟩)
  ·dsimp only
   refine bQ (fun z=>absurd z (by omega)) (fun _=>?_)
   refine wpS_bind (q9 h0 (by omega) (by omega) hB fun k st2 hB2 k1 k2 g2=>?_)
   dsimp only
   rw[Nat.sub_zero] at k2
   have push:∀ (st3:SortSt),SB a₀ #[] 0 (fun _=>0) st3→gB 0 (arrOf st3) a₀.size→wF a₀ (setPending st3 ((pendingOf st3).push (0,a₀.size,0))):=fun st3 b g =>
    ⟨b.perm,b.fl,⟨_,by show (pendingOf st3).push _=_;rw[b.pd];rfl,g⟩⟩
   refine bQ (fun z=>?_) (fun z=>?_)
   ·have ef:min (a₀.size-0) a₀.size=a₀.size:=by omega
    rw[ef]
    refine wpS_bind (wpS_lift (wpAny_rule ⟨rfl,wpS_bind (wu h0 (by omega) k1 (by omega) hB2 g2 fun st3 hB3 g3=>?_)⟩))
    refine bQ (fun z=>absurd z (by simp)) (fun _=>?_)
    refine wpS_bind (wpS_get ?_)
    have hb:(pendingOf st3).back?=none:=by rw[hB3.pd];rfl
    rw[hb]
    dsimp only
    refine wpS_bind (wpS_modify (wpS_pure (.inr ⟨Nat.le_refl _,by rw[Nat.zero_add],push st3 hB3 g3⟩)))
   ·have hka:k=a₀.size:=by omega
    rw[hka] at g2 ⊢
    refine wpS_bind (wpS_get ?_)
    have hb:(pendingOf st2).back?=none:=by rw[hB2.pd];rfl
    rw[hb]
    dsimp only
    refine wpS_bind (wpS_modify (wpS_pure (.inr ⟨Nat.le_refl _,by rw[Nat.zero_add],push st2 hB2 g2⟩)))
  ·dsimp only
   refine bQ (fun _=>wpS_pure ⟨rfl,L⟩) (fun z=>absurd (Nat.le_refl _) z)
 case post =>
  rintro c st' ⟨rfl,L⟩
  dsimp only
  obtain⟨lp,lf,p,e1,asc⟩:=L
  refine wpS_bind (wpS_mono (wpS_forRange (I:=fun x c gO=>c=(none,())∧gO=st') (Q:=fun c gO=>c=(none,())∧gO=st') ?fs ?ff ⟨rfl,rfl⟩) ?fp)
  case ff =>
   rintro c gO ⟨e,e2⟩
   exact⟨e,e2⟩
  case fp =>
   rintro c gO ⟨e,e2⟩
   subst e e2
   exact wpS_pure (h _ lp lf (oG asc))
  case fs =>
   rintro x c gO _ _ ⟨e,e2⟩
   subst e e2
   refine wpS_bind (wpS_get ?_)
   exact bQ (fun _=>wpS_pure ⟨rfl,rfl⟩) (fun z=>absurd (by rw[e1];exact Nat.le_refl 1) z)
end
end jr
namespace jr
open PySem PyProof.Rows PySem.W
section
variable {prog:Program}{w:World}{A:Around}{E:Value→Shared→Prop}{s:Shared}
theorem p6 [RkP]{a:Addr}{vs fs:List Value}{rk:Value→Int}{T:Value}{n:Nat}{P:PySem.Fin→Shared→Prop}(hr:∀ p:Keyed,num p=rk p.1)(hkd:RkP.kd=tuples' (T != Value.type "tuple"))(hT2:(T == T)=true)(ho:s.heap.get? a=some (seqObj "list" vs.toArray n))(h2:2≤vs.length)(wG:vs.length<64)
  (hT:∀ h':Heap,(∀ b o,b≠a→s.heap.get? b=some o→h'.get? b=some o)→KatTups h' vs fs∧(∀ v∈fs,Looks (model prog w) h' (typeOf v) T)∧IKA prog w A { s with heap:=h' } (pairsOf vs))
  (h:∀ out:Array Value,out.toList.Perm vs→(out.toList.Pairwise fun u v=>rk u≤rk v)→P (.done (.ret .none)) { s with heap:=sortedHeap s.heap a vs out }):wpAny (model prog w) A (Builtin.«list.sort» ⟨[.ref a],[]⟩) P E s:=by
 rw[list_sort_plain]
 have la:a<s.heap.objs.size:=Heap.lt_size ho
 obtain⟨k,hk⟩:∃ k,(s.heap.update a (Obj.mapSeq fun _=>#[])).get? a=some (seqObj "list" #[] k):=⟨_,get?_update_seq ho (fun _=>#[])⟩
 have hk2:(((s.heap.update a (Obj.mapSeq fun _=>#[])).push (seqObj "tuple" vs.toArray 0)).push (seqObj "list" #[] 0)).get? a=some (seqObj "list" #[] k) :=
  Heap.get?_push_of_some _ (Heap.get?_push_of_some _ hk)
 have keep:∀ b o,b≠a→s.heap.get? b=some o→(((s.heap.update a (Obj.mapSeq fun _=>#[])).push (seqObj "tuple" vs.toArray 0)).push (seqObj "list" #[] 0)).get? b=some o:=fun b o hb e =>
  Heap.get?_push_of_some _ (Heap.get?_push_of_some _ (by rw[Heap.get?_update_ne _ _ _ _ hb];exact e))
 obtain⟨t1,t2,t3⟩:=hT _ keep
 have hz1:vs.toArray.size≤sizeLine:=by rw[List.size_toArray,sizeLine_eq];omega
 have hz2:vs.toArray.toList.length≤sizeLine:=by rw[sizeLine_eq];simp;omega
 refine wpAny_bind (listItems_at ho rfl (wpAny_bind (listUpdate_at ho rfl (wpAny_bind (seqEpoch_at hk rfl ?_)) hz1 (Nat.zero_le _))))
 refine wpAny_bind (wpAny_newTuple (wpAny_bind (wpAny_newList (wpAny_holding ?_) (Nat.zero_le _))) hz2)
 show wpAny (model prog w) A _ P E { s with heap:=((s.heap.update a (Obj.mapSeq fun _=>#[])).push (seqObj "tuple" vs.toArray 0)).push (seqObj "list" #[] 0) }
 dsimp only
 have z2:¬ vs.toArray.size<2:=by rw[List.size_toArray];omega
 rw[if_neg z2,if_neg z2]
 have hne:0<fs.length:=by
  cases fs with
  | nil=>cases vs with
   | nil=>exact absurd h2 (by decide)
   | cons v r=>exact t1.elim
  | cons f r=>exact Nat.succ_pos _
 refine wpAny_bind (kat_kind t1 hne t2 hT2 ?_)
 refine wpAny_bind (wpAny_mono (rg (a₀:=pairsOf vs) (st:=SortSt.mk' (tuples' (T != Value.type "tuple")) (vs.toArray.zip vs.toArray) #[] 7 none) (Q:=fun _ z=>(arrOf z).Perm (pairsOf vs)∧failedOf z=none∧SortedTo (arrOf z) (pairsOf vs).size)
  t3 (Array.Perm.refl _) hkd.symm rfl rfl (by rw[pairsOf_size];exact h2) (by rw[pairsOf_size];exact wG) fun z a1 a2 a3=>⟨a1,a2,a3⟩) ?_ fun _ _ e=>e)
 rintro⟨⟨⟩,z⟩ s2 ⟨rfl,hp,hf,hs⟩
 dsimp only
 have zs:((arrOf z).map (·.2)).size≤sizeLine+1:=by
  rw[Array.size_map,hp.size_eq,pairsOf_size,sizeLine_eq]
  omega
 refine wpAny_bind (seqEpoch_at hk2 rfl (wpAny_bind (listUpdate_at hk2 rfl ?_ (hsz2:=zs))))
 rw[hf]
 dsimp only
 rw[bne_self_eq_false]
 obtain⟨b1,b2⟩:=pZ hr hp hs
 exact wpAny_pure (h _ b1 b2)
theorem iK [RkP]{l:Addr}{vs fs:List Value}{rk:Value→Int}{T:Value}{Q:Value→Shared→Prop}(hr:∀ p:Keyed,num p=rk p.1)(hkd:RkP.kd=tuples' (T != Value.type "tuple"))(hT2:(T == T)=true)(hl:s.heap.IsList l vs.toArray)(h2:2≤vs.length)(wG:vs.length<64)
  (hT:∀ (A':Around) (h':Heap),(∀ b o,s.heap.get? b=some o→h'.get? b=some o)→KatTups h' vs fs∧(∀ v∈fs,Looks (model prog w) h' (typeOf v) T)∧IKA prog w A' { s with heap:=h' } (pairsOf vs))
  (h:∀ out:Array Value,out.toList.Perm vs→(out.toList.Pairwise fun u v=>rk u≤rk v)→Q (.ref (s.heap.objs.size+1)) { s with heap:=sortedAll s.heap vs out }):wpAny (model prog w) A (call (.builtin "sorted") [.ref l]) Q E s:=by
 have z:((s.heap.push (seqObj "list" #[] 0)).update s.heap.objs.size (Obj.mapSeq (· ++ vs.toArray))).objs.size=s.heap.objs.size+1:=(Heap.size_update _ _ _).trans (size_push' _ _)
 have hL:(((s.heap.push (seqObj "list" #[] 0)).update s.heap.objs.size (Obj.mapSeq (· ++ vs.toArray))).push (seqObj "list" vs.toArray 0)).get? (s.heap.objs.size+1)=some (seqObj "list" vs.toArray 0):=z ▸ Heap.get?_push_size _ rfl
 have keep:∀ b o,s.heap.get? b=some o→b≠s.heap.objs.size+1∧(((s.heap.push (seqObj "list" #[] 0)).update s.heap.objs.size (Obj.mapSeq (· ++ vs.toArray))).push (seqObj "list" vs.toArray 0)).get? b=some o:=fun b o q=>by
  have hlt:b<s.heap.objs.size:=Heap.lt_size q
  have hne:b≠s.heap.objs.size:=Nat.ne_of_lt hlt
  have B1:b≠s.heap.objs.size+1:=Nat.ne_of_lt (Nat.lt_succ_of_lt hlt)
  refine⟨B1,?_⟩
  rw[Heap.get?_push_ne _ _ _ (by rw[z];exact B1),Heap.get?_update_ne _ _ _ _ hne,Heap.get?_push_ne _ _ _ hne]
  exact q
 refine Calls.call_function_entry kind_sorted plain_sorted entry_sorted (args_sorted1 _) ?_
 unfold Builtin.«sorted»
 refine wpAny_bind (m:=checkCount "sorted" 1 1 _) (wpAny_pure (wpAny_bind (collect_list hl (wpAny_bind (wpAny_newList ?_ (by rw[sizeLine_eq];omega))) (hsz:=by rw[sizeLine_eq];omega))))
 show wpAny _ _ _ _ _ { s with heap:=((s.heap.push (seqObj "list" #[] 0)).update s.heap.objs.size (Obj.mapSeq (· ++ vs.toArray))).push (seqObj "list" vs.toArray 0) }
 rw[z]
 refine wpAny_bind (wpAny_holding (wpAny_call_entry slot_list_sort ⟨_,hL,rfl⟩ entry_list_sort (p6 (fs:=fs) hr hkd hT2 hL h2 wG (fun h' hk=>?_) fun out a1 a2=>⟨_,rfl,wpAny_pure ⟨_,rfl,h out a1 a2⟩⟩) (args_list_sort _)))
 exact hT _ h' fun b o q=>hk b o (keep b o q).1 (keep b o q).2
end
end jr
namespace L2
open PySem PySem.Spec PyProof.Rows jr
section
variable {X:Cx}
theorem hJ (str:Bool):eO X (.builtin "sorted") (fun xs H Q=>∃ (p:Addr) (ts:List Addr) (g:Addr→Int),xs=[.ref p]∧SqL X.K H p (ts.map V.ref)∧ts.length<64∧(∀ t∈ts,∃ vs,H t=some (.tup vs)∧PrV str vs (g t)) ∧
  ∀ (us:List Addr) (l:Addr),us.Perm ts→(us.Pairwise fun t u=>g t≤g u)→H l=none→Q (.ref l) (upd H l (.lst (us.map V.ref)))):=by
 intro pins s σ H xs us Q I r h
 obtain⟨p,ts,g,rfl,hq,wG,ht,q⟩:=h
 obtain⟨u,rfl,ru⟩:=r.one
 cases ru
 obtain⟨its,rv,pl,hz⟩:=I.list hq
 obtain rfl:=j7 rv
 have hpr:∀ t∈ts,Pr s.heap str (.ref t) (g t):=fun t hm=>by
  obtain⟨vs,e1,e2⟩:=ht t hm
  exact B0 I e1 e2
 have hfr:H (s.heap.objs.size+1)=none:=I.hok.fresh (Nat.le_succ _)
 have fin:∀ (out:Array Value),out.toList.Perm (ts.map Value.ref)→(out.toList.Pairwise fun u v=>rkO s.heap str u≤rkO s.heap str v)→EP X pins σ Q (.ref (s.heap.objs.size+1)) { s with heap:=sortedAll s.heap (ts.map Value.ref) out }:=fun out a1 a2=>by
  obtain⟨ws,e,hw⟩:=nh a1
  obtain⟨c,he⟩:=sortedAll_at s.heap (ts.map Value.ref) out
  have hg:∀ t∈ws,rkO s.heap str (.ref t)=g t:=fun t hm=>wD (hpr t (hw.mem_iff.mp hm))
  have a3:ws.Pairwise fun t u=>g t≤g u:=by
   rw[e,List.pairwise_map] at a2
   refine List.Pairwise.imp_of_mem (fun {x y} hx hy z=>?_) a2
   rw[hg x hx,hg y hy] at z
   exact z
  refine⟨.ref (s.heap.objs.size+1),_,I.laid (a:=s.heap.objs.size+1) (o:=.lst (ws.map V.ref)) (t':=s.toks) (fun b o=>sortedAll_old) (Nat.le_succ _) ⟨?_,out.toList,c,by rw[e];exact iY ws,by simpa[seqObj] using he⟩,rfl,q ws _ hw a3 hfr⟩
  rw[List.length_map,hw.length_eq]
  have:=sizeLine_eq
  omega
 by_cases c:2≤ts.length
 ·letI:=AM s.heap str
  obtain⟨fs,k1,k2⟩:=kat_tups (h:=s.heap) (str:=str) ts fun t hm=>⟨_,hpr t hm⟩
  refine iK (fs:=fs) (rk:=rkO s.heap str) (T:=tyP str) (fun p=>rfl) (by cases str <;> rfl) (by cases str <;> rfl) pl.isList (by rw[List.length_map];exact c) (by rw[List.length_map];exact wG) (fun A' h' hk=>?_) fun out a1 a2=>fin out a1 a2
  refine⟨lM hk k1,fun v hv=>?_,fun p hp=>?_,yB hk⟩
  ·rcases k2 v hv with ⟨s1,i,u,rfl⟩ | ⟨s1,z,u,rfl⟩
   ·subst s1
    exact .now
   ·subst s1
    exact .now
  ·have ez:(pairsOf (ts.map Value.ref)).toList=(ts.map Value.ref).zip (ts.map Value.ref):=by unfold pairsOf;simp
   rw[ez] at hp
   obtain⟨t,hm,e⟩:=List.mem_map.mp (List.of_mem_zip hp).1
   exact⟨g t,by rw[← e];exact hpr t hm⟩
 ·refine lK pl.isList (by rw[List.length_map];omega) (fin _ (by simp) ?_)
  match ts,c with
  | [],_=>exact List.Pairwise.nil
  | [t],_=>exact List.pairwise_singleton _ _
  | _::_::_,c=>exact absurd (by simp) c
end
end L2



namespace Mir
open PySem L2
noncomputable def gn (ps:List (Int×Int)):List (List Int):=(grp (fun k=>mk ps (ps.getD k (0,0)).1) ps.length).map Prod.snd
noncomputable def wH:Sp:=fun vs H Q _=>∃ (l:Addr) (ps:List (Int×Int)),vs=[.ref l]∧TsT pr H l ps∧ps.length≤100∧∀ (r:Addr) (H':Hp),H r=none→aq H H'→TsT iV H' r (gn ps)→Q (.ref r) H'
section
variable {κ:Type}[DecidableEq κ]
theorem p7 {kvs:List (κ×V)}{k:κ}{v:V}(h:(bj kvs k).isSome=true):(putK kvs k v).map Prod.fst=kvs.map Prod.fst:=by
 unfold putK
 rw[if_pos (by rw[dU];exact h),List.map_map]
 refine List.map_congr_left fun y _=>?_
 show (if y.1=k then (y.1,v) else y).1=y.1
 split <;> rfl
theorem yC {kvs:List (κ×V)}{k:κ}{v:V}(h:(bj kvs k).isSome=true):(putK kvs k v).length=kvs.length:=by
 have:=congrArg List.length (p7 (v:=v) h)
 rwa[List.length_map,List.length_map] at this
end
structure GD (kvs:List (Key×V)) (m:Int→Int) (S:Int→Prop):Prop where
 yes:∀ x,S x→bj kvs (Sum.inl x:Key)=some (.int (m x))
 no:∀ x,¬ S x→bj kvs (Sum.inl x:Key)=none
 keys:∀ k∈kvs.map Prod.fst,∃ x:Int,k=Sum.inl x∧S x
section
variable {kvs:List (Key×V)}{m m':Int→Int}{S T:Int→Prop}{x:Int}
theorem GD.nil (m:Int→Int)(h:∀ x,¬ S x):GD [] m S:=⟨fun x hx=>absurd hx (h x),fun _ _=>rfl,fun k hk=>absurd hk List.not_mem_nil⟩
theorem GD.congr (g:GD kvs m S)(e:∀ x,S x→m x=m' x):GD kvs m' S:=⟨fun x hx=>by rw[g.yes x hx,e x hx],g.no,g.keys⟩
theorem GD.imp (g:GD kvs m S)(e:∀ x,S x↔T x):GD kvs m T:=⟨fun x hx=>g.yes x ((e x).mpr hx),fun x hx=>g.no x fun z=>hx ((e x).mp z),fun k hk=>let ⟨x,h1,h2⟩:=g.keys k hk;⟨x,h1,(e x).mp h2⟩⟩
theorem GD.new (g:GD kvs m S)(hx:¬ S x){v:Int}(hv:v=m x):GD (putK kvs (Sum.inl x:Key) (.int v)) m (fun y=>S y∨y=x):=by
 have hn:=g.no x hx
 refine⟨fun y hy=>?_,fun y hy=>?_,fun k hk=>?_⟩
 ·rw[fX]
  by_cases c:y=x
  ·rw[c,if_pos rfl,hv]
  ·rw[if_neg fun z=>c (by injection z),g.yes y (hy.resolve_right c)]
 ·rw[fX,if_neg fun z=>hy (.inr (by injection z)),g.no y fun z=>hy (.inl z)]
 ·rw[gR _ hn,List.map_append] at hk
  rcases List.mem_append.mp hk with hk | hk
  ·obtain⟨y,h1,h2⟩:=g.keys k hk
   exact⟨y,h1,.inl h2⟩
  ·exact⟨x,List.mem_singleton.mp hk,.inr rfl⟩
theorem GD.put (g:GD kvs m S)(hx:S x)(v:Int):GD (putK kvs (Sum.inl x:Key) (.int v)) (fun y=>if y=x then v else m y) S:=by
 refine⟨fun y hy=>?_,fun y hy=>?_,fun k hk=>?_⟩
 ·rw[fX]
  by_cases c:y=x
  ·rw[c,if_pos rfl,if_pos rfl]
  ·rw[if_neg fun z=>c (by injection z),if_neg c,g.yes y hy]
 ·rw[fX,if_neg fun z=>hy (by injection z with z;rw[z];exact hx),g.no y hy]
 ·rw[p7 (by rw[g.yes x hx];rfl)] at hk
  exact g.keys k hk
end
theorem p8 {Q:VK}{H:Hp}{d:Addr}{kvs:List (Key×V)}{m:Int→Int}{S:Int→Prop}{x:Int}(hd:H d=some (.dK kvs))(g:GD kvs m S)(hm:¬ S x→m x=x)
  (q:∀ (yD:List (Key×V)) (H':Hp),yD.length≤kvs.length+1→H' d=some (.dK yD)→(∀ b,b≠d→H' b=H b)→GD yD m (fun y=>S y∨y=x)→Q (.int (m x)) H') :
  (∀ v,bj kvs (Sum.inl x:Key)=some v→Q v H)∧(bj kvs (Sum.inl x:Key)=none→Q (.int x) (upd H d (.dK (putK kvs (Sum.inl x:Key) (.int x))))):=by
 constructor
 ·intro v hv
  have hS:S x:=Classical.byContradiction fun z=>by rw[g.no x z] at hv;cases hv
  rw[g.yes x hS] at hv
  cases hv
  exact q kvs H (Nat.le_succ _) hd (fun _ _=>rfl) (g.imp fun y=>⟨.inl,fun z=>z.elim id fun e=>e ▸ hS⟩)
 ·intro hv
  have hS:¬ S x:=fun z=>by rw[g.yes x z] at hv;cases hv
  have e:=hm hS
  have z:=q (putK kvs (Sum.inl x:Key) (.int x)) (upd H d (.dK (putK kvs (Sum.inl x:Key) (.int x)))) (cm ..) ae (fun b hb=>ao hb) (g.new hS e.symm)
  rwa[e] at z
theorem aq.but {H0 H H':Hp}{d:Addr}(s:aq H0 H)(hd:H0 d=none)(o:∀ b,b≠d→H' b=H b):aq H0 H':=fun b u e=>by
 rw[o b (aV e hd)]
 exact s b u e
open Classical in
noncomputable def chg (ks:List Key)(m:Int→Int)(a b x:Int):Int:=if (Sum.inl x:Key)∈ks∧m x=b then a else m x
theorem yE {m:Int→Int}{a b x:Int}:chg [] m a b x=m x:=if_neg fun z=>absurd z.1 List.not_mem_nil
theorem sT {ks:List Key}{m:Int→Int}{a b x:Int}(h:(Sum.inl x:Key)∈ks):chg ks m a b x=if m x=b then a else m x:=by
 unfold chg
 by_cases c:m x=b
 ·rw[if_pos ⟨h,c⟩,if_pos c]
 ·rw[if_neg fun z=>c z.2,if_neg c]
theorem qa {ks:List Key}{m:Int→Int}{a b x y:Int}:chg (ks++[Sum.inl x]) m a b y=if y=x∧m y=b then a else chg ks m a b y:=by
 unfold chg
 by_cases c:y=x
 ·subst c
  by_cases c2:m y=b
  ·rw[if_pos ⟨List.mem_append_right _ (List.mem_singleton.mpr rfl),c2⟩,if_pos ⟨rfl,c2⟩]
  ·rw[if_neg fun z=>c2 z.2,if_neg fun z=>c2 z.2,if_neg fun z=>c2 z.2]
 ·have e:((Sum.inl y:Key)∈ks++[(Sum.inl x:Key)])↔(Sum.inl y:Key)∈ks:=by
   rw[List.mem_append,List.mem_singleton]
   exact⟨fun z=>z.resolve_right fun z=>c (by injection z),.inl⟩
  rw[if_neg (c:=y=x∧m y=b) fun z=>c z.1]
  by_cases d:(Sum.inl y:Key)∈ks∧m y=b
  ·rw[if_pos d,if_pos ⟨e.mpr d.1,d.2⟩]
  ·rw[if_neg d,if_neg fun z=>d ⟨e.mp z.1,z.2⟩]
theorem yF {ks:List Key}{m:Int→Int}{a b x y:Int}(h:chg ks m a b x=b):(if y=x then a else chg ks m a b y)=chg (ks++[Sum.inl x]) m a b y:=by
 rw[qa]
 by_cases c:y=x
 ·subst c
  rw[if_pos rfl]
  by_cases c2:m y=b
  ·rw[if_pos ⟨rfl,c2⟩]
  ·have e:chg ks m a b y=m y:=if_neg fun z=>c2 z.2
   rw[e] at h
   exact absurd h c2
 ·rw[if_neg c,if_neg fun z=>c z.1]
theorem AN {ks:List Key}{m:Int→Int}{a b x y:Int}(h:¬ chg ks m a b x=b):chg ks m a b y=chg (ks++[Sum.inl x]) m a b y:=by
 rw[qa]
 by_cases c:y=x∧m y=b
 ·obtain⟨c1,c2⟩:=c
  subst c1
  rw[if_pos ⟨rfl,c2⟩]
  by_cases c3:(Sum.inl y:Key)∈ks
  ·rw[sT c3,if_pos c2]
  ·have e:chg ks m a b y=m y:=if_neg fun z=>c3 z.1
   rw[e] at h
   exact absurd c2 h
 ·rw[if_neg c]
structure FG (H0 H:Hp) (d:Addr) (kv:List (Key×V)) (g:List (Int×List Int)) (as:List Addr):Prop where
 at':H d=some (.dK kv)
 ks:kv.map Prod.fst=g.map fun e=>(Sum.inl e.1:Key)
 vs:kv.map Prod.snd=as.map V.ref
 nd:as.Nodup
 lst:∀ (j:Nat) (a:Addr) (e:Int×List Int),as[j]?=some a→g[j]?=some e→H a=some (.lst (iV e.2))
 new:∀ a∈as,H0 a=none
section
variable {H0 H H':Hp}{d:Addr}{kv:List (Key×V)}{g:List (Int×List Int)}{as:List Addr}
theorem FG.len (h:FG H0 H d kv g as):kv.length=g.length∧as.length=g.length:=by
 have h1:=congrArg List.length h.ks
 have h2:=congrArg List.length h.vs
 rw[List.length_map,List.length_map] at h1 h2
 exact⟨h1,by omega⟩
theorem FG.same (h:FG H0 H d kv g as)(s:aq H H'):FG H0 H' d kv g as:=⟨s _ _ h.at',h.ks,h.vs,h.nd,fun j a e h1 h2=>s _ _ (h.lst j a e h1 h2),h.new⟩
theorem oI {κ:Type}[DecidableEq κ]:∀ {kv:List (κ×V)} {j:Nat} {k:κ} {v:V},(kv.map Prod.fst).Nodup→kv[j]?=some (k,v)→bj kv k=some v
 | [],j,k,v,_,h=>by simp at h
 | p::r,0,k,v,_,h=>by
  rw[List.getElem?_cons_zero] at h
  rw[Option.some.inj h]
  exact bU rfl
 | p::r,j+1,k,v,nd,h=>by
  rw[List.getElem?_cons_succ] at h
  rw[List.map_cons,List.nodup_cons] at nd
  rw[bV fun z=>nd.1 (by rw[z];exact List.mem_map.mpr ⟨_,List.mem_of_getElem? h,rfl⟩)]
  exact oI nd.2 h
theorem FG.key (h:FG H0 H d kv g as){j:Nat}{a:Addr}{e:Int×List Int}(h1:as[j]?=some a)(h2:g[j]?=some e):kv[j]?=some ((Sum.inl e.1:Key),V.ref a):=by
 have k1:=congrArg (·[j]?) h.ks
 have k2:=congrArg (·[j]?) h.vs
 simp only[List.getElem?_map,h1,h2,Option.map_some] at k1 k2
 obtain⟨p,e1,e2⟩:=Option.map_eq_some_iff.mp k1
 obtain⟨p',e3,e4⟩:=Option.map_eq_some_iff.mp k2
 rw[e1] at e3
 cases e3
 rw[e1,← e2,← e4]
theorem FG.old (h:FG H0 H d kv g as)(hn:(g.map Prod.fst).Nodup){k x:Int}{v:V}(hv:bj kv (Sum.inl k:Key)=some v) :
  ∃ a L,v=.ref a∧H a=some (.lst (iV L))∧(∃ e∈g,e.2=L)∧FG H0 (upd H a (.lst (iV L++[.int x]))) d kv (eT g k x) as:=by
 have hm:=og hv
 rw[h.ks] at hm
 obtain⟨e,he,ek⟩:=List.mem_map.mp hm
 have ek:e.1=k:=by injection ek
 obtain⟨j,hj⟩:=List.getElem?_of_mem he
 have hl:=h.len
 have hj2:j<as.length:=by rw[hl.2];exact(List.getElem?_eq_some_iff.mp hj).1
 have ha:as[j]?=some as[j]:=List.getElem?_eq_getElem hj2
 have nk:(kv.map Prod.fst).Nodup:=by
  rw[h.ks,show (g.map fun e=>(Sum.inl e.1:Key))=(g.map Prod.fst).map Sum.inl by rw[List.map_map];rfl]
  exact List.pairwise_map.mpr (List.Pairwise.imp (fun z e=>z (by injection e)) hn)
 have z:=oI nk (h.key ha hj)
 rw[ek,hv] at z
 obtain rfl:=Option.some.inj z
 have hL:=h.lst j _ e ha hj
 refine⟨as[j],e.2,rfl,hL,⟨e,he,rfl⟩,?_⟩
 have hd:d≠as[j]:=fun z=>by have:=h.at';rw[z,hL] at this;cases this
 have any:(g.any fun e=>decide (e.1=k))=true:=List.any_eq_true.mpr ⟨e,he,decide_eq_true ek⟩
 refine⟨by rw[ao hd];exact h.at',?_,h.vs,h.nd,fun i a f h1 h2=>?_,h.new⟩
 ·rw[h.ks]
  unfold eT
  rw[if_pos any,List.map_map]
  refine List.map_congr_left fun y _=>?_
  show _=(Sum.inl (if y.1=k then (y.1,y.2++[x]) else y).1:Key)
  split <;> rfl
 ·unfold eT at h2
  rw[if_pos any,List.getElem?_map] at h2
  obtain⟨f0,h3,rfl⟩:=Option.map_eq_some_iff.mp h2
  by_cases c:i=j
  ·subst c
   rw[hj] at h3
   cases h3
   rw[ha] at h1
   cases h1
   rw[ae,if_pos ek]
   show _=some (HO.lst (iV (e.2++[x])))
   rw[eQ]
   rfl
  ·have na:a≠as[j]:=fun z=>c ((List.getElem?_inj (List.getElem?_eq_some_iff.mp h1).1 h.nd).mp (by rw[h1,ha,z]))
   rw[ao na,if_neg]
   ·exact h.lst i a f0 h1 h3
   ·intro z
    apply c
    refine(List.getElem?_inj (l:=g.map Prod.fst) (by rw[List.length_map];exact(List.getElem?_eq_some_iff.mp h3).1) hn).mp ?_
    rw[List.getElem?_map,List.getElem?_map,h3,hj]
    show some f0.1=some e.1
    rw[z,ek]
theorem FG.fresh (h:FG H0 H d kv g as){k x:Int}{n:Addr}(hv:bj kv (Sum.inl k:Key)=none)(hn:H n=some (.lst []))(hn0:H0 n=none)(hna:n ∉ as) :
  FG H0 (upd (upd H d (.dK (putK kv (Sum.inl k:Key) (.ref n)))) n (.lst ([]++[.int x]))) d (putK kv (Sum.inl k:Key) (.ref n)) (eT g k x) (as++[n]):=by
 have hd:d≠n:=fun z=>by have:=h.at';rw[z,hn] at this;cases this
 have any:¬ (g.any fun e=>decide (e.1=k))=true:=fun z=>by
  obtain⟨e,he,ek⟩:=List.any_eq_true.mp z
  have:=vt hv
  apply this
  show (Sum.inl k:Key)∈kv.map Prod.fst
  rw[h.ks]
  exact List.mem_map.mpr ⟨e,he,by rw[of_decide_eq_true ek]⟩
 have hl:=h.len
 refine⟨by rw[ao hd,ae],?_,?_,?_,fun j a e h1 h2=>?_,fun a ha=>?_⟩
 ·rw[gR _ hv,List.map_append,h.ks]
  unfold eT
  rw[if_neg any,List.map_append]
  rfl
 ·rw[gR _ hv,List.map_append,h.vs,List.map_append]
  rfl
 ·rw[List.nodup_append]
  exact⟨h.nd,by simp,fun a ha b hb e=>hna (by rw[← List.mem_singleton.mp hb,← e];exact ha)⟩
 ·unfold eT at h2
  rw[if_neg any] at h2
  by_cases c:j<as.length
  ·rw[List.getElem?_append_left c] at h1
   rw[List.getElem?_append_left (by omega)] at h2
   have na:a≠n:=fun z=>hna (z ▸ List.mem_of_getElem? h1)
   have h3:=h.lst j a e h1 h2
   have nd:a≠d:=fun z=>by have:=h.at';rw[← z,h3] at this;cases this
   rw[ao na,ao nd]
   exact h3
  ·rw[List.getElem?_append_right (by omega)] at h1 h2
   have ej:j-as.length=0:=by
    have:=(List.getElem?_eq_some_iff.mp h1).1
    simp at this
    omega
   have ej2:j-g.length=0:=by omega
   rw[ej] at h1
   rw[ej2] at h2
   cases h1
   cases h2
   rw[ae]
   rfl
 ·rcases List.mem_append.mp ha with ha | ha
  ·exact h.new a ha
  ·rw[List.mem_singleton.mp ha];exact hn0
end
end Mir


namespace L2
open PySem PySem.Spec PyProof.Rows
section
variable {X:Cx}{tg:Expr}{K:PySem.W.Frag}
theorem wI {l:Expr}{tl:TE}(hK:X.K=K)(hl:PE X l tl):PI X tg l (zg K tl):=hK ▸ aM hl
end
end L2

namespace Mir
open PySem L2
noncomputable def ni:Sp:=fun vs H Q _=>∃ (t:Addr) (rs:List Int),vs=[.ref t]∧H t=some (.tup (iV rs))∧Fit rs∧∀ (l:Addr) (H':Hp),H l=none→aq H H'→TsT pr H' l (yz rs)→Q (.ref l) H'
structure GK (H:Hp) (d:Addr) (kv:List (Key×V)) (S:List (Int×Int)):Prop where
 at':H d=some (.dK kv)
 val:∀ (g:Nat) (q:Int×Int),q∈S→q.1≤g→(g:Int)<q.2→∃ p∈S,p.1≤g∧(g:Int)<p.2∧(∀ q'∈S,q'.1≤g→(g:Int)<q'.2→q'.1≤p.1)∧∃ t,bj kv (Sum.inl (g:Int):Key)=some (.ref t)∧H t=some (.tup (pr p))
structure GI (H:Hp) (d:Addr) (kv0 kv:List (Key×V)) (p:Int×Int) (m:Nat):Prop where
 at':H d=some (.dK kv)
 new:∀ g:Nat,p.1≤g→(g:Int)<p.1+m→∃ t,bj kv (Sum.inl (g:Int):Key)=some (.ref t)∧H t=some (.tup (pr p))
 old:∀ g:Nat,¬ (p.1≤g∧(g:Int)<p.1+m)→bj kv (Sum.inl (g:Int):Key)=bj kv0 (Sum.inl (g:Int):Key)
theorem GI.put {H:Hp}{d t:Addr}{kv0 kv:List (Key×V)}{p:Int×Int}{m:Nat}(h:GI H d kv0 kv p m)(hp:0≤p.1)(ht:H t=some (.tup (pr p))):GI (upd H d (.dK (putK kv (Sum.inl (p.1+m):Key) (.ref t)))) d kv0 (putK kv (Sum.inl (p.1+m):Key) (.ref t)) p (m+1):=by
 have keep:∀ a ys,H a=some (.tup ys)→upd H d (.dK (putK kv (Sum.inl (p.1+m):Key) (.ref t))) a=some (.tup ys):=fun a ys e=>by
  rw[ao fun z=>by have:=h.at';rw[← z,e] at this;cases this]
  exact e
 refine⟨ae,fun g h1 h2=>?_,fun g hg=>?_⟩
 ·rw[fX]
  by_cases c:(g:Int)=p.1+m
  ·rw[c,if_pos rfl]
   exact⟨t,rfl,keep _ _ ht⟩
  ·rw[if_neg fun z=>c (by injection z)]
   obtain⟨t',e1,e2⟩:=h.new g h1 (by omega)
   exact⟨t',e1,keep _ _ e2⟩
 ·rw[fX,if_neg fun z=>hg (by injection z with z;omega)]
  exact h.old g fun z=>hg ⟨z.1,by omega⟩
theorem GK.next {H H':Hp}{d:Addr}{kv0 kv:List (Key×V)}{S:List (Int×Int)}{p:Int×Int}{m:Nat}(h:GK H d kv0 S)(k:GI H' d kv0 kv p m)(em:p.2=p.1+m)(lt:∀ q∈S,q.1<p.1)(keep:∀ a ys,H a=some (.tup ys)→H' a=some (.tup ys)):GK H' d kv (S++[p]):=by
 refine⟨k.at',fun g q hq h1 h2=>?_⟩
 by_cases c:p.1≤g∧(g:Int)<p.1+m
 ·obtain⟨t,e1,e2⟩:=k.new g c.1 c.2
  refine⟨p,List.mem_append_right _ (List.mem_singleton.mpr rfl),c.1,by omega,fun q' hq' _ _=>?_,t,e1,e2⟩
  rcases List.mem_append.mp hq' with hq' | hq'
  ·exact Int.le_of_lt (lt q' hq')
  ·rw[List.mem_singleton.mp hq'];exact Int.le_refl _
 ·rcases List.mem_append.mp hq with hq | hq
  ·obtain⟨r,hr,r1,r2,r3,t,e1,e2⟩:=h.val g q hq h1 h2
   refine⟨r,List.mem_append_left _ hr,r1,r2,fun q' hq' a1 a2=>?_,t,by rw[k.old g c,e1],keep _ _ e2⟩
   rcases List.mem_append.mp hq' with hq' | hq'
   ·exact r3 q' hq' a1 a2
   ·rw[List.mem_singleton.mp hq'] at a1 a2
    exact absurd ⟨a1,by omega⟩ c
  ·rw[List.mem_singleton.mp hq] at h1 h2
   exact absurd ⟨h1,by omega⟩ c
theorem wJ {rs:List Int}{g:Nat}{p:Int×Int}(hp:p∈b4 (frm rs))(h1:p.1≤g)(h2:(g:Int)<p.2)(mx:∀ q∈b4 (frm rs),q.1≤g→(g:Int)<q.2→q.1≤p.1):ow (frm rs) g=p:=by
 obtain⟨a,b,k,rfl⟩:=bO.mp hp
 dsimp only at h1 h2
 refine zy ⟨k,by omega,by omega,fun c d k' l1 l2=>?_⟩
 have:=mx _ (bO.mpr ⟨c,d,k',rfl⟩) (by dsimp only;omega) (by dsimp only;omega)
 dsimp only at this
 omega
theorem AO {rs:List Int}(fit:Fit rs){H:Hp}{d:Addr}{kv:List (Key×V)}(h:GK H d kv (b4 (frm rs))){g:Nat}(hg:g<rs.length+1):∃ t,bj kv (Sum.inl (g:Int):Key)=some (.ref t)∧H t=some (.tup (pr (ow (frm rs) g))):=by
 obtain⟨c,e,o⟩:=rf fit hg
 have l:=o.le
 have lt:=o.lt
 obtain⟨p,hp,h1,h2,h3,t,e1,e2⟩:=h.val g ((c:Int),(e:Int)) (bO.mpr ⟨c,e,o.kn,rfl⟩) (by dsimp only;omega) (by dsimp only;omega)
 refine⟨t,e1,?_⟩
 rw[wJ hp h1 h2 h3]
 exact e2
theorem jw {H:Hp}{D:Addr}{ps:List (Int×Int)}(hT:TsT pr H D ps)(rng:∀ p∈ps,0≤p.2∧p.2<1000):∃ (ts:List Addr) (g:Addr→Int),H D=some (.lst (ts.map V.ref))∧ts.length=ps.length∧(∀ t∈ts,∃ vs,H t=some (.tup vs)∧PrV false vs (g t)) ∧
  ∀ us:List Addr,us.Perm ts→(us.Pairwise fun t u=>g t≤g u)→∃ M:List (Int×Int),M.Perm ps∧(M.Pairwise fun p q=>p.1≤q.1)∧∀ (H':Hp) (l:Addr),aq H H'→H' l=some (.lst (us.map V.ref))→TsT pr H' l M:=by
 obtain⟨ts,h1,h2,h3⟩:=hT
 let ct:Addr→Int×Int:=fun a=>match H a with
  | some (.tup [.int x,.int y])=>(x,y)
  | _=>(0,0)
 have hct:∀ (i:Nat) (t:Addr) (p:Int×Int),ts[i]?=some t→ps[i]?=some p→ct t=p:=fun i t p e1 e2=>by
  have z:=h3 i t p e1 e2
  show (match H t with
   | some (.tup [.int x,.int y])=>(x,y)
   | _=>(0,0))=p
  rw[z]
  rfl
 have mem:∀ t∈ts,ct t∈ps∧H t=some (.tup (pr (ct t))):=fun t ht=>by
  obtain⟨i,hi⟩:=List.getElem?_of_mem ht
  have hi2:i<ps.length:=by rw[← h2];exact(List.getElem?_eq_some_iff.mp hi).1
  have e:=List.getElem?_eq_getElem hi2
  rw[hct i t _ hi e]
  exact⟨List.getElem_mem hi2,h3 i t _ hi e⟩
 have eps:ts.map ct=ps:=List.ext_getElem? fun i=>by
  rw[List.getElem?_map]
  by_cases c:i<ts.length
  ·have e1:=List.getElem?_eq_getElem c
   have e2:=List.getElem?_eq_getElem (l:=ps) (show i<ps.length by omega)
   rw[e1,e2,← hct i _ _ e1 e2]
   rfl
  ·rw[List.getElem?_eq_none (by omega),List.getElem?_eq_none (by omega)]
   rfl
 refine⟨ts,fun a=>1000*(ct a).1+(ct a).2,h1,h2,fun t ht=>?_,fun us hp hs=>⟨us.map ct,?_,?_,fun H' l s hl=>⟨us,hl,by rw[List.length_map],fun i t x e1 e2=>?_⟩⟩⟩
 ·obtain⟨m1,m2⟩:=mem t ht
  have r:=rng _ m1
  exact⟨_,m2,.int (ct t).1,(ct t).2,(ct t).1,rfl,r.1,r.2,rfl,.inl ⟨rfl,rfl⟩⟩
 ·have:=hp.map ct
  rwa[eps] at this
 ·rw[List.pairwise_map]
  refine List.Pairwise.imp_of_mem (fun {x y} hx hy z=>?_) hs
  have r1:=rng _ (mem x (hp.mem_iff.mp hx)).1
  have r2:=rng _ (mem y (hp.mem_iff.mp hy)).1
  have z:1000*(ct x).1+(ct x).2≤1000*(ct y).1+(ct y).2:=z
  omega
 ·rw[List.getElem?_map,e1] at e2
  have e2:=Option.some.inj e2
  rw[← e2]
  exact s _ _ (mem t (hp.mem_iff.mp (List.mem_of_getElem? e1))).2
end Mir

namespace Mir
theorem AQ {rs:List Int}(fit:Fit rs){a b c d:Nat}(h:Kn (frm rs) a b)(k:Kn (frm rs) c d)(lt:a<c):b≤c∨d<b:=by
 by_cases e:c<b
 ·right
  have le:=yy (dD fit) h k.1 lt e
  have l1:=h.1.lb
  have l2:=k.1.lt
  rw[ba] at l1
  refine Nat.lt_of_le_of_ne le fun z=>?_
  subst z
  have:=jv (h.mirror fit) (k.mirror fit)
  omega
 ·left;omega
end Mir

namespace yG
open PySem PySem.Spec PyProof.Rows
noncomputable def cnt (bs:List Bool):Nat:=(if bs.any (· == true)=true then 1 else 0)+(if bs.any (· == false)=true then 1 else 0)
end yG

set_option maxHeartbeats 1000000

set_option maxHeartbeats 1000000

set_option maxHeartbeats 1000000
namespace L2
open PySem PySem.Spec PyProof.Rows
section
variable {X:Cx}
theorem qb (hc:X.calm=true):eO X (.builtin "any") (fun xs H Q=>∃ (p:Addr) (bs:List Bool),xs=[.ref p]∧H p=some (.lst (bs.map V.bl))∧Q (.bl (bs.any id)) H):=by
 intro pins s σ H xs us Q I r h
 obtain⟨p,bs,rfl,hp,q⟩:=h
 obtain⟨u,rfl,ru⟩:=r.one
 cases ru
 obtain⟨its,rv,pl,hz⟩:=I.list (SqL.of hp)
 have hl:=pl.isList
 have hlt:p<s.heap.objs.size:=let ⟨_,e,_⟩:=hl;Heap.lt_size e
 have hbl:bs.length=its.length:=by have z:=rv.length;rwa[List.length_map] at z
 refine call_any_walk (wpAny_pyIter_list hl ⟨s.heap.objs.size,[s.heap.objs.size,p],[s.heap.objs.size],its.toArray.size,_,_,fun i=>(bs[i]?).getD false,rfl,Walks.list (A:=X.A.in1) (I.ok.hd hc) _ p (Nat.ne_of_lt hlt) its.toArray,
  ⟨⟨_,Heap.get?_push_size _ rfl,rfl,rfl⟩,hl.push _⟩,fun i v s' Q' E' hP hQ=>?_,fun h' tk hk=>?_⟩)
 ·have hP:its[i]?=some v:=by simpa using hP
  have hi:i<bs.length:=by rw[hbl];exact(List.getElem?_eq_some_iff.mp hP).1
  have eb:(bs.map V.bl)[i]?=some (.bl bs[i]):=by rw[List.getElem?_map,List.getElem?_eq_getElem hi];rfl
  obtain⟨u,e1,r1⟩:=rv.get eb
  rw[hP] at e1
  obtain rfl:=Option.some.inj e1
  cases r1
  dsimp only at hQ
  rw[List.getElem?_eq_getElem hi] at hQ
  exact wpAny_truthy_bool hQ
 ·have e2:((List.range its.toArray.size).any fun i=>(bs[i]?).getD false)=bs.any id:=by
   rw[List.size_toArray,← hbl,Bool.eq_iff_iff,List.any_eq_true,List.any_eq_true]
   constructor
   ·rintro⟨i,hi,h⟩
    have hi:=List.mem_range.mp hi
    rw[List.getElem?_eq_getElem hi] at h
    exact⟨_,List.getElem_mem hi,h⟩
   ·rintro⟨b,hb,h⟩
    obtain⟨i,hi,rfl⟩:=List.mem_iff_getElem.mp hb
    exact⟨i,List.mem_range.mpr hi,by rw[List.getElem?_eq_getElem hi];exact h⟩
  rw[e2]
  exact⟨.bl _,H,I.kept (t':=tk) fun b o eb=>hk b o (fun hm=>by rw[List.mem_singleton.mp hm] at eb;exact Nat.lt_irrefl _ (Heap.lt_size eb)) (Heap.get?_push_of_some _ eb),rfl,q⟩
end
end L2

namespace L2
open PySem PySem.Spec PyProof.Rows
section
variable {X:Cx}
theorem rh (bs:List Bool):((List.range bs.length).all fun i=>(bs[i]?).getD true)=bs.all id:=by
 rw[Bool.eq_iff_iff,List.all_eq_true,List.all_eq_true]
 constructor
 ·intro h b hb
  obtain⟨i,hi,rfl⟩:=List.mem_iff_getElem.mp hb
  have z:=h i (List.mem_range.mpr hi)
  rw[List.getElem?_eq_getElem hi] at z
  exact z
 ·intro h i hi
  have hi:=List.mem_range.mp hi
  rw[List.getElem?_eq_getElem hi]
  exact h _ (List.getElem_mem hi)
theorem qc (hc:X.calm=true):eO X (.builtin "all") (fun xs H Q=>∃ (p:Addr) (bs:List Bool),xs=[.ref p]∧H p=some (.lst (bs.map V.bl))∧Q (.bl (bs.all id)) H):=by
 intro pins s σ H xs us Q I r h
 obtain⟨p,bs,rfl,hp,q⟩:=h
 obtain⟨u,rfl,ru⟩:=r.one
 cases ru
 obtain⟨z,its,n,rv,hlen,e⟩:=I.pG hp
 have hl:s.heap.IsList p its.toArray:=⟨_,e,rfl,n,rfl⟩
 have hlt:p<s.heap.objs.size:=Heap.lt_size e
 have hbl:bs.length=its.length:=by rw[← hlen,List.length_map]
 refine call_all_walk (wpAny_pyIter_list hl ⟨s.heap.objs.size,[s.heap.objs.size,p],[s.heap.objs.size],its.toArray.size,_,_,fun i=>(bs[i]?).getD true,rfl,Walks.list (A:=X.A.in1) (I.ok.hd hc) _ p (Nat.ne_of_lt hlt) its.toArray,
  ⟨⟨_,Heap.get?_push_size _ rfl,rfl,rfl⟩,hl.push _⟩,fun i v s' Q' E' hP hQ=>?_,fun h' tk hk=>?_⟩)
 ·have hP:its[i]?=some v:=by simpa using hP
  have hi:i<bs.length:=by rw[hbl];exact(List.getElem?_eq_some_iff.mp hP).1
  have eb:(bs.map V.bl)[i]?=some (.bl bs[i]):=by rw[List.getElem?_map,List.getElem?_eq_getElem hi];rfl
  obtain⟨u,e1,r1⟩:=rv.get eb
  rw[hP] at e1
  obtain rfl:=Option.some.inj e1
  cases r1
  dsimp only at hQ
  rw[List.getElem?_eq_getElem hi] at hQ
  exact wpAny_truthy_bool hQ
 ·have e2:((List.range its.toArray.size).all fun i=>(bs[i]?).getD true)=bs.all id:=by rw[List.size_toArray,← hbl];exact rh bs
  rw[e2]
  exact⟨.bl _,H,I.kept (t':=tk) fun b o eb=>hk b o (fun hm=>by rw[List.mem_singleton.mp hm] at eb;exact Nat.lt_irrefl _ (Heap.lt_size eb)) (Heap.get?_push_of_some _ eb),rfl,q⟩
end
end L2

namespace Mir
open PySem L2
noncomputable def sgl (fs:List Int)(L:List Nat)(p:Int×Int):List Bool:=(L.filter fun g=>decide (ow fs g=p)).flatMap fun g=>[decide (fs.getD g 0<0),decide (fs.getD (g+1) 0<0)]
theorem lN (fs:List Int)(L:List Nat)(g:Nat)(p:Int×Int):sgl fs (L++[g]) p=if ow fs g=p then sgl fs L p++[decide (fs.getD g 0<0),decide (fs.getD (g+1) 0<0)] else sgl fs L p:=by
 unfold sgl
 rw[List.filter_append,List.flatMap_append,List.filter_cons,List.filter_nil]
 by_cases c:ow fs g=p
 ·rw[if_pos (decide_eq_true c),if_pos c];rfl
 ·rw[if_neg (by rw[decide_eq_false c];decide),if_neg c];simp
theorem yH (fs:List Int)(L:List Nat)(p:Int×Int):(sgl fs L p).length≤2*L.length:=by
 refine gh (P:=fun L=>(sgl fs L p).length≤2*L.length) (Nat.le_refl _) (fun L g ih=>?_) L
 rw[lN,List.length_append]
 split
 ·rw[List.length_append];show _+2≤2*(_+1);omega
 ·show _≤2*(_+1);omega
theorem AR {fs:List Int}{L:List Nat}{p:Int×Int}(h:sgl fs L p≠[]):∃ g∈L,ow fs g=p:=by
 refine Classical.byContradiction fun c=>h ?_
 unfold sgl
 have e:L.filter (fun g=>decide (ow fs g=p))=[]:=List.filter_eq_nil_iff.mpr fun g hg z=>c ⟨g,hg,of_decide_eq_true z⟩
 rw[e]
 rfl
noncomputable def opn (fs:List Int)(m:Nat):List Nat:=(List.range m).filter (isOpen fs)
theorem yI (fs:List Int)(m:Nat):(opn fs m).length≤m:=by
 unfold opn
 exact Nat.le_trans (List.length_filter_le _ _) (by rw[List.length_range];exact Nat.le_refl _)
theorem yJ {fs:List Int}{m g:Nat}(h:g∈opn fs m):g<m:=List.mem_range.mp (List.mem_filter.mp h).1
theorem uB (fs:List Int)(m:Nat):jq fs m=(opn fs m).map fun (g:Nat)=>(g:Int):=rfl
noncomputable def rj (fs:List Int)(L:List Nat)(p:Int×Int):Bool:=decide (sgl fs L p≠[])&&decide (yG.cnt (sgl fs L p)=1)
noncomputable def di (fs:List Int)(L:List Nat):List (Int×Int):=(b4 fs).filter (rj fs L)
theorem sU {bs:List Bool}(h:bs≠[]):(bs.all id || !bs.any id)=decide (yG.cnt bs=1):=by
 have e1:bs.all id=!bs.any (· == false):=by
  rw[Bool.eq_iff_iff,List.all_eq_true,Bool.not_eq_true',← Bool.not_eq_true,List.any_eq_true]
  constructor
  ·rintro h ⟨x,hx,e⟩
   have:=h x hx
   cases x <;> simp_all
  ·intro h x hx
   cases x
   ·exact absurd ⟨false,hx,rfl⟩ h
   ·rfl
 have e2:bs.any id=bs.any (· == true):=by
  congr 1
  funext b
  cases b <;> rfl
 have e3:bs.any (· == true)=true∨bs.any (· == false)=true:=by
  cases bs with
  | nil=>exact absurd rfl h
  | cons b r =>
   cases b
   ·right;rfl
   ·left;rfl
 unfold yG.cnt
 rw[e1,e2]
 revert e3
 generalize bs.any (· == true)=x
 generalize bs.any (· == false)=y
 cases x <;> cases y <;> simp
noncomputable def kp (p:Int×Int):List Key:=[Sum.inl p.1,Sum.inl p.2]
theorem wK {p q:Int×Int}(h:kp p=kp q):p=q:=by
 unfold kp at h
 injection h with h1 h2
 injection h2 with h2
 injection h1 with h1
 injection h2 with h2
 obtain⟨a,b⟩:=p
 obtain⟨c,d⟩:=q
 dsimp only at h1 h2
 rw[h1,h2]
structure KD (H0 H:Hp) (d:Addr) (kvs:List (List Key×V)) (ps:List (Int×Int)) (as:List Addr) (F:Int×Int→List Bool):Prop where
 at':H d=some (.dT kvs)
 ks:kvs.map Prod.fst=ps.map kp
 vs:kvs.map Prod.snd=as.map V.ref
 np:ps.Nodup
 nd:as.Nodup
 lst:∀ (j:Nat) (a:Addr) (p:Int×Int),as[j]?=some a→ps[j]?=some p→H a=some (.lst ((F p).map V.bl))
 new:∀ a∈as,H0 a=none
 mem:∀ p,p∈ps↔F p≠[]
section
variable {H0 H H':Hp}{d:Addr}{kvs:List (List Key×V)}{ps:List (Int×Int)}{as:List Addr}{F F':Int×Int→List Bool}
theorem KD.len (h:KD H0 H d kvs ps as F):kvs.length=ps.length∧as.length=ps.length:=by
 have h1:=congrArg List.length h.ks
 have h2:=congrArg List.length h.vs
 rw[List.length_map,List.length_map] at h1 h2
 exact⟨h1,by omega⟩
theorem KD.same (h:KD H0 H d kvs ps as F)(s:aq H H'):KD H0 H' d kvs ps as F:=⟨s _ _ h.at',h.ks,h.vs,h.np,h.nd,fun j a p h1 h2=>s _ _ (h.lst j a p h1 h2),h.new,h.mem⟩
theorem KD.key (h:KD H0 H d kvs ps as F){j:Nat}{a:Addr}{p:Int×Int}(h1:as[j]?=some a)(h2:ps[j]?=some p):kvs[j]?=some (kp p,V.ref a):=by
 have k1:=congrArg (·[j]?) h.ks
 have k2:=congrArg (·[j]?) h.vs
 simp only[List.getElem?_map,h1,h2,Option.map_some] at k1 k2
 obtain⟨q,e1,e2⟩:=Option.map_eq_some_iff.mp k1
 obtain⟨q',e3,e4⟩:=Option.map_eq_some_iff.mp k2
 rw[e1] at e3
 cases e3
 rw[e1,← e2,← e4]
theorem KD.nk (h:KD H0 H d kvs ps as F):(kvs.map Prod.fst).Nodup:=by
 rw[h.ks]
 exact List.pairwise_map.mpr (List.Pairwise.imp (fun z e=>z (wK e)) h.np)
theorem KD.old (h:KD H0 H d kvs ps as F){p:Int×Int}{xs:List Bool}{v:V}(hv:bj kvs (kp p)=some v)(hF:F' p=F p++xs)(hq:∀ q,q≠p→F' q=F q) :
  ∃ a,v=.ref a∧H a=some (.lst ((F p).map V.bl))∧H0 a=none∧KD H0 (upd H a (.lst ((F p).map V.bl++xs.map V.bl))) d kvs ps as F':=by
 have hm:=og hv
 have hm:kp p∈kvs.map Prod.fst:=hm
 rw[h.ks] at hm
 obtain⟨p',hp',ep⟩:=List.mem_map.mp hm
 obtain rfl:=wK ep
 obtain⟨j,hj⟩:=List.getElem?_of_mem hp'
 have hl:=h.len
 have hj2:j<as.length:=by rw[hl.2];exact(List.getElem?_eq_some_iff.mp hj).1
 have ha:as[j]?=some as[j]:=List.getElem?_eq_getElem hj2
 have z:=oI h.nk (h.key ha hj)
 rw[hv] at z
 obtain rfl:=Option.some.inj z
 have hL:=h.lst j _ _ ha hj
 refine⟨as[j],rfl,hL,h.new _ (List.getElem_mem hj2),?_⟩
 have hd:d≠as[j]:=fun z=>by have:=h.at';rw[z,hL] at this;cases this
 refine⟨by rw[ao hd];exact h.at',h.ks,h.vs,h.np,h.nd,fun i a q h1 h2=>?_,h.new,fun q=>?_⟩
 ·by_cases c:i=j
  ·subst c
   rw[hj] at h2
   cases h2
   rw[ha] at h1
   cases h1
   rw[ae,hF,List.map_append]
  ·have na:a≠as[j]:=fun z=>c ((List.getElem?_inj (List.getElem?_eq_some_iff.mp h1).1 h.nd).mp (by rw[h1,ha,z]))
   have nq:q≠p':=fun z=>c ((List.getElem?_inj (List.getElem?_eq_some_iff.mp h2).1 h.np).mp (by rw[h2,hj,z]))
   rw[ao na,hq q nq]
   exact h.lst i a q h1 h2
 ·rw[h.mem]
  by_cases c:q=p'
  ·subst c
   rw[hF]
   have:=(h.mem q).mp hp'
   exact⟨fun z e=>z (List.append_eq_nil_iff.mp e).1,fun _=>this⟩
  ·rw[hq q c]
theorem KD.fresh (h:KD H0 H d kvs ps as F){p:Int×Int}{xs:List Bool}{n:Addr}(hv:bj kvs (kp p)=none)(hn:H n=some (.lst []))(hn0:H0 n=none)(hna:n ∉ as)(hF0:F p=[])(hF:F' p=xs)(hx:xs≠[])(hq:∀ q,q≠p→F' q=F q) :
  KD H0 (upd (upd H d (.dT (putK kvs (kp p) (.ref n)))) n (.lst ([]++xs.map V.bl))) d (putK kvs (kp p) (.ref n)) (ps++[p]) (as++[n]) F':=by
 have hd:d≠n:=fun z=>by have:=h.at';rw[z,hn] at this;cases this
 have hl:=h.len
 have np:p ∉ ps:=fun z=>(h.mem p).mp z hF0
 refine⟨by rw[ao hd,ae],?_,?_,?_,?_,fun j a q h1 h2=>?_,fun a ha=>?_,fun q=>?_⟩
 ·rw[gR _ hv,List.map_append,h.ks,List.map_append];rfl
 ·rw[gR _ hv,List.map_append,h.vs,List.map_append];rfl
 ·rw[List.nodup_append]
  exact⟨h.np,by simp,fun a ha b hb e=>np (by rw[← List.mem_singleton.mp hb,← e];exact ha)⟩
 ·rw[List.nodup_append]
  exact⟨h.nd,by simp,fun a ha b hb e=>hna (by rw[← List.mem_singleton.mp hb,← e];exact ha)⟩
 ·by_cases c:j<as.length
  ·rw[List.getElem?_append_left c] at h1
   rw[List.getElem?_append_left (by omega)] at h2
   have na:a≠n:=fun z=>hna (z ▸ List.mem_of_getElem? h1)
   have nq:q≠p:=fun z=>np (z ▸ List.mem_of_getElem? h2)
   have h3:=h.lst j a q h1 h2
   have nd:a≠d:=fun z=>by have:=h.at';rw[← z,h3] at this;cases this
   rw[ao na,ao nd,hq q nq]
   exact h3
  ·rw[List.getElem?_append_right (by omega)] at h1 h2
   have ej:j-as.length=0:=by
    have:=(List.getElem?_eq_some_iff.mp h1).1
    simp at this
    omega
   have ej2:j-ps.length=0:=by omega
   rw[ej] at h1
   rw[ej2] at h2
   cases h1
   cases h2
   rw[ae,hF]
   rfl
 ·rcases List.mem_append.mp ha with ha | ha
  ·exact h.new a ha
  ·rw[List.mem_singleton.mp ha];exact hn0
 ·rw[List.mem_append,h.mem,List.mem_singleton]
  by_cases c:q=p
  ·subst c
   rw[hF]
   exact⟨fun _=>hx,fun _=>.inr rfl⟩
  ·rw[hq q c]
   exact⟨fun z=>z.resolve_right c,.inl⟩
end
noncomputable def kZ:Sp:=fun vs H Q _=>∃ (t:Addr) (rs:List Int),vs=[.ref t]∧H t=some (.tup (iV rs))∧Fit rs∧∀ (l:Addr) (H':Hp),H l=none→aq H H'→TsT pr H' l (di (frm rs) (opn (frm rs) (rs.length+1)))→Q (.ref l) H'
end Mir

namespace Mir
open PySem L2 NK
noncomputable abbrev Nd:=List Itm
noncomputable abbrev Web:=List (Nd×List Nd)
noncomputable def pN (p:Int×Int):Nd:=[.inl (.inl p.1),.inl (.inl p.2)]
noncomputable def qI (p:Int×Int):Itm:=.inr [.inl p.1,.inl p.2]
noncomputable def cN (c:List (Int×Int)):Nd:=c.map qI
theorem eJ {p q:Int×Int}(h:pN p=pN q):p=q:=by
 unfold pN at h
 injection h with h1 h2
 injection h2 with h2 _
 injection h1 with h1
 injection h1 with h1
 injection h2 with h2
 injection h2 with h2
 exact Prod.ext h1 h2
theorem wL {p q:Int×Int}(h:qI p=qI q):p=q:=by
 unfold qI at h
 injection h with h
 injection h with h1 h2
 injection h2 with h2 _
 injection h1 with h1
 injection h2 with h2
 exact Prod.ext h1 h2
theorem oJ {c d:List (Int×Int)}(h:cN c=cN d):c=d:=(List.map_inj_right fun _ _ e=>wL e).mp h
theorem iL {p:Int×Int}{c:List (Int×Int)}:pN p≠cN c:=fun h=>by
 cases c with
 | nil=>cases h
 | cons q r =>
  injection h with h1 _
  cases h1
noncomputable def az (W:Web):List Nd:=W.map (·.1)
noncomputable def lkW (W:Web)(k:Nd):List Nd:=((W.find? fun t=>decide (t.1=k)).map (·.2)).getD []
structure WOk (W:Web):Prop where
 nd:(az W).Nodup
 nl:∀ t∈W,t.2.Nodup
 sym:∀ t∈W,∀ l∈t.2,∃ u∈W,u.1=l∧t.1∈u.2
 irr:∀ t∈W,t.1 ∉ t.2
section
variable {W:Web}{t u:Nd×List Nd}{k:Nd}
theorem WOk.uniq (O:WOk W)(ht:t∈W)(hu:u∈W)(e:t.1=u.1):t=u:=by
 obtain⟨i,hi,rfl⟩:=List.getElem_of_mem ht
 obtain⟨j,hj,rfl⟩:=List.getElem_of_mem hu
 have nd:=O.nd
 unfold az at nd
 have z:(W.map (·.1))[i]'(by rw[List.length_map];exact hi)=(W.map (·.1))[j]'(by rw[List.length_map];exact hj):=by rw[List.getElem_map,List.getElem_map];exact e
 have:=(List.getElem_inj nd).mp z
 subst this
 rfl
theorem WOk.lk (O:WOk W)(ht:t∈W):lkW W t.1=t.2:=by
 unfold lkW
 cases e:W.find? fun u=>decide (u.1=t.1) with
 | none=>exact absurd (List.find?_eq_none.mp e t ht) (by simp)
 | some u =>
  have h1:=List.mem_of_find?_eq_some e
  have h2:u.1=t.1:=of_decide_eq_true (List.find?_some (p:=fun u:Nd×List Nd=>decide (u.1=t.1)) e)
  rw[O.uniq h1 ht h2]
  rfl
theorem mem_keys:k∈az W↔∃ t∈W,t.1=k:=by unfold az;rw[List.mem_map]
theorem cP (h:k ∉ az W):lkW W k=[]:=by
 unfold lkW
 cases e:W.find? fun u=>decide (u.1=k) with
 | none=>rfl
 | some u=>exact absurd (mem_keys.mpr ⟨u,List.mem_of_find?_eq_some e,of_decide_eq_true (List.find?_some (p:=fun u:Nd×List Nd=>decide (u.1=k)) e)⟩) h
theorem WOk.lkk (O:WOk W){a b:Nd}(h:b∈lkW W a):a∈lkW W b∧b∈az W∧a∈az W:=by
 by_cases c:a∈az W
 ·obtain⟨t,ht,rfl⟩:=mem_keys.mp c
  rw[O.lk ht] at h
  obtain⟨u,hu,e,h2⟩:=O.sym t ht b h
  subst e
  rw[O.lk hu]
  exact⟨h2,mem_keys.mpr ⟨u,hu,rfl⟩,c⟩
 ·rw[cP c] at h
  exact absurd h List.not_mem_nil
theorem WOk.zA (O:WOk W)(a:Nd):(lkW W a).Nodup:=by
 by_cases c:a∈az W
 ·obtain⟨t,ht,rfl⟩:=mem_keys.mp c
  rw[O.lk ht]
  exact O.nl t ht
 ·rw[cP c]
  exact List.nodup_nil
theorem WOk.rm (O:WOk W)(a:Nd):a ∉ lkW W a:=fun h=>by
 obtain⟨t,ht,rfl⟩:=mem_keys.mp (O.lkk h).2.2
 rw[O.lk ht] at h
 exact O.irr t ht h
noncomputable def dj (W:Web)(k:Nd):Web:=(W.filter fun t=>decide (t.1≠k)).map fun t=>(t.1,t.2.filter fun l=>decide (l≠k))
theorem jx:u∈dj W k↔∃ t∈W,t.1≠k∧u=(t.1,t.2.filter fun l=>decide (l≠k)):=by
 unfold dj
 rw[List.mem_map]
 constructor
 ·rintro⟨t,h,rfl⟩
  obtain⟨h1,h2⟩:=List.mem_filter.mp h
  exact⟨t,h1,of_decide_eq_true h2,rfl⟩
 ·rintro⟨t,h1,h2,rfl⟩
  exact⟨t,List.mem_filter.mpr ⟨h1,decide_eq_true h2⟩,rfl⟩
theorem gp:az (dj W k)=(az W).filter fun l=>decide (l≠k):=by
 unfold az dj
 rw[List.map_map,List.filter_map]
 rfl
theorem WOk.cut (O:WOk W):WOk (dj W k):=by
 refine⟨by rw[gp];exact O.nd.sublist List.filter_sublist,fun u hu=>?_,fun u hu l hl=>?_,fun u hu hl=>?_⟩
 ·obtain⟨t,ht,_,rfl⟩:=jx.mp hu
  exact(O.nl t ht).sublist List.filter_sublist
 ·obtain⟨t,ht,hk,rfl⟩:=jx.mp hu
  obtain⟨h1,h2⟩:=List.mem_filter.mp hl
  have h2:=of_decide_eq_true h2
  obtain⟨v,hv,e,h3⟩:=O.sym t ht l h1
  exact⟨_,jx.mpr ⟨v,hv,by rw[e];exact h2,rfl⟩,e,List.mem_filter.mpr ⟨h3,decide_eq_true hk⟩⟩
 ·obtain⟨t,ht,_,rfl⟩:=jx.mp hu
  exact O.irr t ht (List.mem_filter.mp hl).1
theorem yK:(dj W k).length≤W.length:=by
 unfold dj
 rw[List.length_map]
 exact List.length_filter_le _ _
theorem AS (h:k∈az W):(dj W k).length<W.length:=by
 obtain⟨t,ht,rfl⟩:=mem_keys.mp h
 unfold dj
 rw[List.length_map]
 refine List.length_filter_lt_length_iff_exists.mpr ⟨t,ht,by simp⟩
noncomputable def aH (W:Web)(ks:List (Int×Int)):List Nd:=(W.filter fun t=>decide (t.2.length≤1) && !decide (t.1∈ks.map pN)).map (·.1)
noncomputable def kE (W:Web)(ks:List (Int×Int)):Web:=(aH W ks).foldl dj W
theorem jy:∀ (l:List Nd) (W:Web),(l.foldl dj W).length≤W.length
 | [],_=>Nat.le_refl _
 | k::r,W=>Nat.le_trans (jy r (dj W k)) yK
theorem nj {ks:List (Int×Int)}(h:k∈aH W ks):k∈az W:=by
 unfold aH at h
 obtain⟨t,ht,rfl⟩:=List.mem_map.mp h
 exact mem_keys.mpr ⟨t,(List.mem_filter.mp ht).1,rfl⟩
theorem k4 {ks:List (Int×Int)}(h:aH W ks≠[]):(kE W ks).length<W.length:=by
 unfold kE
 cases e:aH W ks with
 | nil=>exact absurd e h
 | cons k r=>exact Nat.lt_of_le_of_lt (jy r (dj W k)) (AS (nj (ks:=ks) (by rw[e];exact List.mem_cons_self)))
noncomputable def dY:Nat→Web→List (Int×Int)→Web
 | 0,W,_=>W
 | n+1,W,ks=>if aH W ks=[] then W else dY n (kE W ks) ks
theorem nr {ks:List (Int×Int)}:∀ (n m:Nat) (W:Web),W.length≤n→W.length≤m→dY n W ks=dY m W ks
 | 0,0,W,_,_=>rfl
 | 0,m+1,W,h1,h2=>by
  have e:W=[]:=List.length_eq_zero_iff.mp (by omega)
  subst e
  show _=if aH [] ks=[] then [] else _
  rw[if_pos (show aH [] ks=[] from rfl)]
  rfl
 | n+1,0,W,h1,h2=>by
  have e:W=[]:=List.length_eq_zero_iff.mp (by omega)
  subst e
  show (if aH [] ks=[] then [] else _)=_
  rw[if_pos (show aH [] ks=[] from rfl)]
  rfl
 | n+1,m+1,W,h1,h2=>by
  show (if aH W ks=[] then W else dY n (kE W ks) ks)=if aH W ks=[] then W else dY m (kE W ks) ks
  by_cases c:aH W ks=[]
  ·rw[if_pos c,if_pos c]
  ·rw[if_neg c,if_neg c]
   have:=k4 c
   exact nr n m _ (by omega) (by omega)
noncomputable def hU (W:Web)(ks:List (Int×Int)):Web:=dY W.length W ks
theorem uC {ks:List (Int×Int)}(h:aH W ks=[]):hU W ks=W:=by
 unfold hU
 cases e:W.length with
 | zero=>rfl
 | succ n =>
  show (if aH W ks=[] then W else _)=W
  rw[if_pos h]
theorem uD {ks:List (Int×Int)}(h:aH W ks≠[]):hU W ks=hU (kE W ks) ks:=by
 have lt:=k4 h
 unfold hU
 cases e:W.length with
 | zero=>omega
 | succ n =>
  show (if aH W ks=[] then W else dY n (kE W ks) ks)=_
  rw[if_neg h]
  exact nr n _ _ (by omega) (Nat.le_refl _)
theorem WOk.fold:∀ (l:List Nd) {W:Web},WOk W→WOk (l.foldl dj W)
 | [],_,O=>O
 | _::r,_,O=>WOk.fold r O.cut
theorem WOk.dY {ks:List (Int×Int)}:∀ (n:Nat) {W:Web},WOk W→WOk (dY n W ks)
 | 0,_,O=>O
 | n+1,W,O=>by
  show WOk (if aH W ks=[] then W else _)
  split
  ·exact O
  ·exact WOk.dY n (O.fold _)
theorem kG {ks:List (Int×Int)}:∀ (n:Nat) (W:Web),W.length≤n→aH (Mir.dY n W ks) ks=[]
 | 0,W,h=>by
  have e:W=[]:=List.length_eq_zero_iff.mp (by omega)
  subst e
  rfl
 | n+1,W,h=>by
  show aH (if aH W ks=[] then W else _) ks=[]
  by_cases c:aH W ks=[]
  ·rw[if_pos c];exact c
  ·rw[if_neg c]
   have:=k4 c
   exact kG n _ (by omega)
theorem fold_keeps : ∀ (l : List Nd) (W : Web), k ∈ az W → k ∉ l → k ∈ az (l.foldl dj W)
  | [], _, h, _ => h
  | x::r, W, h, n => fold_keeps r (dj W x) (by
      rw[gp]
      exact List.mem_filter.mpr ⟨h, decide_eq_true fun z => n (by rw[z]; exact List.mem_cons_self)⟩) fun z => n (List.mem_cons_of_mem _ z)
noncomputable def qd (W:Web):Nat→Nd→List Nd→List Nd→List Nd
 | 0,_,_,acc=>acc
 | n+1,p,on,acc=>match on with
  | []=>acc
  | t::_=>if (lkW W t).length≤2 then qd W n t ((lkW W t).filter fun l=>decide (l≠p)) (acc++[t]) else acc
noncomputable def dB (W:Web)(e:Nd):List Nd:=qd W W.length e (lkW W e) [e]
structure Path (W:Web) (vs:List Nd):Prop where
 nd:vs.Nodup
 key:∀ v∈vs,v∈az W
 adj:∀ (i:Nat) (a b:Nd),vs[i]?=some a→vs[i+1]?=some b→b∈lkW W a
 deg:∀ v∈vs,(lkW W v).length≤2
 d0:∀ a,vs[0]?=some a→(lkW W a).length≤1
theorem fb:∀ {xs ys:List Nd},xs.Nodup→(∀ x∈xs,x∈ys)→xs.length≤ys.length
 | [],ys,_,_=>Nat.zero_le _
 | x::r,ys,h,s=>by
  rw[List.nodup_cons] at h
  have hx:=s x List.mem_cons_self
  have h1:=fb (xs:=r) (ys:=ys.filter fun y=>decide (y≠x)) h.2 fun y hy=>by
   have ne:y≠x:=fun z=>h.1 (z ▸ hy)
   exact List.mem_filter.mpr ⟨s y (List.mem_cons_of_mem _ hy),decide_eq_true ne⟩
  have h2:(ys.filter fun y=>decide (y≠x)).length<ys.length:=List.length_filter_lt_length_iff_exists.mpr ⟨x,hx,by simp⟩
  show r.length+1≤ys.length
  omega
theorem Path.len (P:Path W vs):vs.length≤W.length:=by
 have:=fb P.nd P.key
 unfold az at this
 rwa[List.length_map] at this
theorem yL {a b:Nd}{l:List Nd}(ha:a∈l)(hb:b∈l)(h:l.length≤1):a=b:=by
 match l,h with
 | [x],_=>rw[List.mem_singleton.mp ha,List.mem_singleton.mp hb]
 | [],_=>exact absurd ha List.not_mem_nil
theorem rq {a b c:Nd}{l:List Nd}(ha:a∈l)(hb:b∈l)(hc:c∈l)(h:l.length≤2)(n1:a≠b)(n2:a≠c)(n3:b≠c):False:=by
 have:=fb (xs:=[a,b,c]) (ys:=l) (by simp[n1,n2,n3]) (fun x hx=>by
  rcases List.mem_cons.mp hx with rfl | hx
  ·exact ha
  ·rcases List.mem_cons.mp hx with rfl | hx
   ·exact hb
   ·cases List.mem_singleton.mp hx;exact hc)
 have:3≤l.length:=this
 omega
theorem Path.snoc (O:WOk W){vs:List Nd}(P:Path W vs){p x:Nd}(hp:vs.getLast?=some p)(hx:x∈lkW W p)(hq:∀ q,2≤vs.length→vs[vs.length-2]?=some q→x≠q)(hd:(lkW W x).length≤2):Path W (vs++[x]):=by
 obtain⟨ys,rfl⟩:=List.getLast?_eq_some_iff.mp hp
 have el:(ys++[p]).length=ys.length+1:=by rw[List.length_append];rfl
 have ep:(ys++[p])[ys.length]?=some p:=by rw[List.getElem?_append_right (Nat.le_refl _),Nat.sub_self];rfl
 have sy:=O.lkk hx
 have inj:∀ {i j:Nat} {a:Nd},(ys++[p])[i]?=some a→(ys++[p])[j]?=some a→i=j:=fun {i j a} h1 h2=>(List.getElem?_inj (List.getElem?_eq_some_iff.mp h1).1 P.nd).mp (h1.trans h2.symm)
 have new:x ∉ ys++[p]:=fun hm=>by
  obtain⟨i,hi,e⟩:=List.getElem_of_mem hm
  have ei:(ys++[p])[i]?=some x:=by rw[List.getElem?_eq_getElem hi,e]
  rw[el] at hi
  by_cases c1:i=ys.length
  ·subst c1
   cases ep.symm.trans ei
   exact O.rm p hx
  ·by_cases c2:i+1=ys.length
   ·refine hq x (by omega) ?_ rfl
    rw[el,show ys.length+1-2=i by omega]
    exact ei
   ·have en:=List.getElem?_eq_getElem (l:=ys++[p]) (i:=i+1) (by rw[el];omega)
    have hn:=P.adj i _ _ ei en
    by_cases c0:i=0
    ·subst c0
     have:=yL hn sy.1 (P.d0 _ ei)
     rw[this] at en
     have:=inj en ep
     omega
    ·have eb:=List.getElem?_eq_getElem (l:=ys++[p]) (i:=i-1) (by rw[el];omega)
     have hb:=P.adj (i-1) _ _ eb (by rw[show i-1+1=i by omega];exact ei)
     have hb2:=(O.lkk hb).1
     refine rq hb2 hn sy.1 (P.deg x hm) (fun z=>?_) (fun z=>?_) (fun z=>?_)
     ·rw[z] at eb;have:=inj eb en;omega
     ·rw[z] at eb;have:=inj eb ep;omega
     ·rw[z] at en;have:=inj en ep;omega
 refine⟨?_,fun v hv=>?_,fun i a b h1 h2=>?_,fun v hv=>?_,fun a h=>?_⟩
 ·rw[List.nodup_append]
  exact⟨P.nd,by simp,fun a ha b hb z=>new (by rw[List.mem_singleton.mp hb] at z;rwa[← z])⟩
 ·rcases List.mem_append.mp hv with hv | hv
  ·exact P.key v hv
  ·rw[List.mem_singleton.mp hv];exact sy.2.1
 ·by_cases c:i+1<(ys++[p]).length
  ·rw[List.getElem?_append_left (by omega)] at h1
   rw[List.getElem?_append_left c] at h2
   exact P.adj i a b h1 h2
  ·have hi:=(List.getElem?_eq_some_iff.mp h2).1
   rw[List.length_append,List.length_singleton] at hi
   have e1:i=ys.length:=by omega
   subst e1
   rw[List.getElem?_append_left (by omega),ep] at h1
   rw[List.getElem?_append_right (by omega),el,Nat.sub_self] at h2
   cases h1
   cases h2
   exact hx
 ·rcases List.mem_append.mp hv with hv | hv
  ·exact P.deg v hv
  ·rw[List.mem_singleton.mp hv];exact hd
 ·rw[List.getElem?_append_left (by omega)] at h
  exact P.d0 a h
end
end Mir

namespace Mir
open PySem L2 NK
noncomputable def chn (kins:List (Int×Int))(g:List Int):List (Int×Int):=g.map fun i=>kins.getD i.toNat (0,0)
noncomputable def eU (c:List (Int×Int))(k:Int×Int):Bool:=decide (k.1<(c.headD (0,0)).1)&&decide ((c.getLastD (0,0)).2<k.2)
noncomputable def dz (kins c:List (Int×Int)):List (Int×Int):=kins.filter (eU c)
noncomputable def dA (kins c:List (Int×Int)):List (Int×Int):=(dz kins c).drop ((dz kins c).length-1)
noncomputable def lnk (kins c:List (Int×Int)):List (Int×Int):=c++dA kins c
noncomputable def dZ (kins:List (Int×Int))(cs:List (List (Int×Int))):Web:=kins.map (fun k=>(pN k,(cs.filter fun c=>decide (k∈lnk kins c)).map cN))++cs.map fun c=>(cN c,(lnk kins c).map pN)
structure KOk (kins:List (Int×Int)) (cs:List (List (Int×Int))):Prop where
 knd:kins.Nodup
 cnd:cs.Nodup
 sub:∀ c∈cs,∀ k∈lnk kins c,k∈kins
 lnd:∀ c∈cs,(lnk kins c).Nodup
theorem gq {α β:Type}{f:α→β}{l:List α}(h:l.Nodup)(inj:∀ a b,f a=f b→a=b):(l.map f).Nodup:=by
 unfold List.Nodup at h ⊢
 rw[List.pairwise_map]
 exact h.imp fun n e=>n (inj _ _ e)
theorem gu (kins:List (Int×Int))(cs:List (List (Int×Int))):az (dZ kins cs)=kins.map pN++cs.map cN:=by
 unfold az dZ
 rw[List.map_append,List.map_map,List.map_map]
 rfl
theorem gE {kins:List (Int×Int)}{cs:List (List (Int×Int))}(K:KOk kins cs):WOk (dZ kins cs):=by
 have hm:∀ {t:Nd×List Nd},t∈dZ kins cs→(∃ k∈kins,t=(pN k,(cs.filter fun c=>decide (k∈lnk kins c)).map cN))∨∃ c∈cs,t=(cN c,(lnk kins c).map pN):=fun {t} h=>by
  rcases List.mem_append.mp h with h | h
  ·obtain⟨k,hk,rfl⟩:=List.mem_map.mp h
   exact .inl ⟨k,hk,rfl⟩
  ·obtain⟨c,hc,rfl⟩:=List.mem_map.mp h
   exact .inr ⟨c,hc,rfl⟩
 refine⟨?_,fun t ht=>?_,fun t ht l hl=>?_,fun t ht hl=>?_⟩
 ·rw[gu,List.nodup_append]
  refine⟨gq K.knd fun _ _=>eJ,gq K.cnd fun _ _=>oJ,fun a ha b hb e=>?_⟩
  obtain⟨k,_,rfl⟩:=List.mem_map.mp ha
  obtain⟨c,_,rfl⟩:=List.mem_map.mp hb
  exact iL e
 ·rcases hm ht with ⟨k,hk,rfl⟩ | ⟨c,hc,rfl⟩
  ·exact gq (K.cnd.sublist List.filter_sublist) fun _ _=>oJ
  ·exact gq (K.lnd c hc) fun _ _=>eJ
 ·rcases hm ht with ⟨k,hk,rfl⟩ | ⟨c,hc,rfl⟩
  ·obtain⟨c,hc,rfl⟩:=List.mem_map.mp hl
   obtain⟨h1,h2⟩:=List.mem_filter.mp hc
   exact⟨_,List.mem_append_right _ (List.mem_map.mpr ⟨c,h1,rfl⟩),rfl,List.mem_map.mpr ⟨k,of_decide_eq_true h2,rfl⟩⟩
  ·obtain⟨k,hk,rfl⟩:=List.mem_map.mp hl
   exact⟨_,List.mem_append_left _ (List.mem_map.mpr ⟨k,K.sub c hc k hk,rfl⟩),rfl,List.mem_map.mpr ⟨c,List.mem_filter.mpr ⟨hc,decide_eq_true hk⟩,rfl⟩⟩
 ·rcases hm ht with ⟨k,hk,rfl⟩ | ⟨c,hc,rfl⟩
  ·obtain⟨c,_,e⟩:=List.mem_map.mp hl
   exact iL e.symm
  ·obtain⟨k,_,e⟩:=List.mem_map.mp hl
   exact iL e
theorem wM (c:Nat→Int):∀ n,∀ e∈grp c n,e.2.Pairwise (· < ·)
 | 0,e,h=>nomatch h
 | n+1,e,h=>by
  have ih:=wM c n
  have ok:=gD c n
  have h:e∈eT (grp c n) (c n) n:=h
  unfold eT at h
  split at h
  ·obtain⟨d,hd,rfl⟩:=List.mem_map.mp h
   split
   ·show (d.2++[(n:Int)]).Pairwise (· < ·)
    rw[List.pairwise_append]
    refine⟨ih d hd,List.pairwise_singleton ..,fun a ha b hb=>?_⟩
    rw[List.mem_singleton.mp hb]
    exact(ok.lt d hd a ha).2
   ·exact ih d hd
  ·rcases List.mem_append.mp h with h | h
   ·exact ih e h
   ·rw[List.mem_singleton.mp h]
    exact List.pairwise_singleton ..
noncomputable def chains (kins:List (Int×Int)):List (List (Int×Int)):=(gn kins).map (chn kins)
section
variable {kins:List (Int×Int)}
theorem sV (asc:kins.Pairwise fun p q=>p.1<q.1){i j:Nat}(hi:i<j)(hj:j<kins.length):(kins.getD i (0,0)).1<(kins.getD j (0,0)).1:=by
 rw[List.getD_eq_getElem?_getD,List.getD_eq_getElem?_getD,List.getElem?_eq_getElem (show i<kins.length by omega),List.getElem?_eq_getElem hj]
 exact List.pairwise_iff_getElem.mp asc i j (by omega) hj hi
theorem jz {g:List Int}(h:g∈gn kins):g≠[]∧(∀ x∈g,0≤x∧x<kins.length)∧g.Pairwise (· < ·)∧g.length≤kins.length:=by
 unfold gn at h
 obtain⟨e,he,rfl⟩:=List.mem_map.mp h
 have ok:=gD (fun k=>mk kins (kins.getD k (0,0)).1) kins.length
 exact⟨ok.ne e he,ok.lt e he,wM _ _ e he,ok.len e he⟩
theorem sW (asc:kins.Pairwise fun p q=>p.1<q.1){g:List Int}(h:g∈gn kins):(chn kins g).Pairwise fun p q=>p.1<q.1:=by
 obtain⟨_,h2,h3,_⟩:=jz h
 unfold chn
 rw[List.pairwise_map]
 have:g.Pairwise fun a b=>a<b∧b∈g∧a∈g:=by
  rw[List.pairwise_iff_getElem]
  intro i j hi hj hij
  exact⟨List.pairwise_iff_getElem.mp h3 i j hi hj hij,List.getElem_mem _,List.getElem_mem _⟩
 refine this.imp fun {a b} q=>?_
 have z1:=h2 a q.2.2
 have z2:=h2 b q.2.1
 have:=q.1
 exact sV asc (by omega) (by omega)
theorem sX {g:List Int}(h:g∈gn kins){k:Int×Int}(hk:k∈chn kins g):k∈kins:=by
 obtain⟨i,hi,rfl⟩:=List.mem_map.mp hk
 have:=(jz h).2.1 i hi
 rw[List.getD_eq_getElem?_getD,List.getElem?_eq_getElem (show i.toNat<kins.length by omega)]
 exact List.getElem_mem _
theorem lP {l:List (Int×Int)}(asc:l.Pairwise fun p q=>p.1<q.1):l.Nodup:=asc.imp fun h e=>by rw[e] at h;omega
theorem lQ {c:List (Int×Int)}:(dA kins c).length≤1:=by
 unfold dA
 rw[List.length_drop]
 omega
theorem ft {c:List (Int×Int)}{k:Int×Int}(h:k∈dA kins c):k∈kins∧eU c k=true:=List.mem_filter.mp (List.mem_of_mem_drop h)
theorem sY {l:List (Int×Int)}(asc:l.Pairwise fun p q=>p.1<q.1){k:Int×Int}(h:k∈l):(l.headD (0,0)).1≤k.1:=by
 cases l with
 | nil=>exact absurd h List.not_mem_nil
 | cons x r =>
  rcases List.mem_cons.mp h with rfl | h
  ·exact Int.le_refl _
  ·exact Int.le_of_lt ((List.pairwise_cons.mp asc).1 k h)
theorem iy (asc:kins.Pairwise fun p q=>p.1<q.1):KOk kins (chains kins):=by
 refine⟨lP asc,?_,fun c hc k hk=>?_,fun c hc=>?_⟩
 ·have ok:=gD (fun k=>mk kins (kins.getD k (0,0)).1) kins.length
  have p1:(gn kins).Pairwise fun a b=>a.headD 0<b.headD 0:=by
   unfold gn
   rw[List.pairwise_map]
   exact ok.asc
  unfold chains
  unfold List.Nodup
  rw[List.pairwise_map]
  have:(gn kins).Pairwise fun a b=>a.headD 0<b.headD 0∧a∈gn kins∧b∈gn kins:=by
   rw[List.pairwise_iff_getElem]
   intro i j hi hj hij
   exact⟨List.pairwise_iff_getElem.mp p1 i j hi hj hij,List.getElem_mem _,List.getElem_mem _⟩
  refine this.imp fun {a b} q e=>?_
  obtain⟨q1,q2,q3⟩:=q
  have ha:=jz q2
  have hb:=jz q3
  cases a with
  | nil=>exact ha.1 rfl
  | cons x r =>
   cases b with
   | nil=>exact hb.1 rfl
   | cons y r' =>
    have e:kins.getD x.toNat (0,0)::chn kins r=kins.getD y.toNat (0,0)::chn kins r':=e
    have e1:=(List.cons.inj e).1
    have hx:=ha.2.1 x List.mem_cons_self
    have hy:=hb.2.1 y List.mem_cons_self
    have q1:x<y:=q1
    have:=sV asc (i:=x.toNat) (j:=y.toNat) (by omega) (by omega)
    rw[e1] at this
    omega
 ·unfold chains at hc
  obtain⟨g,hg,rfl⟩:=List.mem_map.mp hc
  rcases List.mem_append.mp hk with hk | hk
  ·exact sX hg hk
  ·exact(ft hk).1
 ·unfold chains at hc
  obtain⟨g,hg,rfl⟩:=List.mem_map.mp hc
  have a2:=sW asc hg
  unfold lnk
  rw[List.nodup_append]
  refine⟨lP a2,?_,fun a ha b hb e=>?_⟩
  ·have:=lQ (kins:=kins) (c:=chn kins g)
   match dA kins (chn kins g),this with
   | [],_=>exact List.nodup_nil
   | [x],_=>simp
  ·subst e
   have h1:=(ft hb).2
   unfold eU at h1
   rw[Bool.and_eq_true,decide_eq_true_iff,decide_eq_true_iff] at h1
   have:=sY a2 ha
   omega
end
noncomputable abbrev Es:=List (Nd×Addr×Addr)
noncomputable def eV (es:Es):List NK.Ent:=es.map fun e=>(e.1,e.2.1,V.ref e.2.2)
noncomputable def RW (H:Hp)(e:Nd×Addr×Addr)(t:Nd×List Nd):Prop:=e.1=t.1∧Ths H e.2.2 t.2
structure WbT (P:Program) (w:World) (H:Hp) (a:Addr) (es:Es) (W:Web):Prop where
 d:D2 P w H a (eV es)
 r:Paired (RW H) es W
 nd:(es.map (·.2.2)).Nodup
section
variable {P:Program}{w:World}{H H':Hp}{a b l:Addr}{es:Es}{W:Web}{k:Nd}{ks:List Nd}
theorem _root_.NK.Ths.keep (h:Ths H l ks)(e:H' l=H l)(g:∀ c ys,H c=some (.tup ys)→H' c=some (.tup ys)):Ths H' l ks:=by
 obtain⟨bs,h1,h2,h3⟩:=h
 exact⟨bs,e.trans h1,h2,fun i b k e1 e2=>(h3 i b k e1 e2).keep g⟩
theorem _root_.NK.Ths.same (h:Ths H l ks)(s:aq H H'):Ths H' l ks:=by
 obtain⟨bs,h1,h2,h3⟩:=h
 exact⟨bs,s _ _ h1,h2,fun i b k e1 e2=>(h3 i b k e1 e2).keep fun c ys e=>s _ _ e⟩
theorem _root_.NK.K2.same (h:K2 H k b)(s:aq H H'):K2 H' k b:=h.keep fun c ys e=>s _ _ e
theorem WbT.same (h:WbT P w H a es W)(s:aq H H'):WbT P w H' a es W :=
 ⟨⟨s _ _ h.d.1,fun p hp=>K2.same (h.d.2 p hp) s⟩,Paired.mn h.r fun e t q=>⟨q.1,Ths.same q.2 s⟩,h.nd⟩
theorem dk (h:Paired (RW H) es W):es.map (·.1)=az W:=by
 induction h with
 | nil=>rfl
 | cons q _ ih =>
  exact congr (congrArg List.cons q.1) ih
theorem lR (nd:(es.map (·.1)).Nodup)(h:(k,b,l)∈es):iE (eV es) k=some (.ref l):=by
 induction es with
 | nil=>exact absurd h List.not_mem_nil
 | cons e r ih =>
  rw[List.map_cons,List.nodup_cons] at nd
  unfold iE eV
  rw[List.map_cons,List.find?_cons]
  by_cases c:e.1=k
  ·rw[decide_eq_true c]
   rcases List.mem_cons.mp h with rfl | h
   ·rfl
   ·exact absurd (List.mem_map.mpr ⟨(k,b,l),h,rfl⟩) (by rw[← c];exact nd.1)
  ·rw[decide_eq_false c]
   rcases List.mem_cons.mp h with rfl | h
   ·exact absurd rfl c
   ·exact ih nd.2 h
theorem rA (h:k ∉ es.map (·.1)):iE (eV es) k=none:=by
 unfold iE eV
 rw[Option.map_eq_none_iff,List.find?_eq_none]
 intro x hx
 obtain⟨e,he,rfl⟩:=List.mem_map.mp hx
 simpa using fun z=>h (List.mem_map.mpr ⟨e,he,z⟩)
theorem rB {α β:Type}{R:α→β→Prop}{xs:List α}{ys:List β}(h:Paired R xs ys){y:β}(hy:y∈ys):∃ x∈xs,R x y:=by
 induction h with
 | nil=>exact absurd hy List.not_mem_nil
 | cons q _ ih =>
  rcases List.mem_cons.mp hy with rfl | hy
  ·exact⟨_,List.mem_cons_self,q⟩
  ·obtain⟨x,hx,hr⟩:=ih hy
   exact⟨x,List.mem_cons_of_mem _ hx,hr⟩
theorem cy {α β:Type}{R:α→β→Prop}{xs:List α}{ys:List β}(h:Paired R xs ys){x:α}(hx:x∈xs):∃ y∈ys,R x y:=by
 induction h with
 | nil=>exact absurd hx List.not_mem_nil
 | cons q _ ih =>
  rcases List.mem_cons.mp hx with rfl | hx
  ·exact⟨_,List.mem_cons_self,q⟩
  ·obtain⟨y,hy,hr⟩:=ih hx
   exact⟨y,List.mem_cons_of_mem _ hy,hr⟩
theorem WbT.at (h:WbT P w H a es W)(nd:(az W).Nodup){t:Nd×List Nd}(ht:t∈W):∃ b l,(t.1,b,l)∈es∧iE (eV es) t.1=some (.ref l)∧Ths H l t.2∧K2 H t.1 b:=by
 obtain⟨e,he,q⟩:=rB h.r ht
 obtain⟨e1,e2,e3⟩:=e
 obtain⟨q1,q2⟩:=q
 cases q1
 exact⟨e2,e3,he,lR (by rw[dk h.r];exact nd) he,q2,h.d.2 _ (List.mem_map.mpr ⟨_,he,rfl⟩)⟩
theorem Paired.app {α β:Type}{R:α→β→Prop}{xs xs':List α}{ys ys':List β}(h:Paired R xs ys)(k:Paired R xs' ys'):Paired R (xs++xs') (ys++ys'):=by
 induction h with
 | nil=>exact k
 | cons q _ ih=>exact .cons q ih
theorem WbT.put (h:WbT P w H a es W)(hk:k ∉ az W)(hb:K2 H k b)(hl:Ths H l ks)(nl:l ∉ es.map (·.2.2)):WbT P w (L2.upd H a (d2O P w a (put2 (eV es) k b (.ref l)))) a (es++[(k,b,l)]) (W++[(k,ks)]):=by
 have e1:put2 (eV es) k b (.ref l)=eV (es++[(k,b,l)]):=by
  unfold put2
  rw[rA (by rw[dk h.r];exact hk),if_neg (by simp)]
  unfold eV
  rw[List.map_append]
  rfl
 have g:∀ {c:Addr} {o:HO},H c=some o→(∀ φ,o≠.ext φ)→L2.upd H a (d2O P w a (put2 (eV es) k b (.ref l))) c=some o:=fun {c o} e n=>by
  rw[ao (fun z=>by rw[z,h.d.1] at e;exact n _ (Option.some.inj e).symm)]
  exact e
 have gt:∀ {l':Addr} {ks':List Nd},Ths H l' ks'→Ths (L2.upd H a (d2O P w a (put2 (eV es) k b (.ref l)))) l' ks':=fun {l' ks'} q=>by
  obtain⟨bs,h1,h2,h3⟩:=q
  exact⟨bs,g h1 (fun _ z=>by cases z),h2,fun i b k e1 e2=>(h3 i b k e1 e2).keep fun c ys e=>g e fun _ z=>by cases z⟩
 refine⟨by rw[← e1];exact h.d.put hb,?_,?_⟩
 ·exact Paired.app (Paired.mn h.r fun e t q=>⟨q.1,gt q.2⟩) (.cons ⟨rfl,gt hl⟩ .nil)
 ·rw[List.map_append,List.nodup_append]
  exact⟨h.nd,by simp,fun x hx y hy e=>nl (by have e:x=l:=e.trans (List.mem_singleton.mp hy);rw[← e];exact hx)⟩
theorem WbT.chg (h:WbT P w H a es W)(nd:(az W).Nodup)(he:(k,b,l)∈es){vs:List V}(hl:H l=some (.lst vs)){f:List Nd→List Nd}{o:HO}(hn:∀ ls,Ths H l ls→Ths (L2.upd H l o) l (f ls)):WbT P w (L2.upd H l o) a es (W.map fun t=>if t.1=k then (t.1,f t.2) else t):=by
 have g:∀ {c:Addr} {ys:List V},H c=some (.tup ys)→L2.upd H l o c=some (.tup ys):=fun {c ys} e=>by
  rw[ao (fun z=>by rw[z,hl] at e;cases e)]
  exact e
 have na:a≠l:=fun z=>by have:=h.d.1;rw[z,hl] at this;cases this
 refine⟨h.d.keep (by rw[ao na]) fun c ys e=>g e,?_,h.nd⟩
 have nk:(es.map (·.1)).Nodup:=by rw[dk h.r];exact nd
 have key:∀ e∈es,e.1=k↔e.2.2=l:=fun e hm=>by
  obtain⟨i,hi,rfl⟩:=List.getElem_of_mem hm
  obtain⟨j,hj,ej⟩:=List.getElem_of_mem he
  have z1:(es.map (·.1))[j]'(by rw[List.length_map];exact hj)=k:=by rw[List.getElem_map,ej]
  have z2:(es.map (·.2.2))[j]'(by rw[List.length_map];exact hj)=l:=by rw[List.getElem_map,ej]
  constructor
  ·intro c
   have:(es.map (·.1))[i]'(by rw[List.length_map];exact hi)=(es.map (·.1))[j]'(by rw[List.length_map];exact hj):=by rw[z1,List.getElem_map];exact c
   have:=(List.getElem_inj nk).mp this
   subst this
   rw[ej]
  ·intro c
   have:(es.map (·.2.2))[i]'(by rw[List.length_map];exact hi)=(es.map (·.2.2))[j]'(by rw[List.length_map];exact hj):=by rw[z2,List.getElem_map];exact c
   have:=(List.getElem_inj h.nd).mp this
   subst this
   rw[ej]
 have go:∀ {xs:Es} {ys:Web},(∀ e∈xs,e.1=k↔e.2.2=l)→Paired (RW H) xs ys→Paired (RW (L2.upd H l o)) xs (ys.map fun t=>if t.1=k then (t.1,f t.2) else t):=by
  intro xs ys hx q
  induction q with
  | nil=>exact .nil
  | @cons e t r s q' _ ih =>
   refine .cons ?_ (ih fun e' he'=>hx e' (List.mem_cons_of_mem _ he'))
   obtain⟨q1,q2⟩:=q'
   have c:=hx e List.mem_cons_self
   show RW (L2.upd H l o) e (if t.1=k then (t.1,f t.2) else t)
   by_cases d:e.1=k
   ·rw[if_pos (by rw[← q1];exact d)]
    refine⟨q1,?_⟩
    rw[c.mp d] at q2 ⊢
    exact hn _ q2
   ·rw[if_neg (by rw[← q1];exact d)]
    refine⟨q1,Ths.keep q2 (by rw[ao (fun z=>d (c.mpr z))]) fun c ys e=>g e⟩
 exact go key h.r
theorem WbT.drop (h:WbT P w H a es W):WbT P w (L2.upd H a (d2O P w a (gZ (eV es) k))) a (es.filter fun e=>decide (e.1≠k)) (W.filter fun t=>decide (t.1≠k)):=by
 have e1:gZ (eV es) k=eV (es.filter fun e=>decide (e.1≠k)):=by
  unfold gZ eV
  rw[List.filter_map]
  rfl
 have g:∀ {c:Addr} {o:HO},H c=some o→(∀ φ,o≠.ext φ)→L2.upd H a (d2O P w a (gZ (eV es) k)) c=some o:=fun {c o} e n=>by
  rw[ao (fun z=>by rw[z,h.d.1] at e;exact n _ (Option.some.inj e).symm)]
  exact e
 refine⟨by rw[← e1];exact D2.drop h.d,?_,h.nd.sublist (List.filter_sublist.map _)⟩
 have go:∀ {xs:Es} {ys:Web},Paired (RW H) xs ys→Paired (RW (L2.upd H a (d2O P w a (gZ (eV es) k)))) (xs.filter fun e=>decide (e.1≠k)) (ys.filter fun t=>decide (t.1≠k)):=by
  intro xs ys q
  induction q with
  | nil=>exact .nil
  | @cons e t r s q' _ ih =>
   obtain⟨q1,bs,h1,h2,h3⟩:=q'
   by_cases d:e.1=k
   ·rw[List.filter_cons_of_neg (by simp[d]),List.filter_cons_of_neg (by simp[← q1,d])]
    exact ih
   ·rw[List.filter_cons_of_pos (by simp[d]),List.filter_cons_of_pos (by simp[← q1,d])]
    exact .cons ⟨q1,bs,g h1 (fun _ z=>by cases z),h2,fun i b k e1 e2=>(h3 i b k e1 e2).keep fun c ys e=>g e fun _ z=>by cases z⟩ ih
 exact go h.r
theorem _root_.NK.K2.pair {p:Int×Int}(h:H b=some (.tup (pr p))):K2 H (pN p) b:=⟨_,h,.cons rfl (.cons rfl .nil)⟩
theorem _root_.NK.K2.asPair {p:Int×Int}(h:K2 H (pN p) b):H b=some (.tup (pr p)):=by
 obtain⟨vs,e,r⟩:=h
 rw[e]
 cases r with
 | cons h1 t =>
  cases t with
  | cons h2 t2 =>
   cases t2
   cases (show _=_ from h1)
   cases (show _=_ from h2)
   rfl
theorem _root_.NK.K2.chain {c:List (Int×Int)}{ts:List Addr}(h:H b=some (.tup (ts.map V.ref)))(ht:Tup pr H ts c):K2 H (cN c) b:=by
 refine⟨_,h,?_⟩
 obtain⟨hl,hp⟩:=ht
 clear h
 induction c generalizing ts with
 | nil =>
  have:ts=[]:=List.length_eq_zero_iff.mp hl
  subst this
  exact .nil
 | cons p r ih =>
  cases ts with
  | nil=>cases hl
  | cons t ts =>
   refine .cons ⟨t,rfl,hp 0 t p rfl rfl⟩ (ih (Nat.succ.inj hl) fun i t' q e1 e2=>hp (i+1) t' q e1 e2)
theorem TsT.ths {ps:List (Int×Int)}(h:TsT pr H l ps):Ths H l (ps.map pN):=by
 obtain⟨ts,h1,h2,h3⟩:=h
 refine⟨ts,h1,by rw[List.length_map];exact h2,fun i b k e1 e2=>?_⟩
 rw[List.getElem?_map] at e2
 obtain⟨p,e3,rfl⟩:=Option.map_eq_some_iff.mp e2
 exact K2.pair (h3 i b p e1 e3)
theorem _root_.NK.Ths.tst {ps:List (Int×Int)}(h:Ths H l (ps.map pN)):TsT pr H l ps:=by
 obtain⟨ts,h1,h2,h3⟩:=h
 refine⟨ts,h1,by rw[List.length_map] at h2;exact h2,fun i b p e1 e2=>K2.asPair (h3 i b (pN p) e1 (by rw[List.getElem?_map,e2];rfl))⟩
end
end Mir

namespace L2
open PySem PySem.Spec
theorem sZ {X:Cx}{scope:Scope}{pre:List Str}{y z:Str}{c e:Addr}{j k:Nat}(jc:scope.kind=.function)(h:∀ w∈scope.names,w.2≠.cell∧(w.2=.free→w.1=y∨w.1=z))(hn:∀ w∈scope.names,w.2=.local→scope.names.lookup w.1=some .local)
  (hcl:closureFor scope X.env=pure [(y,c),(z,e)]) (hc:X.env.cells.lookup y=some c) (he:X.env.cells.lookup z=some e) (hN:X.N[j]?=some y) (hM:X.N[k]?=some z) (hk:X.env.kindOf y=some .cell) (hk2:X.env.kindOf z=some .cell) (hr:(relabel scope X.env).names.lookup y=some .cell) (hr2:(relabel scope X.env).names.lookup z=some .cell) :
  iQ X scope [(y,c),(z,e)] (pre++[y,z]) (List.replicate pre.length none++[some j,some k]) where
 vw:=hcl
 cell:=fun w hw=>(h w hw).1
 kind:=jc
 names:=hn
 cls:=fun x c' q=>by
  rw[List.lookup_cons] at q
  split at q
  ·rename_i hx
   rw[eq_of_beq hx,← q]
   exact hc
  ·rw[List.lookup_cons] at q
   split at q
   ·rename_i hx
    rw[eq_of_beq hx,← q]
    exact he
   ·cases q
 has:=fun x q=>by
  have key:∀ k,(relabel scope X.env).names.lookup x=some k→k=.cell∨k=.free→x=y∨x=z:=fun k q hk=>by
   have hm:=PySem.mem_of_lookup q
   obtain⟨⟨n,k'⟩,hy,ey⟩:=List.mem_map.mp hm
   have h1:=h _ hy
   by_cases hf:k'=.free
   ·have w:=h1.2 hf
    dsimp only at ey
    split at ey
    ·cases ey;exact w
    ·cases ey;exact w
   ·have hb:(k' == NameKind.free)=false:=by simpa using hf
    simp only[hb,Bool.false_and,Bool.false_eq_true,if_false,Prod.mk.injEq] at ey
    obtain⟨_,rfl⟩:=ey
    rcases hk with hk | hk
    ·exact absurd hk h1.1
    ·exact absurd hk hf
  have hxy:x=y∨x=z:=by
   rcases q with q | q
   ·exact key _ q (.inl rfl)
   ·exact key _ q (.inr rfl)
  rw[List.lookup_cons]
  by_cases e1:x == y
  ·rw[e1];exact⟨c,rfl⟩
  ·have e1:(x == y)=false:=by simpa using e1
   rw[e1]
   rcases hxy with w | w
   ·rw[w,beq_self_eq_true] at e1;cases e1
   ·rw[List.lookup_cons,w,beq_self_eq_true]
    exact⟨e,rfl⟩
 len:=by simp
 src:=fun i q x e1 e2=>by
  by_cases hi:i<pre.length
  ·rw[List.getElem?_append_left (by simpa using hi),List.getElem?_replicate,if_pos hi] at e1
   cases e1
  ·rw[List.getElem?_append_right (by simp;omega),List.length_replicate] at e1
   rw[List.getElem?_append_right (by omega)] at e2
   match hd:i-pre.length,e1,e2 with
   | 0,e1,e2 =>
    simp at e1 e2
    subst e1 e2
    exact⟨hN,.inl hk,.inl hr⟩
   | 1,e1,e2 =>
    simp at e1 e2
    subst e1 e2
    exact⟨hM,.inl hk2,.inl hr2⟩
   | d+2,e1,e2 =>
    simp at e1
end L2

namespace L2
theorem iF {b:Bool}{A B:Prop}(hb:b=true)(h:A):if b=true then A else B:=by rw[if_pos hb];exact h
theorem hV {b:Bool}{A B:Prop}(hb:b=false)(h:B):if b=true then A else B:=by rw[if_neg (by rw[hb];decide)];exact h
theorem yM {i j:Int}(h:i=j):decide (V.int i=V.int j)=true:=decide_eq_true (by rw[h])
theorem tf {i j:Int}(h:i≠j):decide (V.int i=V.int j)=false:=decide_eq_false (fun z=>h (by injection z))
end L2

namespace Mir
open PySem L2 NK
theorem uE (xs:List V):jd xs (some (-1)) none=xs.drop (xs.length-1):=by
 unfold jd
 have e:HT.sIx xs.length 0 (some (-1))=xs.length-1:=by
  unfold HT.sIx
  simp
  omega
 have e2:HT.sIx xs.length xs.length none=xs.length:=rfl
 rw[e,e2,List.take_of_length_le (by rw[List.length_drop];omega)]
theorem oK {xs:List V}{v:V}(h:xs.getLast?=some v):atI xs (-1)=some v:=by
 obtain⟨ys,rfl⟩:=List.getLast?_eq_some_iff.mp h
 exact L2.vj ys v
theorem j8 {α β:Type}{R:α→β→Prop}{xs:List α}{ys:List β}(h:Paired R xs ys):∀ {i:Nat} {x:α},xs[i]?=some x→∃ y,ys[i]?=some y∧R x y:=by
 induction h with
 | nil=>intro i x e;simp at e
 | cons q _ ih =>
  intro i x e
  cases i with
  | zero=>cases e;exact⟨_,rfl,q⟩
  | succ i=>exact ih e
theorem wN {es:Es}{i:Nat}{k:Nd}{b:Addr}{v:V}(h:(eV es)[i]?=some (k,b,v)):∃ l,es[i]?=some (k,b,l)∧v=.ref l:=by
 unfold eV at h
 rw[List.getElem?_map] at h
 obtain⟨e,he,q⟩:=Option.map_eq_some_iff.mp h
 obtain⟨e1,e2,e3⟩:=e
 cases q
 exact⟨e3,he,rfl⟩
theorem _root_.NK.Ths.len {H:Hp}{l:Addr}{ks:List Nd}(h:Ths H l ks):∃ vs,H l=some (.lst vs)∧vs.length=ks.length:=by
 obtain⟨bs,h1,h2,_⟩:=h
 exact⟨_,h1,by rw[List.length_map];exact h2⟩
theorem _root_.NK.Ths.snoc {H:Hp}{l b:Addr}{ks:List Nd}{k:Nd}(h:Ths H l ks)(hb:K2 H k b):∃ vs,H l=some (.lst vs)∧vs.length=ks.length∧Ths (L2.upd H l (.lst (vs++[.ref b]))) l (ks++[k]):=by
 obtain⟨bs,h1,h2,h3⟩:=h
 have g:∀ c ys,H c=some (.tup ys)→L2.upd H l (.lst (bs.map V.ref++[.ref b])) c=some (.tup ys):=fun c ys e=>by
  rw[ao (fun z=>by rw[z,h1] at e;cases e)]
  exact e
 refine⟨_,h1,by rw[List.length_map];exact h2,bs++[b],by rw[ae,List.map_append];rfl,by rw[List.length_append,List.length_append,h2];rfl,fun i c k' e1 e2=>?_⟩
 by_cases z:i<bs.length
 ·rw[List.getElem?_append_left z] at e1
  rw[List.getElem?_append_left (by omega)] at e2
  exact(h3 i c k' e1 e2).keep g
 ·have hi:=(List.getElem?_eq_some_iff.mp e1).1
  rw[List.length_append,List.length_singleton] at hi
  have:i=bs.length:=by omega
  subst this
  rw[List.getElem?_append_right (Nat.le_refl _),Nat.sub_self] at e1
  rw[List.getElem?_append_right (by omega),h2,Nat.sub_self] at e2
  cases e1
  cases e2
  exact hb.keep g
theorem rC {W:Web}{i:Nat}{t:Nd×List Nd}{ks:List (Int×Int)}(e:W[i]?=some t):aH (W.take (i+1)) ks=aH (W.take i) ks++(if t.2.length≤1∧t.1 ∉ ks.map pN then [t.1] else []):=by
 unfold aH
 rw[take_snoc e,List.filter_append,List.map_append,List.filter_cons,List.filter_nil]
 congr 1
 by_cases c:t.2.length≤1∧t.1 ∉ ks.map pN
 ·rw[if_pos c,if_pos (by rw[decide_eq_true c.1,decide_eq_false c.2];rfl)]
  rfl
 ·rw[if_neg c,if_neg (fun z=>c (by
   rw[Bool.and_eq_true,decide_eq_true_iff,Bool.not_eq_true',decide_eq_false_iff_not] at z
   exact z))]
  rfl
noncomputable def oM (H:Hp)(es:Es):Prop:=∀ e∈es,H e.2.2=none
noncomputable def tu:Sp:=fun vs H Q _=>∃ (tc l:Addr) (ts:List Addr) (c kins:List (Int×Int)),vs=[.ref tc,.ref l]∧H tc=some (.tup (ts.map V.ref))∧Tup pr H ts c∧c≠[]∧TsT pr H l kins∧kins.length≤100∧∀ (r:Addr) (H':Hp),H r=none→aq H H'→TsT pr H' r (dA kins c)→Q (.ref r) H'
variable (P:Program)(w:World)
noncomputable def oN:Sp:=fun vs H Q _=>∃ (l:Addr) (kins:List (Int×Int)),vs=[.ref l]∧TsT pr H l kins∧(kins.Pairwise fun p q=>p.1<q.1)∧kins.length≤100∧∀ (a:Addr) (es:Es) (H':Hp),H a=none→aq H H'→oM H es→WbT P w H' a es (dZ kins (chains kins))→Q (.ref a) H'
noncomputable def tD:Sp:=fun vs H Q _=>∃ (a l:Addr) (es:Es) (W:Web) (ks:List (Int×Int)),vs=[.ref a,.ref l]∧WbT P w H a es W∧WOk W∧W.length≤500∧TsT pr H l ks∧∀ (r:Addr) (H':Hp),H r=none→aq H H'→Ths H' r (aH W ks)→Q (.ref r) H'
noncomputable def d4 (rs:List Int):Web:=if di (frm rs) (opn (frm rs) (rs.length+1))=[] then [] else hU (dZ (b4 (frm rs)) (chains (b4 (frm rs)))) (di (frm rs) (opn (frm rs) (rs.length+1)))
noncomputable def oO:Sp:=fun vs H Q _=>∃ (t:Addr) (rs:List Int),vs=[.ref t]∧H t=some (.tup (iV rs))∧Fit rs∧∀ (a:Addr) (es:Es) (H':Hp),H a=none→aq H H'→WbT P w H' a es (d4 rs)→Q (.ref a) H'
noncomputable def bP (W:Web)(ks:List (Int×Int)):List (Int×Int):=ks.filter fun p=>decide (pN p∈az W)&&decide ((lkW W (pN p)).length≤1)
noncomputable def rD:Sp:=fun vs H Q _=>∃ (a:Addr) (es:Es) (W:Web) (ks:List (Int×Int)),vs=[.ref a]∧WbT P w H a es W∧WOk W∧W.length≤500∧aH W ks=[]∧(ks.Pairwise fun p q=>p.1<q.1)∧ks.length≤60∧(∀ p∈ks,0≤p.2∧p.2<1000)∧∀ (r:Addr) (H':Hp),H r=none→aq H H'→TsT pr H' r (bP W ks)→Q (.ref r) H'
noncomputable def zB:Sp:=fun vs H Q _=>∃ (e a:Addr) (es:Es) (W:Web) (k:Nd),vs=[.ref e,.ref a]∧WbT P w H a es W∧WOk W∧W.length≤500∧K2 H k e∧k∈az W∧(lkW W k).length≤1∧∀ (r:Addr) (H':Hp),H r=none→aq H H'→Ths H' r (dB W k)→Q (.ref r) H'
noncomputable def aS (rs:List Int):List Int:=(bP (d4 rs) (di (frm rs) (opn (frm rs) (rs.length+1)))).map fun e=>(((dB (d4 rs) (pN e)).filter fun k=>decide (k∈(di (frm rs) (opn (frm rs) (rs.length+1))).map pN)).length:Nat)
noncomputable def oP:Sp:=fun vs H Q _=>∃ (t:Addr) (rs:List Int),vs=[.ref t]∧H t=some (.tup (iV rs))∧Fit rs∧∀ (r:Addr) (H':Hp),H r=none→aq H H'→H' r=some (.lst (iV (aS rs)))→Q (.ref r) H'
noncomputable def cK (L:List Int):Int:=if L.length%2=1∧1<L.length∧(1:Int) ∉ L then (L.length:Int)+1 else L.length
noncomputable def lT (K:PySem.W.Frag):Sp:=fun vs H Q _=>∃ (a:Addr) (L:List Int),vs=[.ref a]∧(SqL K H a (iV L)∨SqT K H a (iV L))∧Q (.int (cK L)) H
end Mir

namespace Mir
open PySem L2 NK
noncomputable def kL (kins:List (Int×Int))(cs:List (List (Int×Int)))(c:List (Int×Int))(i:Nat):Web :=
 kins.map (fun k=>(pN k,(cs.filter fun d=>decide (k∈lnk kins d)).map cN++(if k∈(lnk kins c).take i then [cN c] else [])))++(cs.map (fun d=>(cN d,(lnk kins d).map pN))++[(cN c,(lnk kins c).map pN)])
section
variable {kins:List (Int×Int)}{cs:List (List (Int×Int))}{c:List (Int×Int)}
theorem uF:kL kins cs c 0=dZ kins cs++[(cN c,(lnk kins c).map pN)]:=by
 unfold kL dZ
 rw[List.append_assoc]
 congr 1
 refine List.map_congr_left fun k _=>?_
 rw[List.take_zero,if_neg List.not_mem_nil,List.append_nil]
theorem wO:kL kins cs c (lnk kins c).length=dZ kins (cs++[c]):=by
 unfold kL dZ
 rw[List.take_length,List.map_append]
 congr 1
 refine List.map_congr_left fun k _=>?_
 rw[List.filter_append,List.map_append,List.filter_cons,List.filter_nil]
 congr 2
 by_cases h:k∈lnk kins c
 ·rw[if_pos h,decide_eq_true h,if_pos rfl]
  rfl
 ·rw[if_neg h,decide_eq_false h,if_neg (by decide)]
  rfl
theorem uG (nd : (lnk kins c).Nodup){i : Nat}{p : Int × Int}(hp : (lnk kins c)[i]?=some p) : ((kL kins cs c i).map fun t => if t.1=pN p then (t.1, t.2++[cN c]) else t)=kL kins cs c (i+1) := by
  have np : p ∉ (lnk kins c).take i := fun h => by
    obtain⟨j, hj⟩ := List.getElem?_of_mem h
    rw[List.getElem?_take] at hj
    by_cases q : j<i
    · rw[if_pos q] at hj
      have := (List.getElem?_inj (List.getElem?_eq_some_iff.mp hj).1 nd).mp (hj.trans hp.symm)
      omega
    · rw[if_neg q] at hj; cases hj
  unfold kL
  rw[List.map_append, List.map_append, List.map_map, List.map_map]
  congr 1
  · refine List.map_congr_left fun k _ => ?_
    show (if pN k=pN p then _ else _)=_
    rw[take_snoc hp]
    by_cases e : k=p
    · subst e
      rw[if_pos rfl]
      dsimp only
      rw[if_neg np, List.append_nil, if_pos (List.mem_append_right _ (List.mem_singleton.mpr rfl))]
    · rw[if_neg (fun z => e (eJ z))]
      congr 2
      by_cases h : k ∈ (lnk kins c).take i
      · rw[if_pos h, if_pos (List.mem_append_left _ h)]
      · rw[if_neg h, if_neg (fun z => by
          rcases List.mem_append.mp z with z | z
          · exact h z
          · exact e (List.mem_singleton.mp z))]
  · congr 1
    · refine List.map_congr_left fun d _ => ?_
      show (if cN d=pN p then _ else _)=_
      rw[if_neg (fun z => iL z.symm)]
    · show [if cN c=pN p then _ else _]=_
      rw[if_neg (fun z => iL z.symm)]
theorem uH (i:Nat):az (kL kins cs c i)=kins.map pN++(cs.map cN++[cN c]):=by
 unfold az kL
 rw[List.map_append,List.map_append,List.map_map,List.map_map]
 rfl
end
theorem TsT.zC {α:Type}{f:α→List V}{H:Hp}{l d:Addr}{xs:List α}{φ:Heap→Prop}{o:HO}(h:TsT f H l xs)(hd:H d=some (.ext φ)):TsT f (L2.upd H d o) l xs:=by
 obtain⟨ts,h1,h2,h3⟩:=h
 exact⟨ts,by rw[ao (fun z=>by rw[z,hd] at h1;cases h1)];exact h1,h2,fun i t x e1 e2=>by
  have q:=h3 i t x e1 e2
  rw[ao (fun z=>by rw[z,hd] at q;cases q)]
  exact q⟩
theorem yN {kins:List (Int×Int)}{cs:List (List (Int×Int))}{c:List (Int×Int)}{i:Nat}{p:Int×Int}(hp:p∈kins):∃ t∈kL kins cs c i,t.1=pN p∧t.2.length≤cs.length+1:=by
 refine⟨_,List.mem_append_left _ (List.mem_map.mpr ⟨p,hp,rfl⟩),rfl,?_⟩
 show (_++_:List Nd).length≤_
 rw[List.length_append,List.length_map]
 have:=List.length_filter_le (fun d=>decide (p∈lnk kins d)) cs
 split
 ·show _+1≤_;omega
 ·show _+0≤_;omega
theorem fu (kins:List (Int×Int)):(chains kins).length≤kins.length:=by
 unfold chains gn
 rw[List.length_map,List.length_map]
 exact kX _ _
theorem wQ (kins:List (Int×Int)){g:List Int}{i:Nat}{x:Int}(h:g[i]?=some x):chn kins (g.take (i+1))=chn kins (g.take i)++[kins.getD x.toNat (0,0)]:=by
 unfold chn
 rw[take_snoc h,List.map_append]
 rfl
theorem C9 {α:Type}{f:α→List V}{H:Hp}{xs ys:List α}{ts us:List Addr}{l:Addr}(h1:Tup f H ts xs)(h2:Tup f H us ys)(hl:H l=none):TsT f (L2.upd H l (.lst (ts.map V.ref++us.map V.ref))) l (xs++ys):=((h1.app h2).C6 hl).tst (by rw[ae,List.map_append])
end Mir

namespace L2
open PySem
theorem AU:PySem.bootBuiltins "all" = some (.builtin "all"):=by decide +kernel
theorem AV:PySem.bootBuiltins "any" = some (.builtin "any"):=by decide +kernel
end L2
namespace Mir
open PySem L2
noncomputable def wo (H:Hp)(d:Addr):Hp:=fun b=>if b=d then none else H b
theorem qe {H:Hp}{d b:Addr}(h:b≠d):wo H d b=H b:=if_neg h
theorem wR {H:Hp}{d:Addr}:wo H d d=none:=if_pos rfl
theorem tF {H:Hp}{d:Addr}:aq (wo H d) H:=fun b o e=>by
 by_cases c:b=d
 ·rw[c,wR] at e;cases e
 ·rw[qe c] at e;exact e
theorem tG {H H':Hp}{d:Addr}(s:aq H H')(h:H d=none):aq H (wo H' d):=fun b o e=>by
 rw[qe fun z=>by rw[z,h] at e;cases e]
 exact s b o e
theorem qf {H:Hp}{a b:Addr}{o u:HO}(h:a≠b):upd (upd H a o) b u=upd (upd H b u) a o:=by
 funext c
 by_cases h1:c=a
 ·subst h1
  rw[ao h,ae,ae]
 ·by_cases h2:c=b
  ·subst h2
   rw[ae,ao h1,ae]
  ·rw[ao h2,ao h1,ao h1,ao h2]
theorem yO {fs:List Int}{f:Int×Int→Bool}{M:List (Int×Int)}(nd:M.Nodup)(hm:∀ p,p∈M↔p∈(b4 fs).filter f)(hs:M.Pairwise fun p q=>p.1≤q.1):M=(b4 fs).filter f:=by
 have aT:((b4 fs).filter f).Pairwise fun p q=>p.1<q.1:=List.Pairwise.filter _ (gj fs)
 have nT:((b4 fs).filter f).Nodup:=List.Pairwise.imp (fun z e=>by rw[e] at z;omega) aT
 have fst:∀ p∈M,∀ q∈M,p.1=q.1→p=q:=fun p h1 q h2 e=>by
  obtain⟨a,b,k,rfl⟩:=bO.mp (List.mem_filter.mp ((hm p).mp h1)).1
  obtain⟨a',b',k',rfl⟩:=bO.mp (List.mem_filter.mp ((hm q).mp h2)).1
  have ea:a=a':=by dsimp only at e;omega
  subst ea
  rw[jv k k']
 have hs2:M.Pairwise fun p q=>p.1<q.1:=by
  refine List.Pairwise.imp_of_mem (R:=fun p q=>p.1≤q.1∧p≠q) (fun {p q} h1 h2 z=>?_) (List.Pairwise.and hs nd)
  have:=fst p h1 q h2
  exact Int.lt_iff_le_and_ne.mpr ⟨z.1,fun e=>z.2 (this e)⟩
 exact List.Perm.eq_of_pairwise (le:=fun a b=>a.1<b.1) (fun a b _ _ h1 h2=>by omega) hs2 aT ((List.perm_ext_iff_of_nodup nd nT).mpr hm)
theorem AW {rs:List Int}(fit:Fit rs){g:Nat}(hg:g<rs.length+1):ow (frm rs) g∈b4 (frm rs):=by
 obtain⟨c,d,o⟩:=rf fit hg
 rw[zy o]
 exact bO.mpr ⟨c,d,o.kn,rfl⟩
theorem tH {rs:List Int}(fit:Fit rs){L:List Nat}(hL:∀ g∈L,g<rs.length+1){p:Int×Int}(h:sgl (frm rs) L p≠[]):p∈b4 (frm rs):=by
 obtain⟨g,hg,rfl⟩:=AR h
 exact AW fit (hL g hg)
noncomputable def bySigns (fs:List Int)(L:List Nat)(p:Int×Int):Bool:=(sgl fs L p).all id || !(sgl fs L p).any id
theorem wU {rs:List Int}(fit:Fit rs){L:List Nat}(hL:∀ g∈L,g<rs.length+1){ps M:List (Int×Int)}(np:ps.Nodup)(mem:∀ p,p∈ps↔sgl (frm rs) L p≠[])(hp:M.Perm (ps.filter (bySigns (frm rs) L)))(hs:M.Pairwise fun p q=>p.1≤q.1):M=di (frm rs) L:=by
 refine yO (hp.nodup_iff.mpr (np.filter _)) (fun p=>?_) hs
 rw[hp.mem_iff,List.mem_filter,List.mem_filter,mem]
 constructor
 ·rintro⟨h1,h2⟩
  refine⟨tH fit hL h1,?_⟩
  unfold rj
  rw[decide_eq_true h1,Bool.true_and,← sU h1]
  exact h2
 ·rintro⟨_,h2⟩
  unfold rj at h2
  rw[Bool.and_eq_true] at h2
  have h1:=of_decide_eq_true h2.1
  refine⟨h1,?_⟩
  unfold bySigns
  rw[sU h1]
  exact h2.2
theorem tI {rs:List Int}(fit:Fit rs){p:Int×Int}(hp:p∈b4 (frm rs)):0≤p.2∧p.2<1000:=by
 obtain⟨a,b,k,rfl⟩:=bO.mp hp
 have h1:=k.1.lb
 rw[ba] at h1
 have:=fit.small
 exact⟨by dsimp only;omega,by dsimp only;omega⟩
end Mir

namespace Mir
open PySem L2 NK
noncomputable def kM (W:Web)(k:Nd)(L:List Nd):Web:=W.map fun t=>if t.1∈L then (t.1,t.2.filter fun l=>decide (l≠k)) else t
section
variable {W:Web}{k:Nd}{L:List Nd}{t:Nd×List Nd}
theorem yP:kM W k []=W:=by
 unfold kM
 conv=>rhs;rw[← List.map_id W]
 exact List.map_congr_left fun t _=>by rw[if_neg List.not_mem_nil];rfl
theorem wV:az (kM W k L)=az W:=by
 unfold az kM
 rw[List.map_map]
 refine List.map_congr_left fun t _=>?_
 show (if _ then _ else _:Nd×List Nd).1=_
 split <;> rfl
theorem wW {y:Nd}(hy:y ∉ L):((kM W k L).map fun t=>if t.1=y then (t.1,t.2.filter fun l=>decide (l≠k)) else t)=kM W k (L++[y]):=by
 unfold kM
 rw[List.map_map]
 refine List.map_congr_left fun t _=>?_
 show (if (if t.1∈L then (t.1,t.2.filter fun l=>decide (l≠k)) else t).1=y then _ else _)=_
 by_cases c:t.1∈L
 ·rw[if_pos c,if_neg (show ¬ t.1=y from fun z=>hy (z ▸ c)),if_pos (List.mem_append_left _ c)]
 ·rw[if_neg c]
  by_cases e:t.1=y
  ·rw[if_pos e,if_pos (List.mem_append_right _ (List.mem_singleton.mpr e))]
   dsimp only
   rw[if_neg c]
  ·rw[if_neg e,if_neg (fun z=>by
    rcases List.mem_append.mp z with z | z
    ·exact c z
    ·exact e (List.mem_singleton.mp z))]
theorem yQ {y:Nd}(hy:y ∉ L){ls:List Nd}(h:(y,ls)∈W):(y,ls)∈kM W k L:=List.mem_map.mpr ⟨(y,ls),h,by rw[if_neg hy]⟩
theorem yR (O:WOk W)(ht:t∈W):((kM W t.1 t.2).filter fun u=>decide (u.1≠t.1))=dj W t.1:=by
 unfold kM dj
 rw[List.filter_map]
 have e1:(W.filter ((fun u:Nd×List Nd=>decide (u.1≠t.1)) ∘ fun u:Nd×List Nd=>if u.1∈t.2 then (u.1,u.2.filter fun l=>decide (l≠t.1)) else u))=W.filter fun u=>decide (u.1≠t.1):=by
  refine List.filter_congr fun u _=>?_
  show decide ((if u.1∈t.2 then (u.1,u.2.filter fun l=>decide (l≠t.1)) else u).1≠t.1)=_
  split <;> rfl
 rw[e1]
 refine List.map_congr_left fun u hu=>?_
 by_cases c:u.1∈t.2
 ·rw[if_pos c]
 ·rw[if_neg c]
  have hu:=(List.mem_filter.mp hu).1
  refine Prod.ext rfl (List.filter_eq_self.mpr fun l hl=>?_).symm
  refine decide_eq_true ?_
  intro z
  subst z
  obtain⟨v,hv,e,h2⟩:=O.sym u hu t.1 hl
  rw[O.uniq hv ht e] at h2
  exact c h2
theorem wX (O:WOk W)(ks:List (Int×Int)):(aH W ks).Nodup:=O.nd.sublist ((List.filter_sublist).map _)
theorem uI {l:List Nd}{i:Nat}{x:Nd}(h:l[i]?=some x):(l.take (i+1)).foldl dj W=dj ((l.take i).foldl dj W) x:=by
 rw[take_snoc h,List.foldl_append]
 rfl
end
theorem _root_.NK.Ths.inj {H:Hp}{l:Addr}{ks ks':List Nd}(h:Ths H l ks)(h':Ths H l ks'):ks=ks':=by
 obtain⟨bs,h1,h2,h3⟩:=h
 obtain⟨cs,k1,k2,k3⟩:=h'
 rw[h1] at k1
 have:bs=cs:=(List.map_inj_right (f:=V.ref) fun a b h=>by injection h).mp (by injection k1 with k1;injection k1)
 subst this
 refine List.ext_getElem? fun i=>?_
 by_cases c:i<bs.length
 ·have e1:=List.getElem?_eq_getElem (l:=ks) (i:=i) (by omega)
  have e2:=List.getElem?_eq_getElem (l:=ks') (i:=i) (by omega)
  have eb:=List.getElem?_eq_getElem c
  rw[e1,e2,(h3 i _ _ eb e1).inj (k3 i _ _ eb e2)]
 ·rw[List.getElem?_eq_none (by omega),List.getElem?_eq_none (by omega)]
theorem _root_.NK.Ths.erase {H:Hp}{l:Addr}{ks:List Nd}{bs:List Addr}{j:Nat}(h1:H l=some (.lst (bs.map V.ref)))(h2:bs.length=ks.length)(h3:∀ (i:Nat) (b:Addr) (k:List Itm),bs[i]?=some b→ks[i]?=some k→K2 H k b):Ths (L2.upd H l (.lst ((bs.eraseIdx j).map V.ref))) l (ks.eraseIdx j):=by
 refine⟨bs.eraseIdx j,ae,by rw[List.length_eraseIdx,List.length_eraseIdx,h2],fun i b k e1 e2=>?_⟩
 have g:∀ c ys,H c=some (.tup ys)→L2.upd H l (.lst ((bs.eraseIdx j).map V.ref)) c=some (.tup ys):=fun c ys e=>by
  rw[ao (fun z=>by rw[z,h1] at e;cases e)]
  exact e
 rw[List.getElem?_eraseIdx] at e1 e2
 by_cases c:i<j
 ·rw[if_pos c] at e1 e2
  exact(h3 i b k e1 e2).keep g
 ·rw[if_neg c] at e1 e2
  exact(h3 _ b k e1 e2).keep g
theorem rE {ks:List Nd}(nd:ks.Nodup){j:Nat}{k:Nd}(h:ks[j]?=some k):ks.eraseIdx j=ks.filter fun l=>decide (l≠k):=erase_filter (fun x:Nd=>x) k ks j k (by rw[List.map_id'];exact nd) h rfl
theorem wY {ks:List Nd}(nd:ks.Nodup){j:Nat}{k:Nd}(h:ks[j]?=some k):∀ i,i<j→ks[i]?≠some k:=fun i hi e=>by
 have:=(List.getElem?_inj (List.getElem?_eq_some_iff.mp e).1 nd).mp (e.trans h.symm)
 omega
end Mir
namespace Mir
open PySem L2 NK
noncomputable def jA (W:Web):List Nd:=(W.filter fun t=>decide (t.2.length≤1)).map (·.1)
theorem wZ {W:Web}{i:Nat}{t:Nd×List Nd}(ht:W[i]?=some t):jA (W.take (i+1))=jA (W.take i)++(if t.2.length≤1 then [t.1] else []):=by
 unfold jA
 rw[take_snoc ht,List.filter_append,List.map_append,List.filter_cons,List.filter_nil]
 by_cases c:t.2.length≤1
 ·rw[if_pos (decide_eq_true c),if_pos c];rfl
 ·rw[if_neg (by rw[decide_eq_false c];decide),if_neg c];rfl
theorem yS (W:Web)(i:Nat):(jA (W.take i)).length≤i:=by
 unfold jA
 rw[List.length_map]
 exact Nat.le_trans (List.length_filter_le _ _) (by rw[List.length_take];omega)
theorem yT {W:Web}(O:WOk W){k:Nd}:k∈jA W↔k∈az W∧(lkW W k).length≤1:=by
 unfold jA
 rw[List.mem_map]
 constructor
 ·rintro⟨t,h,rfl⟩
  obtain⟨h1,h2⟩:=List.mem_filter.mp h
  exact⟨mem_keys.mpr ⟨t,h1,rfl⟩,by rw[O.lk h1];exact of_decide_eq_true h2⟩
 ·rintro⟨h1,h2⟩
  obtain⟨t,ht,rfl⟩:=mem_keys.mp h1
  rw[O.lk ht] at h2
  exact⟨t,List.mem_filter.mpr ⟨ht,decide_eq_true h2⟩,rfl⟩
theorem tJ:∀ {l:List Nd} {ks:List (Int×Int)},(∀ k∈l,k∈ks.map pN)→∃ ps:List (Int×Int),l=ps.map pN∧∀ p∈ps,p∈ks
 | [],ks,_=>⟨[],rfl,fun p h=>absurd h List.not_mem_nil⟩
 | k::r,ks,h=>by
  obtain⟨p,hp,rfl⟩:=List.mem_map.mp (h k List.mem_cons_self)
  obtain⟨ps,e,hs⟩:=tJ (l:=r) (ks:=ks) fun x hx=>h x (List.mem_cons_of_mem _ hx)
  exact⟨p::ps,by rw[e];rfl,fun q hq=>by
   rcases List.mem_cons.mp hq with rfl | hq
   ·exact hp
   ·exact hs q hq⟩
theorem w4 {W:Web}(O:WOk W){ks:List (Int×Int)}(hs:aH W ks=[])(asc:ks.Pairwise fun p q=>p.1<q.1):∃ ps:List (Int×Int),jA W=ps.map pN∧ps.Perm (bP W ks)∧∀ p∈ps,p∈ks:=by
 have sub:∀ k∈jA W,k∈ks.map pN:=fun k hk=>Classical.byContradiction fun c=>by
  unfold jA at hk
  obtain⟨t,ht,rfl⟩:=List.mem_map.mp hk
  obtain⟨h1,h2⟩:=List.mem_filter.mp ht
  have:t.1∈aH W ks:=List.mem_map.mpr ⟨t,List.mem_filter.mpr ⟨h1,by rw[h2,decide_eq_false c];rfl⟩,rfl⟩
  rw[hs] at this
  exact absurd this List.not_mem_nil
 obtain⟨ps,e,hp⟩:=tJ sub
 refine⟨ps,e,?_,hp⟩
 have nd1:(jA W).Nodup:=O.nd.sublist ((List.filter_sublist).map _)
 have nd2:ps.Nodup:=by
  rw[e] at nd1
  unfold List.Nodup at nd1
  rw[List.pairwise_map] at nd1
  exact nd1.imp fun n z=>n (by rw[z])
 have nd3:(bP W ks).Nodup:=(lP asc).sublist List.filter_sublist
 refine(List.perm_ext_iff_of_nodup nd2 nd3).mpr fun p=>?_
 have m1:p∈ps↔pN p∈jA W:=by
  rw[e]
  exact⟨fun h=>List.mem_map.mpr ⟨p,h,rfl⟩,fun h=>by obtain⟨q,hq,z⟩:=List.mem_map.mp h;rw[← eJ z];exact hq⟩
 unfold bP
 rw[List.mem_filter,Bool.and_eq_true,decide_eq_true_iff,decide_eq_true_iff,← yT O]
 exact⟨fun h=>⟨hp p h,m1.mp h⟩,fun h=>m1.mpr h.2⟩
theorem w5 {W:Web}{ks M ps:List (Int×Int)}(asc:ks.Pairwise fun p q=>p.1<q.1)(h1:M.Perm ps)(h2:ps.Perm (bP W ks))(hs:M.Pairwise fun p q=>p.1≤q.1):M=bP W ks:=by
 have a2:(bP W ks).Pairwise fun p q=>p.1<q.1:=asc.sublist List.filter_sublist
 have hp:=h1.trans h2
 refine List.Perm.eq_of_pairwise (le:=fun p q:Int×Int=>p.1≤q.1) (fun a b ha hb h1 h2=>?_) hs (a2.imp fun h=>Int.le_of_lt h) hp
 have hb:b∈bP W ks:=hb
 have ha:a∈bP W ks:=hp.mem_iff.mp ha
 obtain⟨i,hi,rfl⟩:=List.getElem_of_mem ha
 obtain⟨j,hj,rfl⟩:=List.getElem_of_mem hb
 rcases Nat.lt_trichotomy i j with c | c | c
 ·have:=List.pairwise_iff_getElem.mp a2 i j hi hj c;omega
 ·subst c;rfl
 ·have:=List.pairwise_iff_getElem.mp a2 j i hj hi c;omega
end Mir
namespace Mir
open PySem L2 NK
theorem qg {ks:List (Int×Int)}:∀ (n:Nat) (W:Web),(dY n W ks).length≤W.length
 | 0,W=>Nat.le_refl _
 | n+1,W=>by
  show (if aH W ks=[] then W else _).length≤_
  split
  ·exact Nat.le_refl _
  ·exact Nat.le_trans (qg n _) (jy _ _)
theorem WOk.nil:WOk []:=⟨List.nodup_nil,fun t h=>absurd h List.not_mem_nil,fun t h=>absurd h List.not_mem_nil,fun t h=>absurd h List.not_mem_nil⟩
theorem k5 {rs:List Int}(fit:Fit rs):WOk (d4 rs)∧(d4 rs).length≤500∧aH (d4 rs) (di (frm rs) (opn (frm rs) (rs.length+1)))=[]:=by
 have fl:=ba rs
 have kl:=gg (frm rs)
 have small:=fit.small
 have cl:=fu (b4 (frm rs))
 have asc:=gj (frm rs)
 have O:=gE (iy asc)
 have Wl:(dZ (b4 (frm rs)) (chains (b4 (frm rs)))).length≤500:=by
  unfold dZ
  rw[List.length_append,List.length_map,List.length_map]
  omega
 unfold d4
 by_cases c:di (frm rs) (opn (frm rs) (rs.length+1))=[]
 ·rw[if_pos c]
  exact⟨WOk.nil,Nat.zero_le _,rfl⟩
 ·rw[if_neg c]
  exact⟨WOk.dY _ O,Nat.le_trans (qg _ _) Wl,kG _ _ (Nat.le_refl _)⟩
theorem dE {rs:List Int}(fit:Fit rs):((di (frm rs) (opn (frm rs) (rs.length+1))).Pairwise fun p q=>p.1<q.1)∧(di (frm rs) (opn (frm rs) (rs.length+1))).length≤60∧∀ p∈di (frm rs) (opn (frm rs) (rs.length+1)),0≤p.2∧p.2<1000:=by
 have fl:=ba rs
 have kl:=gg (frm rs)
 have small:=fit.small
 unfold di
 exact⟨(gj _).sublist List.filter_sublist,Nat.le_trans (List.length_filter_le _ _) (by omega),fun p hp=>tI fit (List.mem_filter.mp hp).1⟩
end Mir
namespace Mir
open PySem L2 NK
theorem qh (W:Web):∀ (n:Nat) (p:Nd) (on acc:List Nd),(qd W n p on acc).length≤acc.length+n
 | 0,_,_,acc=>Nat.le_refl _
 | n+1,p,[],acc=>by show acc.length≤_;omega
 | n+1,p,t::r,acc=>by
  show (if (lkW W t).length≤2 then qd W n t ((lkW W t).filter fun l=>decide (l≠p)) (acc++[t]) else acc).length≤_
  split
  ·have:=qh W n t ((lkW W t).filter fun l=>decide (l≠p)) (acc++[t])
   rw[List.length_append,List.length_singleton] at this
   omega
  ·omega
theorem uJ (W:Web)(k:Nd):(dB W k).length≤W.length+1:=by
 have:=qh W W.length k (lkW W k) [k]
 unfold dB
 rw[List.length_singleton] at this
 omega
end Mir

namespace Mir
open PySem L2 NK
section
variable {α:Type}
inductive Ab (up:α→Option α):α→α→Prop
 | refl (v:α):Ab up v v
 | step {v u w:α}:up v=some u→Ab up u w→Ab up v w
variable {up:α→Option α}{rk:α→Nat}{V:List α}{M:Nat}{root:α}{K:α→Prop}
theorem Ab.trans {a b c:α}(h:Ab up a b)(k:Ab up b c):Ab up a c:=by
 induction h with
 | refl=>exact k
 | step e _ ih=>exact .step e (ih k)
theorem Ab.snoc {a b c:α}(h:Ab up a b)(e:up b=some c):Ab up a c:=h.trans (.step e (.refl _))
theorem Ab.pred {a b:α}(h:Ab up a b):a=b∨∃ c,up c=some b∧Ab up a c:=by
 induction h with
 | refl=>exact .inl rfl
 | @step v u w e _ ih =>
  rcases ih with rfl | ⟨c,h1,h2⟩
  ·exact .inr ⟨v,e,.refl v⟩
  ·exact .inr ⟨c,h1,.step e h2⟩
theorem Ab.cmp {a b c:α}(h:Ab up a b)(k:Ab up a c):Ab up b c∨Ab up c b:=by
 induction h with
 | refl=>exact .inl k
 | @step v u w e h2 ih =>
  cases k with
  | refl=>exact .inr (.step e h2)
  | step e' k2 =>
   rw[e] at e'
   cases e'
   exact ih k2
structure Tr (V:List α) (up:α→Option α) (rk:α→Nat) (M:Nat) (root:α):Prop where
 inV:∀ v u,up v=some u→v∈V∧u∈V
 lt:∀ v u,up v=some u→rk u<rk v
 rt:∀ v∈V,up v=none→v=root
 mx:∀ v∈V,rk v≤M
theorem Tr.le (T:Tr V up rk M root){a b:α}(h:Ab up a b):rk b≤rk a:=by
 induction h with
 | refl=>exact Nat.le_refl _
 | step e _ ih=>have:=T.lt _ _ e;omega
theorem Tr.Dc (T:Tr V up rk M root){a b:α}(h:Ab up a b)(k:Ab up b a):a=b:=by
 cases h with
 | refl=>rfl
 | step e h2 =>
  have:=T.lt _ _ e
  have:=T.le h2
  have:=T.le k
  omega
theorem Tr.rG (T:Tr V up rk M root):∀ (n:Nat) (v:α),rk v≤n→v∈V→Ab up v root:=by
 intro n
 induction n with
 | zero =>
  intro v hn hv
  cases e:up v with
  | none=>rw[T.rt v hv e];exact .refl _
  | some u=>have:=T.lt v u e;omega
 | succ n ih =>
  intro v hn hv
  cases e:up v with
  | none=>rw[T.rt v hv e];exact .refl _
  | some u=>have:=T.lt v u e;exact .step e (ih u (by omega) (T.inV v u e).2)
theorem Tr.sib (T:Tr V up rk M root){k c d p:α}(h1:Ab up k c)(h2:Ab up k d)(e1:up c=some p)(e2:up d=some p):c=d:=by
 have key:∀ {c d:α},Ab up c d→up c=some p→up d=some p→c=d:=fun {c d} h e1 e2=>by
  cases h with
  | refl=>rfl
  | step e h3 =>
   rw[e1] at e
   cases e
   have:=T.le h3
   have:=T.lt _ _ e2
   omega
 rcases h1.cmp h2 with h | h
 ·exact key h e1 e2
 ·exact(key h e2 e1).symm
noncomputable def Ess (up:α→Option α)(K:α→Prop)(v:α):Prop:=(∃ k,K k∧Ab up k v)∧∃ k,K k∧¬ Ab up k v
noncomputable def Ed (up:α→Option α)(K:α→Prop)(a b:α):Prop:=(up a=some b∧Ess up K a)∨(up b=some a∧Ess up K b)
theorem Ed.symm {a b:α}(h:Ed up K a b):Ed up K b a:=h.elim .inr .inl
theorem Ed.inV (T:Tr V up rk M root){a b:α}(h:Ed up K a b):a∈V∧b∈V:=by
 rcases h with ⟨e,_⟩ | ⟨e,_⟩
 ·exact T.inV _ _ e
 ·exact(T.inV _ _ e).symm
theorem Tr.two (T:Tr V up rk M root)(KV:∀ k,K k→k∈V){x y:α}(nk:¬ K x)(h:Ed up K x y):∃ z,z≠y∧Ed up K x z:=by
 rcases h with ⟨e,⟨k,hk,ak⟩,k2,hk2,n2⟩ | ⟨e,⟨k,hk,ak⟩,k2,hk2,n2⟩
 ·rcases ak.pred with rfl | ⟨c,ec,ac⟩
  ·exact absurd hk nk
  ·refine⟨c,fun z=>?_,.inr ⟨ec,⟨k,hk,ac⟩,k2,hk2,fun q=>n2 (q.snoc ec)⟩⟩
   subst z
   have:=T.lt _ _ ec
   have:=T.lt _ _ e
   omega
 ·by_cases c2:Ab up k2 x
  ·rcases c2.pred with rfl | ⟨c,ec,ac⟩
   ·exact absurd hk2 nk
   ·refine⟨c,fun z=>n2 (z ▸ ac),.inr ⟨ec,⟨k2,hk2,ac⟩,k,hk,fun q=>n2 ?_⟩⟩
    rw[← T.sib q ak ec e]
    exact ac
  ·cases ex:up x with
   | none =>
    have hx:=(T.inV _ _ e).2
    rw[T.rt x hx ex] at c2
    exact absurd (T.rG _ k2 (Nat.le_refl _) (KV k2 hk2)) c2
   | some p =>
    refine⟨p,fun z=>?_,.inl ⟨ex,⟨k,hk,ak.snoc e⟩,k2,hk2,c2⟩⟩
    subst z
    have:=T.lt _ _ ex
    have:=T.lt _ _ e
    omega
theorem w6 {W:Web}(O:WOk W){a k:Nd}(h:a≠k):lkW (dj W k) a=(lkW W a).filter fun l=>decide (l≠k):=by
 by_cases c:a∈az W
 ·obtain⟨t,ht,rfl⟩:=mem_keys.mp c
  rw[O.lk ht]
  exact(O.cut (k:=k)).lk (jx.mpr ⟨t,ht,h,rfl⟩)
 ·rw[cP c,cP (fun z=>c (by rw[gp] at z;exact(List.mem_filter.mp z).1))]
  rfl
theorem w8 {β:Type}{l:List β}(nd:l.Nodup)(h:¬ l.length≤1)(x:β):∃ y∈l,y≠x:=by
 match l,nd,h with
 | [],_,h=>exact absurd (Nat.zero_le _) h
 | [_],_,h=>exact absurd (Nat.le_refl _) h
 | a::b::r,nd,_ =>
  by_cases c:a=x
  ·refine⟨b,List.mem_cons_of_mem _ List.mem_cons_self,fun z=>?_⟩
   have:=(List.nodup_cons.mp nd).1
   rw[c,← z] at this
   exact this List.mem_cons_self
  ·exact⟨a,List.mem_cons_self,c⟩
structure Th (V:List α) (up:α→Option α) (K:α→Prop) (ι:α→Nd) (W:Web):Prop where
 ok:WOk W
 keys:∀ k∈az W,∃ a∈V,k=ι a
 lks:∀ a∈V,∀ k∈lkW W (ι a),∃ b∈V,k=ι b∧(up a=some b∨up b=some a)
 ess:∀ a b,Ed up K a b→ι b∈lkW W (ι a)
 kn:∀ a,K a→ι a∈az W
variable {ι:α→Nd}{W:Web}{ks:List (Int×Int)}
theorem Th.cut (T:Tr V up rk M root)(inj:∀ a∈V,∀ b∈V,ι a=ι b→a=b)(KV:∀ k,K k→k∈V)(h:Th V up K ι W){x:α}(hx:x∈V)(nk:¬ K x)(no:∀ y,¬ Ed up K x y):Th V up K ι (dj W (ι x)):=by
 have ne:∀ a b,Ed up K a b→ι a≠ι x:=fun a b q z=>by
  have:=inj a (Ed.inV T q).1 x hx z
  subst this
  exact no b q
 refine⟨h.ok.cut,fun k hk=>?_,fun a ha k hk=>?_,fun a b q=>?_,fun a ha=>?_⟩
 ·rw[gp] at hk
  exact h.keys k (List.mem_filter.mp hk).1
 ·by_cases c:ι a=ι x
  ·rw[c,cP (by rw[gp];intro z;exact of_decide_eq_true (List.mem_filter.mp z).2 rfl)] at hk
   exact absurd hk List.not_mem_nil
  ·rw[w6 h.ok c] at hk
   exact h.lks a ha k (List.mem_filter.mp hk).1
 ·rw[w6 h.ok (ne a b q)]
  exact List.mem_filter.mpr ⟨h.ess a b q,decide_eq_true (ne b a q.symm)⟩
 ·rw[gp]
  refine List.mem_filter.mpr ⟨h.kn a ha,decide_eq_true fun z=>?_⟩
  have:=inj a (KV a ha) x hx z
  subst this
  exact nk ha
theorem Th.fold (T:Tr V up rk M root)(inj:∀ a∈V,∀ b∈V,ι a=ι b→a=b)(KV:∀ k,K k→k∈V):∀ (l:List Nd) {W:Web},(∀ k∈l,∃ x∈V,k=ι x∧¬ K x∧∀ y,¬ Ed up K x y)→Th V up K ι W→Th V up K ι (l.foldl dj W)
 | [],_,_,h=>h
 | k::r,W,hl,h=>by
  obtain⟨x,hx,rfl,nk,no⟩:=hl k List.mem_cons_self
  exact Th.fold T inj KV r (fun k' hk=>hl k' (List.mem_cons_of_mem _ hk)) (h.cut T inj KV hx nk no)
theorem uK {k:Nd}(h:k∈aH W ks):∃ t∈W,t.1=k∧t.2.length≤1∧k ∉ ks.map pN:=by
 unfold aH at h
 obtain⟨t,ht,rfl⟩:=List.mem_map.mp h
 obtain⟨h1,h2⟩:=List.mem_filter.mp ht
 rw[Bool.and_eq_true,decide_eq_true_iff,Bool.not_eq_true',decide_eq_false_iff_not] at h2
 exact⟨t,h1,rfl,h2.1,h2.2⟩
theorem w9 {t:Nd×List Nd}(h:t∈W)(h1:t.2.length≤1)(h2:t.1 ∉ ks.map pN):t.1∈aH W ks:=by
 unfold aH
 refine List.mem_map.mpr ⟨t,List.mem_filter.mpr ⟨h,?_⟩,rfl⟩
 rw[Bool.and_eq_true,decide_eq_true_iff,Bool.not_eq_true',decide_eq_false_iff_not]
 exact⟨h1,h2⟩
theorem Th.spare (T:Tr V up rk M root)(inj:∀ a∈V,∀ b∈V,ι a=ι b→a=b)(KV:∀ k,K k→k∈V)(KK:∀ a∈V,(K a↔ι a∈ks.map pN))(h:Th V up K ι W):∀ k∈aH W ks,∃ x∈V,k=ι x∧¬ K x∧∀ y,¬ Ed up K x y:=fun k hk=>by
 obtain⟨t,ht,rfl,hl,hn⟩:=uK hk
 obtain⟨x,hx,e⟩:=h.keys t.1 (mem_keys.mpr ⟨t,ht,rfl⟩)
 have nk:¬ K x:=fun z=>hn (by rw[e];exact(KK x hx).mp z)
 refine⟨x,hx,e,nk,fun y hy=>?_⟩
 obtain⟨z,hz,ez⟩:=T.two KV nk hy
 have h1:=h.ess _ _ hy
 have h2:=h.ess _ _ ez
 rw[← e,h.ok.lk ht] at h1 h2
 exact hz (inj z (Ed.inV T ez).2 y (Ed.inV T hy).2 (yL h2 h1 hl))
theorem Th.dY (T:Tr V up rk M root)(inj:∀ a∈V,∀ b∈V,ι a=ι b→a=b)(KV:∀ k,K k→k∈V)(KK:∀ a∈V,(K a↔ι a∈ks.map pN)):∀ (n:Nat) {W:Web},Th V up K ι W→Th V up K ι (dY n W ks)
 | 0,_,h=>h
 | n+1,W,h=>by
  show Th V up K ι (if aH W ks=[] then W else _)
  split
  ·exact h
  ·exact Th.dY T inj KV KK n (h.fold T inj KV _ (h.spare T inj KV KK))
theorem Th.more (KK:∀ a∈V,(K a↔ι a∈ks.map pN))(h:Th V up K ι W)(hs:aH W ks=[]){v p:α}(hv:v∈V)(nk:¬ K v)(hp:ι p∈lkW W (ι v)):∃ b∈V,ι b∈lkW W (ι v)∧ι b≠ι p∧(up v=some b∨up b=some v):=by
 obtain⟨t,ht,e⟩:=mem_keys.mp (h.ok.lkk hp).2.2
 have nl:¬ t.2.length≤1:=fun z=>by
  have:=w9 ht z (ks:=ks) (by rw[e];exact fun q=>nk ((KK v hv).mpr q))
  rw[hs] at this
  exact absurd this List.not_mem_nil
 obtain⟨k,hk,ne⟩:=w8 (h.ok.nl t ht) nl (ι p)
 rw[← h.ok.lk ht,e] at hk
 obtain⟨b,hb,rfl,r⟩:=h.lks v hv k hk
 exact⟨b,hb,hk,ne,r⟩
theorem Th.down (T:Tr V up rk M root)(KK:∀ a∈V,(K a↔ι a∈ks.map pN))(h:Th V up K ι W)(hs:aH W ks=[]):∀ (n:Nat) (v p:α),M-rk v≤n→up v=some p→ι p∈lkW W (ι v)→∃ k,K k∧Ab up k v:=by
 intro n
 induction n with
 | zero =>
  intro v p hn e hp
  by_cases c:K v
  ·exact⟨v,c,.refl v⟩
  ·have hv:=(T.inV v p e).1
   obtain⟨b,hb,h1,h2,r | r⟩:=h.more KK hs hv c hp
   ·rw[e] at r;cases r;exact absurd rfl h2
   ·have:=T.lt b v r
    have:=T.mx b hb
    omega
 | succ n ih =>
  intro v p hn e hp
  by_cases c:K v
  ·exact⟨v,c,.refl v⟩
  ·have hv:=(T.inV v p e).1
   obtain⟨b,hb,h1,h2,r | r⟩:=h.more KK hs hv c hp
   ·rw[e] at r;cases r;exact absurd rfl h2
   ·have:=T.lt b v r
    have:=T.mx b hb
    obtain⟨k,hk,ak⟩:=ih b v (by omega) r (h.ok.lkk h1).1
    exact⟨k,hk,ak.snoc r⟩
theorem Th.out (T:Tr V up rk M root)(KK:∀ a∈V,(K a↔ι a∈ks.map pN))(h:Th V up K ι W)(hs:aH W ks=[]):∀ (n:Nat) (v p:α),rk p≤n→up v=some p→ι p∈lkW W (ι v)→∃ k,K k∧¬ Ab up k v:=by
 have base:∀ (v p:α),up v=some p→K p→∃ k,K k∧¬ Ab up k v:=fun v p e c=>⟨p,c,fun q=>by
  have:=T.le q
  have:=T.lt v p e
  omega⟩
 have side:∀ (v p b:α),up v=some p→up b=some p→ι b≠ι v→ι b∈lkW W (ι p)→∃ k,K k∧¬ Ab up k v:=fun v p b e r ne hb=>by
  obtain⟨k,hk,ak⟩:=h.down T KK hs _ b p (Nat.le_refl _) r (h.ok.lkk hb).1
  exact⟨k,hk,fun q=>ne (by rw[T.sib ak q r e])⟩
 intro n
 induction n with
 | zero =>
  intro v p hn e hp
  by_cases c:K p
  ·exact base v p e c
  ·obtain⟨b,hb,h1,h2,r | r⟩:=h.more KK hs (T.inV v p e).2 c (h.ok.lkk hp).1
   ·have:=T.lt p b r;omega
   ·exact side v p b e r h2 h1
 | succ n ih =>
  intro v p hn e hp
  by_cases c:K p
  ·exact base v p e c
  ·obtain⟨b,hb,h1,h2,r | r⟩:=h.more KK hs (T.inV v p e).2 c (h.ok.lkk hp).1
   ·have:=T.lt p b r
    obtain⟨k,hk,nk⟩:=ih p b (by omega) r h1
    exact⟨k,hk,fun q=>nk (q.snoc e)⟩
   ·exact side v p b e r h2 h1
theorem Th.iff (T:Tr V up rk M root)(inj:∀ a∈V,∀ b∈V,ι a=ι b→a=b)(KK:∀ a∈V,(K a↔ι a∈ks.map pN))(h:Th V up K ι W)(hs:aH W ks=[]){a b:α}(ha:a∈V)(hb:b∈V):ι b∈lkW W (ι a)↔Ed up K a b:=by
 refine⟨fun q=>?_,fun q=>h.ess a b q⟩
 obtain⟨b',hb',e,r⟩:=h.lks a ha _ q
 have:=inj b hb b' hb' e
 subst this
 rcases r with r | r
 ·exact .inl ⟨r,h.down T KK hs _ a b (Nat.le_refl _) r q,h.out T KK hs _ a b (Nat.le_refl _) r q⟩
 ·have q':=(h.ok.lkk q).1
  exact .inr ⟨r,h.down T KK hs _ b a (Nat.le_refl _) r q',h.out T KK hs _ b a (Nat.le_refl _) r q'⟩
noncomputable def cL (up:α→Option α):Nat→α→List α
 | 0,_=>[]
 | n+1,v=>v::(match up v with
  | none=>[]
  | some u=>cL up n u)
theorem eK (T:Tr V up rk M root):∀ (n:Nat) (v w:α),rk v<n→(w∈cL up n v↔Ab up v w):=by
 intro n
 induction n with
 | zero=>intro v w h;omega
 | succ n ih =>
  intro v w h
  unfold cL
  cases e:up v with
  | none =>
   dsimp only
   constructor
   ·intro q
    rw[List.mem_singleton.mp q]
    exact .refl _
   ·intro q
    cases q with
    | refl=>exact List.mem_cons_self
    | step e' _=>rw[e] at e';cases e'
  | some u =>
   dsimp only
   have:=T.lt v u e
   rw[List.mem_cons,ih u w (by omega)]
   constructor
   ·rintro(rfl | q)
    ·exact .refl _
    ·exact .step e q
   ·intro q
    cases q with
    | refl=>exact .inl rfl
    | step e' q=>rw[e] at e';cases e';exact .inr q
theorem nu (T:Tr V up rk M root):∀ (n:Nat) (v t:α) (pre post:List α),rk v<n→cL up n v=pre++t::post→(∀ x∈pre,Ab up x t)∧(∀ x∈t::post,Ab up t x)∧∀ q x r p,pre=q++x::r→up x=some p→∃ r',r++[t]=p::r':=by
 intro n
 induction n with
 | zero=>intro v t pre post h;omega
 | succ n ih =>
  intro v t pre post h e
  cases pre with
  | nil =>
   have e0:cL up (n+1) v=t::post:=e
   have ev:v=t:=by unfold cL at e0;exact(List.cons.inj e0).1
   subst ev
   refine⟨fun x hx=>absurd hx List.not_mem_nil,fun x hx=>?_,fun q x r p z=>by cases q <;> cases z⟩
   rw[← e0] at hx
   exact(eK T (n+1) v x h).mp hx
  | cons a pre =>
   unfold cL at e
   obtain⟨e1,e2⟩:=List.cons.inj (show v::_=a::(pre++t::post) from e)
   subst e1
   cases eu:up v with
   | none=>rw[eu] at e2;cases pre <;> cases e2
   | some u =>
    rw[eu] at e2
    have e2:cL up n u=pre++t::post:=e2
    have lt:=T.lt v u eu
    obtain⟨i1,i2,i3⟩:=ih u t pre post (by omega) e2
    have ut:Ab up u t:=(eK T n u t (by omega)).mp (by rw[e2];simp)
    refine⟨fun x hx=>?_,i2,fun q x r p z ex=>?_⟩
    ·rcases List.mem_cons.mp hx with rfl | hx
     ·exact .step eu ut
     ·exact i1 x hx
    ·cases q with
     | nil =>
      obtain⟨z1,z2⟩:=List.cons.inj (show v::pre=x::r from z)
      subst z1 z2
      rw[eu] at ex
      cases ex
      cases n with
      | zero=>omega
      | succ n =>
       unfold cL at e2
       cases pre with
       | nil=>exact⟨[],by rw[(List.cons.inj (show u::_=t::post from e2)).1];rfl⟩
       | cons b pre=>exact⟨pre++[t],by rw[(List.cons.inj (show u::_=b::(pre++t::post) from e2)).1];rfl⟩
     | cons y q =>
      obtain⟨z1,z2⟩:=List.cons.inj (show v::pre=y::(q++x::r) from z)
      exact i3 q x r p z2 ex
end
end Mir

namespace Mir
open PySem L2 NK
section
variable {β:Type}[DecidableEq β]
noncomputable def cH (x:β):List β→Nat
 | []=>0
 | y::r=>if y=x then 0 else cH x r+1
noncomputable def btw (one two:List β):List β:=match one.filter (fun x=>decide (x∈two)) with
 | []=>one++two.reverse
 | top::_=>one.take (cH top one+1)++(two.take (cH top two)).reverse
theorem lU {p:β→Bool}:∀ {l:List β} {t:β} {r:List β},l.filter p=t::r→∃ pre post,l=pre++t::post∧(∀ x∈pre,p x=false)∧p t=true
 | [],_,_,h=>by cases h
 | y::l,t,r,h=>by
  by_cases c:p y=true
  ·rw[List.filter_cons_of_pos c] at h
   cases h
   exact⟨[],l,rfl,fun x hx=>absurd hx List.not_mem_nil,c⟩
  ·rw[List.filter_cons_of_neg c] at h
   obtain⟨pre,post,rfl,h2,h3⟩:=lU h
   refine⟨y::pre,post,rfl,fun x hx=>?_,h3⟩
   rcases List.mem_cons.mp hx with rfl | hx
   ·exact Bool.eq_false_iff.mpr c
   ·exact h2 x hx
theorem lV {t:β}:∀ {pre post:List β},t ∉ pre→cH t (pre++t::post)=pre.length
 | [],_,_=>by show (if t=t then 0 else _)=0;rw[if_pos rfl]
 | y::pre,post,h=>by
  have ne:y≠t:=fun z=>h (by rw[z];exact List.mem_cons_self)
  show (if y=t then 0 else cH t (pre++t::post)+1)=pre.length+1
  rw[if_neg ne,lV fun z=>h (List.mem_cons_of_mem _ z)]
theorem nB {t:β}:∀ {l:List β},t∈l→∃ pre post,l=pre++t::post∧t ∉ pre
 | [],h=>absurd h List.not_mem_nil
 | y::l,h=>by
  by_cases c:y=t
  ·subst c
   exact⟨[],l,rfl,List.not_mem_nil⟩
  ·obtain⟨pre,post,rfl,n⟩:=nB (List.mem_of_ne_of_mem (Ne.symm c) h)
   refine⟨y::pre,post,rfl,fun z=>?_⟩
   rcases List.mem_cons.mp z with z | z
   ·exact c z.symm
   ·exact n z
theorem AX {pre post gF jB:List β}{top:β}(h1:∀ x∈pre,x ∉ gF++top::jB)(h2:top ∉ gF):btw (pre++top::post) (gF++top::jB)=pre++top::gF.reverse:=by
 have ht:top∈gF++top::jB:=by simp
 have np:top ∉ pre:=fun z=>h1 top z ht
 have e:∃ r,(pre++top::post).filter (fun x=>decide (x∈gF++top::jB))=top::r:=by
  rw[List.filter_append,List.filter_eq_nil_iff.mpr fun x hx=>by rw[decide_eq_false (h1 x hx)];decide,List.nil_append,List.filter_cons_of_pos (p:=fun x=>decide (x∈gF++top::jB)) (decide_eq_true ht)]
  exact⟨_,rfl⟩
 obtain⟨r,er⟩:=e
 unfold btw
 rw[er]
 dsimp only
 rw[lV np,lV h2,List.take_append,List.take_append,List.take_of_length_le (show pre.length≤pre.length+1 by omega),List.take_of_length_le (Nat.le_refl _)]
 simp
theorem AY {one two:List β}(h:∀ x∈one,x ∉ two):btw one two=one++two.reverse:=by
 unfold btw
 rw[List.filter_eq_nil_iff.mpr fun x hx=>by rw[decide_eq_false (h x hx)];decide]
theorem yU {pre post two:List β}{top:β}(h1:∀ x∈pre,x ∉ two)(h2:top∈two):btw (pre++top::post) two=(pre++top::post).take (cH top (pre++top::post)+1)++(two.take (cH top two)).reverse:=by
 have e:∃ r,(pre++top::post).filter (fun x=>decide (x∈two))=top::r:=by
  rw[List.filter_append,List.filter_eq_nil_iff.mpr fun x hx=>by rw[decide_eq_false (h1 x hx)];decide,List.nil_append,List.filter_cons_of_pos (p:=fun x=>decide (x∈two)) (decide_eq_true h2)]
  exact⟨_,rfl⟩
 obtain⟨r,er⟩:=e
 unfold btw
 rw[er]
theorem xa {t:β}:∀ {l:List β},t∈l→cH t l<l.length
 | [],h=>absurd h List.not_mem_nil
 | y::l,h=>by
  show (if y=t then 0 else cH t l+1)<l.length+1
  by_cases c:y=t
  ·rw[if_pos c];omega
  ·rw[if_neg c]
   have:=xa (List.mem_of_ne_of_mem (Ne.symm c) h)
   omega
theorem rH {t:β}:∀ {l:List β},t∈l→l[cH t l]?=some t∧∀ i,i<cH t l→l[i]?≠some t
 | [],h=>absurd h List.not_mem_nil
 | y::l,h=>by
  show (y::l)[if y=t then 0 else cH t l+1]?=some t∧∀ i,i<(if y=t then 0 else cH t l+1)→(y::l)[i]?≠some t
  by_cases c:y=t
  ·rw[if_pos c]
   exact⟨by rw[c];rfl,fun i hi=>by omega⟩
  ·rw[if_neg c]
   obtain⟨h1,h2⟩:=rH (List.mem_of_ne_of_mem (Ne.symm c) h)
   refine⟨h1,fun i hi e=>?_⟩
   cases i with
   | zero=>exact c (Option.some.inj e)
   | succ i=>exact h2 i (by omega) e
end
noncomputable def Nx {β:Type}(l:List β)(a b:β):Prop:=∃ m,l[m]?=some a∧l[m+1]?=some b
section
variable {β:Type}
theorem xb {p q:List β}{a b:β}:Nx (p++a::b::q) a b:=⟨p.length,by simp,by rw[List.getElem?_append_right (by omega)];simp⟩
theorem rJ {xs ys:List β}{a b:β}(h:Nx xs a b):Nx (xs++ys) a b:=by
 obtain⟨m,h1,h2⟩:=h
 have:=(List.getElem?_eq_some_iff.mp h1).1
 have:=(List.getElem?_eq_some_iff.mp h2).1
 exact⟨m,by rw[List.getElem?_append_left (by omega)];exact h1,by rw[List.getElem?_append_left (by omega)];exact h2⟩
theorem qi {xs ys:List β}{t a b:β}(h:Nx (xs++t::ys) a b):Nx (xs++[t]) a b∨Nx (t::ys) a b:=by
 obtain⟨m,h1,h2⟩:=h
 by_cases c:m+1≤xs.length
 ·left
  refine⟨m,?_,?_⟩
  ·rw[List.getElem?_append_left (by omega)] at h1 ⊢;exact h1
  ·by_cases d:m+1<xs.length
   ·rw[List.getElem?_append_left d] at h2 ⊢;exact h2
   ·rw[List.getElem?_append_right (by omega),show m+1-xs.length=0 by omega] at h2 ⊢;exact h2
 ·right
  refine⟨m-xs.length,?_,?_⟩
  ·rw[List.getElem?_append_right (by omega)] at h1;exact h1
  ·rw[List.getElem?_append_right (by omega),show m+1-xs.length=m-xs.length+1 by omega] at h2;exact h2
theorem AZ {l:List β}{a b:β}(h:Nx l.reverse a b):Nx l b a:=by
 obtain⟨m,h1,h2⟩:=h
 have l1:=(List.getElem?_eq_some_iff.mp h1).1
 have l2:=(List.getElem?_eq_some_iff.mp h2).1
 rw[List.length_reverse] at l1 l2
 rw[List.getElem?_reverse (by omega)] at h1 h2
 exact⟨l.length-1-(m+1),h2,by rw[show l.length-1-(m+1)+1=l.length-1-m by omega];exact h1⟩
theorem xc {pre:List β}{t a b:β}(h:Nx (pre++[t]) a b):a∈pre:=by
 obtain⟨m,h1,h2⟩:=h
 have l2:=(List.getElem?_eq_some_iff.mp h2).1
 rw[List.length_append,List.length_singleton] at l2
 rw[List.getElem?_append_left (by omega)] at h1
 exact List.mem_of_getElem? h1
end
section
variable {α:Type}{up:α→Option α}{rk:α→Nat}{V:List α}{M:Nat}{root:α}{K:α→Prop}
theorem xf:∀ (n:Nat) (v a b:α),Nx (cL up n v) a b→up a=some b:=by
 intro n
 induction n with
 | zero=>intro v a b ⟨m,h,_⟩;simp[cL] at h
 | succ n ih =>
  intro v a b ⟨m,h1,h2⟩
  unfold cL at h1 h2
  cases m with
  | zero =>
   cases h1
   cases e:up v with
   | none=>rw[e] at h2;simp at h2
   | some u =>
    rw[e] at h2
    have h2:(cL up n u)[0]?=some b:=h2
    cases n with
    | zero=>simp[cL] at h2
    | succ n=>unfold cL at h2;cases h2;rfl
  | succ m =>
   cases e:up v with
   | none=>rw[e] at h1;simp at h1
   | some u =>
    rw[e] at h1 h2
    exact ih u a b ⟨m,h1,h2⟩
theorem iz:∀ (n:Nat) (v:α),(cL up n v).length≤n
 | 0,_=>Nat.le_refl _
 | n+1,v=>by
  unfold cL
  cases up v with
  | none=>show 1≤n+1;omega
  | some u=>have:=iz n u;show (cL up n u).length+1≤n+1;omega
theorem xg (T:Tr V up rk M root)(KV:∀ k,K k→k∈V){ι:α→Nd}(inj:∀ a b,ι a=ι b→a=b){n:Nat}(hn:M<n){k1 k2:α}(h1:K k1)(h2:K k2):∃ P:List α,btw ((cL up n k1).map ι) ((cL up n k2).map ι)=P.map ι∧P.length≤2*n∧P≠[]∧(∀ a b,Nx P a b→Ed up K a b)∧∀ v p,up v=some p→Ab up k1 v→¬ Ab up k2 v→Nx P v p:=by
 have r1:rk k1<n:=Nat.lt_of_le_of_lt (T.mx k1 (KV k1 h1)) hn
 have r2:rk k2<n:=Nat.lt_of_le_of_lt (T.mx k2 (KV k2 h2)) hn
 have l1:=iz (up:=up) n k1
 have l2:=iz (up:=up) n k2
 have rt1:ι root∈(cL up n k1).map ι:=List.mem_map.mpr ⟨root,(eK T n k1 root r1).mpr (T.rG _ k1 (Nat.le_refl _) (KV k1 h1)),rfl⟩
 have rt2:ι root∈(cL up n k2).map ι:=List.mem_map.mpr ⟨root,(eK T n k2 root r2).mpr (T.rG _ k2 (Nat.le_refl _) (KV k2 h2)),rfl⟩
 cases ef:((cL up n k1).map ι).filter (fun x=>decide (x∈(cL up n k2).map ι)) with
 | nil=>exact absurd (List.filter_eq_nil_iff.mp ef _ rt1) (by rw[decide_eq_true rt2];exact fun z=>z rfl)
 | cons t r =>
  obtain⟨Eb,DZ,e1,d1,d2⟩:=lU ef
  obtain⟨D0,Dd,e2,n2⟩:=nB (of_decide_eq_true d2)
  rw[e1,e2,AX (fun x hx=>by have:=of_decide_eq_false (d1 x hx);rw[e2] at this;exact this) n2]
  obtain⟨pre,q,w1,rfl,w3⟩:=List.map_eq_append_iff.mp e1
  obtain⟨top,post,rfl,rfl,rfl⟩:=List.map_eq_cons_iff.mp w3
  obtain⟨gF,q2,v1,rfl,v3⟩:=List.map_eq_append_iff.mp e2
  obtain⟨top2,jB,rfl,et,rfl⟩:=List.map_eq_cons_iff.mp v3
  have:=inj _ _ et
  subst this
  have dis:∀ x∈pre,¬ Ab up k2 x:=fun x hx q=>by
   have:=of_decide_eq_false (d1 (ι x) (List.mem_map.mpr ⟨x,hx,rfl⟩))
   exact this (List.mem_map.mpr ⟨x,(eK T n k2 x r2).mpr q,rfl⟩)
  have nt:top2 ∉ gF:=fun z=>n2 (List.mem_map.mpr ⟨_,z,rfl⟩)
  obtain⟨s1,s2,s3⟩:=nu T n k1 top2 pre post r1 w1
  obtain⟨u1,u2,u3⟩:=nu T n k2 top2 gF jB r2 v1
  have a1:Ab up k1 top2:=(eK T n k1 top2 r1).mp (by rw[w1];simp)
  have a2:Ab up k2 top2:=(eK T n k2 top2 r2).mp (by rw[v1];simp)
  have De:∀ x∈gF,¬ Ab up k1 x:=fun x hx q=>by
   have hm:=(eK T n k1 x r1).mpr q
   rw[w1] at hm
   rcases List.mem_append.mp hm with hm | hm
   ·exact dis x hm ((eK T n k2 x r2).mp (by rw[v1];exact List.mem_append_left _ hx))
   ·exact nt (by rw[T.Dc (s2 x hm) (u1 x hx)];exact hx)
  have p1:∀ a b,Nx (pre++[top2]) a b→Ed up K a b:=fun a b h=>by
   have hm:=xc h
   have e:=xf n k1 a b (by rw[w1,show pre++top2::post=(pre++[top2])++post by simp];exact rJ h)
   exact .inl ⟨e,⟨k1,h1,(eK T n k1 a r1).mp (by rw[w1];exact List.mem_append_left _ hm)⟩,k2,h2,dis a hm⟩
  have p2:∀ a b,Nx (gF++[top2]) a b→Ed up K a b:=fun a b h=>by
   have hm:=xc h
   have e:=xf n k2 a b (by rw[v1,show gF++top2::jB=(gF++[top2])++jB by simp];exact rJ h)
   exact .inl ⟨e,⟨k2,h2,(eK T n k2 a r2).mp (by rw[v1];exact List.mem_append_left _ hm)⟩,k1,h1,De a hm⟩
  rw[w1] at l1
  rw[v1] at l2
  rw[List.length_append,List.length_cons] at l1 l2
  refine⟨pre++top2::gF.reverse,by rw[List.map_append,List.map_cons,List.map_reverse],by rw[List.length_append,List.length_cons,List.length_reverse];omega,by simp,fun a b h=>?_,fun v p e hv nv=>?_⟩
  ·rcases qi h with h | h
   ·exact p1 a b h
   ·refine(p2 b a (AZ ?_)).symm
    rw[List.reverse_append]
    exact h
  ·have hm:=(eK T n k1 v r1).mpr hv
   rw[w1] at hm
   rcases List.mem_append.mp hm with hm | hm
   ·obtain⟨q,r,rfl⟩:=List.append_of_mem hm
    obtain⟨r',er⟩:=s3 q v r p rfl e
    have:q++v::r++top2::gF.reverse=(q++v::p::r')++gF.reverse:=by
     rw[show q++v::r++top2::gF.reverse=q++v::(r++[top2])++gF.reverse by simp,er]
    rw[this]
    exact rJ xb
   ·exact absurd (a2.trans (s2 v hm)) nv
structure Rp (X:Web) (ι:α→Nd) (V:List α) (E:α→α→Prop):Prop where
 nd:∀ a∈V,(lkW X (ι a)).Nodup
 lk:∀ a∈V,∀ k,k∈lkW X (ι a)↔∃ b∈V,k=ι b∧E a b
variable {E:α→α→Prop}{ι κ:α→Nd}{X Y:Web}
theorem zD:∀ {l:List Nd} {Q:α→Prop},(∀ k∈l,∃ b∈V,k=ι b∧Q b)→∃ bs:List α,l=bs.map ι∧∀ b∈bs,b∈V∧Q b
 | [],_,_=>⟨[],rfl,fun b h=>absurd h List.not_mem_nil⟩
 | k::r,Q,h=>by
  obtain⟨b,hb,rfl,q⟩:=h k List.mem_cons_self
  obtain⟨bs,e,g⟩:=zD (l:=r) (Q:=Q) fun k' hk=>h k' (List.mem_cons_of_mem _ hk)
  refine⟨b::bs,by rw[e];rfl,fun x hx=>?_⟩
  rcases List.mem_cons.mp hx with rfl | hx
  ·exact⟨hb,q⟩
  ·exact g x hx
theorem Rp.le (h:Rp X ι V E)(g:Rp Y κ V E)(inj:∀ a∈V,∀ b∈V,κ a=κ b→a=b){a:α}(ha:a∈V):(lkW X (ι a)).length≤(lkW Y (κ a)).length:=by
 obtain⟨bs,e,q⟩:=zD (V:=V) (ι:=ι) (Q:=E a) fun k hk=>(h.lk a ha k).mp hk
 have nd:=h.nd a ha
 rw[e] at nd ⊢
 rw[List.length_map,← List.length_map (f:=κ)]
 refine fb ?_ fun k hk=>?_
 ·unfold List.Nodup at nd ⊢
  rw[List.pairwise_map] at nd ⊢
  rw[List.pairwise_iff_getElem] at nd ⊢
  intro i j hi hj hij z
  exact nd i j hi hj hij (by rw[inj _ (q _ (List.getElem_mem hi)).1 _ (q _ (List.getElem_mem hj)).1 z])
 ·obtain⟨b,hb,rfl⟩:=List.mem_map.mp hk
  exact(g.lk a ha _).mpr ⟨b,(q b hb).1,rfl,(q b hb).2⟩
theorem Rp.len (h:Rp X ι V E)(g:Rp Y κ V E)(inj:∀ a∈V,∀ b∈V,ι a=ι b→a=b)(qj:∀ a∈V,∀ b∈V,κ a=κ b→a=b){a:α}(ha:a∈V):(lkW X (ι a)).length=(lkW Y (κ a)).length :=
 Nat.le_antisymm (h.le g qj ha) (g.le h inj ha)
noncomputable def lgR (W:Web):Nat→Option Nd→List Nd→List Nd
 | 0,_,seen=>seen
 | _+1,none,seen=>seen
 | n+1,some v,seen=>if (lkW W v).length<3 then lgR W n (((lkW W v).filter fun l=>!decide (l∈seen++[v])).head?) (seen++[v]) else seen
theorem Path.new {W:Web}(O:WOk W){vs:List Nd}(P:Path W vs){p x:Nd}(hp:vs.getLast?=some p)(hx:x∈lkW W p)(hq:∀ q,2≤vs.length→vs[vs.length-2]?=some q→x≠q):x ∉ vs:=by
 obtain⟨ys,rfl⟩:=List.getLast?_eq_some_iff.mp hp
 have el:(ys++[p]).length=ys.length+1:=by rw[List.length_append];rfl
 have ep:(ys++[p])[ys.length]?=some p:=by rw[List.getElem?_append_right (Nat.le_refl _),Nat.sub_self];rfl
 have sy:=O.lkk hx
 have inj:∀ {i j:Nat} {a:Nd},(ys++[p])[i]?=some a→(ys++[p])[j]?=some a→i=j:=fun {i j a} h1 h2=>(List.getElem?_inj (List.getElem?_eq_some_iff.mp h1).1 P.nd).mp (h1.trans h2.symm)
 intro hm
 obtain⟨i,hi,e⟩:=List.getElem_of_mem hm
 have ei:(ys++[p])[i]?=some x:=by rw[List.getElem?_eq_getElem hi,e]
 rw[el] at hi
 by_cases c1:i=ys.length
 ·subst c1
  cases ep.symm.trans ei
  exact O.rm p hx
 ·by_cases c2:i+1=ys.length
  ·refine hq x (by omega) ?_ rfl
   rw[el,show ys.length+1-2=i by omega]
   exact ei
  ·have en:=List.getElem?_eq_getElem (l:=ys++[p]) (i:=i+1) (by rw[el];omega)
   have hn:=P.adj i _ _ ei en
   by_cases c0:i=0
   ·subst c0
    have:=yL hn sy.1 (P.d0 _ ei)
    rw[this] at en
    have:=inj en ep
    omega
   ·have eb:=List.getElem?_eq_getElem (l:=ys++[p]) (i:=i-1) (by rw[el];omega)
    have hb:=P.adj (i-1) _ _ eb (by rw[show i-1+1=i by omega];exact ei)
    have hb2:=(O.lkk hb).1
    refine rq hb2 hn sy.1 (P.deg x hm) (fun z=>?_) (fun z=>?_) (fun z=>?_)
    ·rw[z] at eb;have:=inj eb en;omega
    ·rw[z] at eb;have:=inj eb ep;omega
    ·rw[z] at en;have:=inj en ep;omega
theorem qk {inj:∀ a∈V,∀ b∈V,ι a=ι b→a=b}{vs:List α}(hv:∀ v∈vs,v∈V){x:α}(hx:x∈V):ι x∈vs.map ι↔x∈vs:=by
 constructor
 ·intro h
  obtain⟨y,hy,e⟩:=List.mem_map.mp h
  rw[← inj y (hv y hy) x hx e]
  exact hy
 ·exact fun h=>List.mem_map.mpr ⟨x,h,rfl⟩
theorem xh (O:WOk X)(h:Rp X ι V E)(g:Rp Y κ V E)(inj:∀ a∈V,∀ b∈V,ι a=ι b→a=b)(qj:∀ a∈V,∀ b∈V,κ a=κ b→a=b):∀ (n:Nat) (vs:List α) (p:α) (on ah:List Nd),vs.getLast?=some p→Path X (vs.map ι)→(∀ v∈vs,v∈V)→n+vs.length=X.length+1 →
  (∀ k,k∈on↔k∈lkW X (ι p)∧k ∉ vs.map ι)→(∀ k,k∈ah↔k∈lkW Y (κ p)∧k ∉ vs.map κ)→∀ m,n≤m→∃ us:List α,(∀ u∈us,u∈V)∧qd X n (ι p) on (vs.map ι)=us.map ι∧lgR Y m ah.head? (vs.map κ)=us.map κ:=by
 intro n
 induction n with
 | zero =>
  intro vs p on ah hp P hv hl
  have:=P.len
  rw[List.length_map] at this
  omega
 | succ n ih =>
  intro vs p on ah hp P hv hl hon hah m hm
  obtain⟨m,rfl⟩:∃ m',m=m'+1:=⟨m-1,by omega⟩
  have pV:p∈V:=hv p (List.mem_of_getLast? hp)
  have mx:∀ {x:α},x∈V→(ι x∈vs.map ι↔x∈vs):=fun hx=>qk (inj:=inj) hv hx
  have mk':∀ {x:α},x∈V→(κ x∈vs.map κ↔x∈vs):=fun hx=>qk (inj:=qj) hv hx
  have con:∀ k,k∈on↔∃ b∈V,k=ι b∧E p b∧b ∉ vs:=fun k=>by
   rw[hon,h.lk p pV]
   constructor
   ·rintro⟨⟨b,hb,rfl,e⟩,q⟩
    exact⟨b,hb,rfl,e,fun z=>q ((mx hb).mpr z)⟩
   ·rintro⟨b,hb,rfl,e,q⟩
    exact⟨⟨b,hb,rfl,e⟩,fun z=>q ((mx hb).mp z)⟩
  have cah:∀ k,k∈ah↔∃ b∈V,k=κ b∧E p b∧b ∉ vs:=fun k=>by
   rw[hah,g.lk p pV]
   constructor
   ·rintro⟨⟨b,hb,rfl,e⟩,q⟩
    exact⟨b,hb,rfl,e,fun z=>q ((mk' hb).mpr z)⟩
   ·rintro⟨b,hb,rfl,e,q⟩
    exact⟨⟨b,hb,rfl,e⟩,fun z=>q ((mk' hb).mp z)⟩
  have uniq:∀ x∈V,∀ y∈V,E p x→x ∉ vs→E p y→y ∉ vs→x=y:=fun x hx y hy e1 n1 e2 n2=>by
   have k1:=(h.lk p pV (ι x)).mpr ⟨x,hx,rfl,e1⟩
   have k2:=(h.lk p pV (ι y)).mpr ⟨y,hy,rfl,e2⟩
   by_cases c:vs.length=1
   ·obtain⟨z,rfl⟩:=List.length_eq_one_iff.mp c
    cases hp
    exact inj x hx y hy (yL k1 k2 (P.d0 _ rfl))
   ·have hne:vs≠[]:=fun z=>by rw[z] at hp;cases hp
    have hl2:2≤vs.length:=by have:=List.length_pos_iff.mpr hne;omega
    have eq2:=List.getElem?_eq_getElem (l:=vs) (i:=vs.length-2) (by omega)
    have B2:vs[vs.length-1]?=some p:=by rw[← List.getLast?_eq_getElem?];exact hp
    have ad:=P.adj (vs.length-2) (ι (vs[vs.length-2]'(by omega))) (ι p) (by rw[List.getElem?_map,eq2];rfl) (by rw[show vs.length-2+1=vs.length-1 by omega,List.getElem?_map,B2];rfl)
    have bk:=(O.lkk ad).1
    have hm2:vs[vs.length-2]'(by omega)∈vs:=List.getElem_mem _
    by_cases cc:x=y
    ·exact cc
    ·exact(rq k1 k2 bk (P.deg _ (List.mem_map.mpr ⟨p,List.mem_of_getLast? hp,rfl⟩)) (fun z=>cc (inj x hx y hy z)) (fun z=>n1 (by rw[inj x hx _ (hv _ hm2) z];exact hm2)) (fun z=>n2 (by rw[inj y hy _ (hv _ hm2) z];exact hm2))).elim
  cases eo:on with
  | nil =>
   have ea:ah=[]:=by
    cases ea:ah with
    | nil=>rfl
    | cons k r =>
     obtain⟨b,hb,rfl,e,q⟩:=(cah k).mp (by rw[ea];exact List.mem_cons_self)
     have:=(con (ι b)).mpr ⟨b,hb,rfl,e,q⟩
     rw[eo] at this
     exact absurd this List.not_mem_nil
   subst ea
   exact⟨vs,hv,rfl,rfl⟩
  | cons t r =>
   obtain⟨x,hx,rfl,ex,nx⟩:=(con t).mp (by rw[eo];exact List.mem_cons_self)
   have hax:=(cah (κ x)).mpr ⟨x,hx,rfl,ex,nx⟩
   have eh:ah.head?=some (κ x):=by
    cases ea:ah with
    | nil=>rw[ea] at hax;exact absurd hax List.not_mem_nil
    | cons k r =>
     obtain⟨b,hb,rfl,e,q⟩:=(cah k).mp (by rw[ea];exact List.mem_cons_self)
     rw[uniq b hb x hx e q ex nx]
     rfl
   have ed:=h.len g inj qj hx
   have kx:=(h.lk p pV (ι x)).mpr ⟨x,hx,rfl,ex⟩
   rw[eh]
   show ∃ us:List α,(∀ u∈us,u∈V)∧(if (lkW X (ι x)).length≤2 then qd X n (ι x) ((lkW X (ι x)).filter fun l=>decide (l≠ι p)) (vs.map ι++[ι x]) else vs.map ι)=us.map ι∧(if (lkW Y (κ x)).length<3 then lgR Y m (((lkW Y (κ x)).filter fun l=>!decide (l∈vs.map κ++[κ x])).head?) (vs.map κ++[κ x]) else vs.map κ)=us.map κ
   have nin:ι x ∉ vs.map ι:=fun z=>nx ((mx hx).mp z)
   by_cases c:(lkW X (ι x)).length≤2
   ·rw[if_pos c,if_pos (by omega)]
    have hp':(vs.map ι).getLast?=some (ι p):=by rw[List.getLast?_map,hp];rfl
    have P2:Path X ((vs++[x]).map ι):=by
     rw[List.map_append]
     refine P.snoc O hp' kx (fun q hl2 eq z=>nin ?_) c
     rw[z]
     exact List.mem_of_getElem? eq
    have h2:(vs++[x]).getLast?=some x:=by simp
    have hv2:∀ v∈vs++[x],v∈V:=fun v hm=>by
     rcases List.mem_append.mp hm with hm | hm
     ·exact hv v hm
     ·rw[List.mem_singleton.mp hm];exact hx
    have w1:∀ k,k∈((lkW X (ι x)).filter fun l=>decide (l≠ι p))↔k∈lkW X (ι x)∧k ∉ (vs++[x]).map ι:=fun k=>by
     rw[List.mem_filter,decide_eq_true_iff]
     constructor
     ·rintro⟨k1,k2⟩
      refine⟨k1,P2.new O (by rw[List.getLast?_map,h2];rfl) k1 fun q hl2 eq=>?_⟩
      rw[List.length_map,List.length_append,List.length_singleton,show vs.length+1-2=vs.length-1 by omega,List.getElem?_map,List.getElem?_append_left (by rw[List.length_map,List.length_append,List.length_singleton] at hl2;omega),← List.getLast?_eq_getElem?,hp] at eq
      cases eq
      exact k2
     ·rintro⟨k1,k2⟩
      refine⟨k1,fun z=>k2 ?_⟩
      rw[z]
      exact List.mem_map.mpr ⟨p,List.mem_append_left _ (List.mem_of_getLast? hp),rfl⟩
    have w2:∀ k,k∈((lkW Y (κ x)).filter fun l=>!decide (l∈vs.map κ++[κ x]))↔k∈lkW Y (κ x)∧k ∉ (vs++[x]).map κ:=fun k=>by
     rw[List.mem_filter,List.map_append,Bool.not_eq_true',decide_eq_false_iff_not]
     exact Iff.rfl
    obtain⟨us,g1,g2,g3⟩:=ih (vs++[x]) x _ _ h2 P2 hv2 (by rw[List.length_append,List.length_singleton];omega) w1 w2 m (by omega)
    rw[List.map_append] at g2 g3
    exact⟨us,g1,g2,g3⟩
   ·rw[if_neg c,if_neg (by omega)]
    exact⟨vs,hv,rfl,rfl⟩
theorem uL (O:WOk X)(h:Rp X ι V E)(g:Rp Y κ V E)(inj:∀ a∈V,∀ b∈V,ι a=ι b→a=b)(qj:∀ a∈V,∀ b∈V,κ a=κ b→a=b){e:α}(he:e∈V)(hk:ι e∈az X)(hd:(lkW X (ι e)).length≤1){m:Nat}(hm:X.length<m):∃ us:List α,(∀ u∈us,u∈V)∧dB X (ι e)=us.map ι∧lgR Y m (some (κ e)) []=us.map κ:=by
 obtain⟨m,rfl⟩:∃ m',m=m'+1:=⟨m-1,by omega⟩
 have ed:=h.len g inj qj he
 have P:Path X ([e].map ι):=by
  refine⟨by simp,fun v hv=>?_,fun i a b h1 h2=>?_,fun v hv=>?_,fun a ha=>?_⟩
  ·rw[List.mem_singleton.mp hv];exact hk
  ·simp at h2
  ·rw[List.mem_singleton.mp hv];omega
  ·cases ha;exact hd
 have irr:ι e ∉ lkW X (ι e):=O.rm _
 have Ec:κ e ∉ lkW Y (κ e):=fun z=>by
  obtain⟨b,hb,e1,e2⟩:=(g.lk e he _).mp z
  have:=qj e he b hb e1
  subst this
  exact irr ((h.lk e he _).mpr ⟨e,he,rfl,e2⟩)
 obtain⟨us,g1,g2,g3⟩:=xh O h g inj qj X.length [e] e (lkW X (ι e)) ((lkW Y (κ e)).filter fun l=>!decide (l∈[]++[κ e])) rfl P (fun v hv=>by rw[List.mem_singleton.mp hv];exact he) rfl (fun k=>⟨fun q=>⟨q,fun z=>by rw[List.map_singleton,List.mem_singleton] at z;rw[z] at q;exact irr q⟩,fun q=>q.1⟩) (fun k=>by rw[List.mem_filter,Bool.not_eq_true',decide_eq_false_iff_not];exact Iff.rfl) m (by omega)
 refine⟨us,g1,g2,?_⟩
 show (if (lkW Y (κ e)).length<3 then _ else _)=_
 rw[if_pos (by omega)]
 exact g3
end
end Mir

namespace Mir
open PySem L2 NK
noncomputable abbrev Pr2:=Int×Int
noncomputable def bL (c:List Pr2):Pr2:=c.getLastD (0,0)
noncomputable def hd2 (c:List Pr2):Pr2:=c.headD (0,0)
structure jC (kins:List Pr2):Prop where
 asc:kins.Pairwise fun p q=>p.1<q.1
 pos:∀ k∈kins,k.1<k.2
 two:∀ p∈kins,∀ q∈kins,p.1<q.1→p.2≤q.1∨q.2<p.2
noncomputable def eR:List (List Pr2)→Pr2→List (List Pr2)
 | [],k=>[[k]]
 | c::r,k=>if (bL c).2=k.1 then (c++[k])::r else c::eR r k
noncomputable def fH (kins:List Pr2):List (List Pr2):=kins.foldl eR []
theorem iZ (kins:List Pr2)(k:Pr2):fH (kins++[k])=eR (fH kins) k:=by unfold fH;rw[List.foldl_append];rfl
noncomputable def Lkd (c:List Pr2):Prop:=∀ a b,Nx c a b→a.2=b.1
theorem jC.pre {kins:List Pr2}{k:Pr2}(h:jC (kins++[k])):jC kins :=
 ⟨(List.pairwise_append.mp h.asc).1,fun x hx=>h.pos x (List.mem_append_left _ hx),fun p hp q hq=>h.two p (List.mem_append_left _ hp) q (List.mem_append_left _ hq)⟩
theorem lW {c:List Pr2}(h:c≠[]):bL c∈c:=by
 unfold bL
 rw[List.getLastD_eq_getLast?,List.getLast?_eq_some_getLast h]
 exact List.getLast_mem h
theorem fI {c:List Pr2}(h:c≠[]):hd2 c∈c:=by
 cases c with
 | nil=>exact absurd rfl h
 | cons x r=>exact List.mem_cons_self
theorem nC (c:List Pr2)(k:Pr2):bL (c++[k])=k:=by unfold bL;rw[List.getLastD_eq_getLast?,List.getLast?_append];rfl
theorem nE {κ:Int}{F:Int×List Int→List Pr2}{k:Pr2}:∀ {G:List (Int×List Int)},(∀ e∈G,(bL (F e)).2=k.1↔e.1=κ)→(G.map Prod.fst).Nodup→eR (G.map F) k=if (G.any fun e=>decide (e.1=κ))=true then G.map (fun e=>if e.1=κ then F e++[k] else F e) else G.map F++[[k]]
 | [],_,_=>rfl
 | e::G,h,nd=>by
  rw[List.map_cons,List.nodup_cons] at nd
  show (if (bL (F e)).2=k.1 then (F e++[k])::G.map F else F e::eR (G.map F) k)=_
  rw[List.any_cons]
  by_cases c:e.1=κ
  ·rw[if_pos ((h e List.mem_cons_self).mpr c),decide_eq_true c,Bool.true_or,if_pos rfl,List.map_cons,if_pos c]
   congr 1
   refine List.map_congr_left fun d hd=>?_
   rw[if_neg fun z=>nd.1 (List.mem_map.mpr ⟨d,hd,by rw[z,c]⟩)]
  ·rw[if_neg (fun z=>c ((h e List.mem_cons_self).mp z)),decide_eq_false c,Bool.false_or,nE (fun d hd=>h d (List.mem_cons_of_mem _ hd)) nd.2]
   split
   ·rw[List.map_cons,if_neg c]
   ·rfl
theorem lX {kins:List Pr2}{k:Pr2}{g:List Int}(h:∀ x∈g,0≤x∧x<kins.length):chn (kins++[k]) g=chn kins g:=by
 unfold chn
 refine List.map_congr_left fun x hx=>?_
 have:=h x hx
 rw[List.getD_eq_getElem?_getD,List.getD_eq_getElem?_getD,List.getElem?_append_left (by omega)]
theorem tK (kins:List Pr2)(k:Pr2)(g:List Int)(h:∀ x∈g,0≤x∧x<kins.length):chn (kins++[k]) (g++[(kins.length:Int)])=chn kins g++[k]:=by
 have e:chn (kins++[k]) (g++[(kins.length:Int)])=chn (kins++[k]) g++chn (kins++[k]) [(kins.length:Int)]:=by unfold chn;rw[List.map_append]
 rw[e,lX h]
 congr 1
 show [(kins++[k]).getD ((kins.length:Int)).toNat (0,0)]=[k]
 rw[Int.toNat_natCast,List.getD_eq_getElem?_getD,List.getElem?_append_right (Nat.le_refl _),Nat.sub_self]
 rfl
noncomputable def cls (kins:List Pr2)(i:Nat):Int:=mk kins (kins.getD i (0,0)).1
theorem gG (kins:List Pr2):chains kins=(grp (cls kins) kins.length).map fun e=>chn kins e.2:=by
 unfold chains gn
 rw[List.map_map]
 rfl
theorem eW {kins:List Pr2}{e:Int×List Int}(he:e∈grp (cls kins) kins.length){p:Pr2}:p∈chn kins e.2↔p∈kins∧mk kins p.1=e.1:=by
 obtain⟨gm,_⟩:=sS (cls kins) kins.length e he
 unfold chn
 rw[List.mem_map]
 constructor
 ·rintro⟨x,hx,rfl⟩
  obtain⟨i,hi,hc,rfl⟩:=(gm x).mp hx
  rw[Int.toNat_natCast]
  refine⟨?_,hc⟩
  rw[List.getD_eq_getElem?_getD,List.getElem?_eq_getElem hi]
  exact List.getElem_mem _
 ·rintro⟨hp,hm⟩
  obtain⟨i,hi,rfl⟩:=List.getElem_of_mem hp
  have e1:kins.getD i (0,0)=kins[i]:=by rw[List.getD_eq_getElem?_getD,List.getElem?_eq_getElem hi];rfl
  exact⟨(i:Int),(gm _).mpr ⟨i,hi,by unfold cls;rw[e1];exact hm,rfl⟩,by rw[Int.toNat_natCast];exact e1⟩
theorem rK {kins:List Pr2}{e:Int×List Int}(he:e∈grp (cls kins) kins.length):chn kins e.2≠[]:=fun z=>by
 have:=(gD (cls kins) kins.length).ne e he
 unfold chn at z
 exact this (List.map_eq_nil_iff.mp z)
theorem i4:∀ kins:List Pr2,jC kins→chains kins=fH kins∧∀ c∈chains kins,Lkd c:=by
 refine gh (P:=fun kins=>jC kins→chains kins=fH kins∧∀ c∈chains kins,Lkd c) (fun _=>⟨rfl,fun c hc=>absurd hc List.not_mem_nil⟩) ?_
 intro kins k ih L
 obtain⟨i1,i2⟩:=ih L.pre
 have kin:k∈kins++[k]:=List.mem_append_right _ (List.mem_singleton.mpr rfl)
 have Ee:=L.pos k kin
 have lt:∀ p∈kins,p.1<k.1:=fun p hp=>(List.pairwise_append.mp L.asc).2.2 p hp k (List.mem_singleton.mpr rfl)
 have fresh:¬ Sn kins k.2:=fun ⟨p,hp,z⟩=>by
  have h1:=lt p hp
  have h2:=L.two p (List.mem_append_left _ hp) k kin h1
  omega
 have m2:mk kins k.2=k.2:=(iu kins).1 _ fresh
 have mS:∀ x,x≠k.2→mk kins x≠k.2:=fun x hx z=>by
  by_cases c:Sn kins x
  ·exact fresh (by rw[← z];exact(iu kins).2 x c)
  ·rw[(iu kins).1 x c] at z;exact hx z
 have mk':∀ x,x≠k.2→mk (kins++[k]) x=mk kins x:=fun x hx=>by
  rw[kW]
  unfold mkS
  rw[m2,if_neg (mS x hx)]
 have cl:∀ i,i<kins.length→cls (kins++[k]) i=cls kins i:=fun i hi=>by
  unfold cls
  have e1:(kins++[k]).getD i (0,0)=kins[i]:=by rw[List.getD_eq_getElem?_getD,List.getElem?_append_left hi,List.getElem?_eq_getElem hi];rfl
  have e2:kins.getD i (0,0)=kins[i]:=by rw[List.getD_eq_getElem?_getD,List.getElem?_eq_getElem hi];rfl
  rw[e1,e2]
  have:=lt _ (List.getElem_mem hi)
  exact mk' _ (by omega)
 have cn:cls (kins++[k]) kins.length=mk kins k.1:=by
  unfold cls
  have e1:(kins++[k]).getD kins.length (0,0)=k:=by rw[List.getD_eq_getElem?_getD,List.getElem?_append_right (Nat.le_refl _),Nat.sub_self];rfl
  rw[e1]
  exact mk' _ (by omega)
 have gok:=gD (cls kins) kins.length
 have key:∀ e∈grp (cls kins) kins.length,(bL (chn kins e.2)).2=k.1↔e.1=mk kins k.1:=fun e he=>by
  have ne:=rK he
  have hl:=lW ne
  have hl':=(eW he).mp hl
  constructor
  ·intro z
   rw[← z,← (wx kins).2 _ hl'.1]
   exact hl'.2.symm
  ·intro z
   by_cases c:Sn kins k.1
   ·obtain⟨p,hp,c⟩:=c
    have h1:=lt p hp
    have c:k.1=p.2:=by omega
    have pin:p∈chn kins e.2:=(eW he).mpr ⟨hp,by rw[(wx kins).2 p hp,← c,z]⟩
    have lk:=i2 _ (by rw[gG];exact List.mem_map.mpr ⟨e,he,rfl⟩)
    obtain⟨q,r,eq⟩:=List.append_of_mem pin
    cases r with
    | nil=>rw[eq,nC];exact c.symm
    | cons y r =>
     have:=lk p y (by rw[eq];exact xb)
     have hy:y∈chn kins e.2:=by rw[eq];simp
     have:=lt y ((eW he).mp hy).1
     omega
   ·rw[(iu kins).1 _ c] at z
    have hs:=(iu kins).2 _ (show Sn kins (bL (chn kins e.2)).1 from ⟨_,hl'.1,.inl rfl⟩)
    rw[hl'.2,z] at hs
    exact absurd hs c
 have eg:grp (cls (kins++[k])) (kins++[k]).length=eT (grp (cls kins) kins.length) (mk kins k.1) kins.length:=by
  rw[List.length_append,List.length_singleton]
  show eT (grp (cls (kins++[k])) kins.length) (cls (kins++[k]) kins.length) kins.length=_
  rw[cn,ng cl]
 have nd:=iw (cls kins) kins.length
 have ech:chains (kins++[k])=eR (chains kins) k:=by
  rw[gG,eg,gG,nE key nd]
  unfold eT
  split
  ·rw[List.map_map]
   refine List.map_congr_left fun e he=>?_
   show chn (kins++[k]) (if e.1=mk kins k.1 then (e.1,e.2++[(kins.length:Int)]) else e).2=_
   by_cases c:e.1=mk kins k.1
   ·rw[if_pos c,if_pos c]
    exact tK kins k e.2 (gok.lt e he)
   ·rw[if_neg c,if_neg c]
    exact lX (gok.lt e he)
  ·rw[List.map_append]
   congr 1
   ·exact List.map_congr_left fun e he=>lX (gok.lt e he)
   ·exact congrArg (fun x=>[x]) (tK kins k [] (fun x hx=>absurd hx List.not_mem_nil))
 refine⟨by rw[ech,i1,iZ],?_⟩
 rw[ech]
 generalize chains kins=cs at i2
 clear ech key gok eg nd cn cl
 induction cs with
 | nil =>
  intro c hc a b ⟨m,h1,h2⟩
  rw[List.mem_singleton.mp hc] at h2
  simp at h2
 | cons d cs ih2 =>
  intro c hc
  have hc:c∈(if (bL d).2=k.1 then (d++[k])::cs else d::eR cs k):=hc
  split at hc
  ·next z =>
   rcases List.mem_cons.mp hc with rfl | hc
   ·intro a b hab
    by_cases dn:d=[]
    ·subst dn
     obtain⟨m,_,h2⟩:=hab
     simp at h2
    ·obtain⟨ys,y,rfl⟩:∃ ys y,d=ys++[y]:=⟨d.dropLast,d.getLast dn,(List.dropLast_concat_getLast dn).symm⟩
     rw[nC] at z
     rw[List.append_assoc] at hab
     rcases qi hab with h | h
     ·exact i2 _ List.mem_cons_self a b h
     ·obtain⟨m,h1,h2⟩:=h
      cases m with
      | zero=>cases h1;cases h2;exact z
      | succ m=>simp at h2
   ·exact i2 c (List.mem_cons_of_mem _ hc)
  ·rcases List.mem_cons.mp hc with rfl | hc
   ·exact i2 _ List.mem_cons_self
   ·exact ih2 (fun c hc=>i2 c (List.mem_cons_of_mem _ hc)) c hc
end Mir

namespace Mir
open PySem L2 NK
structure Lam (lo hi:Int) (kins:List Pr2):Prop where
 p:jC kins
 cov:∀ g,lo≤g→g<hi→∃ k∈kins,k.1≤g∧g<k.2
 rng:∀ k∈kins,lo≤k.1∧k.2≤hi
structure ChP (kins:List Pr2) (cs:List (List Pr2)):Prop where
 ne:∀ c∈cs,c≠[]
 sub:∀ c∈cs,∀ k∈c,k∈kins
 all:∀ k∈kins,∃ c∈cs,k∈c
 uq:∀ c∈cs,∀ d∈cs,∀ k,k∈c→k∈d→c=d
 lkd:∀ c∈cs,Lkd c
 fst:∀ c∈cs,∀ k∈kins,k.2≠(hd2 c).1
 lo:∀ c∈cs,∀ k∈c,(hd2 c).1≤k.1
 hi:∀ c∈cs,∀ k∈c,k.2≤(bL c).2
theorem Lkd.tail {x:Pr2}{r:List Pr2}(h:Lkd (x::r)):Lkd r:=fun a b ⟨m,h1,h2⟩=>h a b ⟨m+1,h1,h2⟩
theorem xi:∀ {c:List Pr2},Lkd c→(∀ k∈c,k.1<k.2)→∀ k∈c,k.2≤(bL c).2
 | [],_,_,k,hk=>absurd hk List.not_mem_nil
 | [x],_,_,k,hk=>by rw[List.mem_singleton.mp hk];exact Int.le_refl _
 | x::y::r,l,p,k,hk=>by
  have e:bL (x::y::r)=bL (y::r):=by unfold bL;rw[List.getLastD_eq_getLast?,List.getLastD_eq_getLast?,List.getLast?_cons_cons]
  rw[e]
  have ih:=xi l.tail fun k hk=>p k (List.mem_cons_of_mem _ hk)
  rcases List.mem_cons.mp hk with rfl | hk
  ·have h1:=l k y ⟨0,rfl,rfl⟩
   have h2:=p y (by simp)
   have h3:=ih y List.mem_cons_self
   omega
  ·exact ih k hk
theorem fe {kins:List Pr2}(L:jC kins):ChP kins (chains kins):=by
 have lk:=(i4 kins L).2
 have cg:=gG kins
 have gok:=gD (cls kins) kins.length
 have cv:∀ c∈chains kins,∃ e∈grp (cls kins) kins.length,chn kins e.2=c:=fun c hc=>by rw[cg] at hc;exact List.mem_map.mp hc
 have ca:∀ c∈chains kins,c.Pairwise fun p q=>p.1<q.1:=fun c hc=>by
  unfold chains at hc
  obtain⟨g,hg,rfl⟩:=List.mem_map.mp hc
  exact sW L.asc hg
 have sub:∀ c∈chains kins,∀ k∈c,k∈kins:=fun c hc k hk=>by
  obtain⟨e,he,rfl⟩:=cv c hc
  exact((eW he).mp hk).1
 have lo:∀ c∈chains kins,∀ k∈c,(hd2 c).1≤k.1:=fun c hc k hk=>sY (ca c hc) hk
 refine⟨fun c hc=>?_,sub,fun k hk=>?_,fun c hc d hd k k1 k2=>?_,lk,fun c hc k hk z=>?_,lo,fun c hc=>xi (lk c hc) fun k hk=>L.pos k (sub c hc k hk)⟩
 ·obtain⟨e,he,rfl⟩:=cv c hc
  exact rK he
 ·obtain⟨i,hi,rfl⟩:=List.getElem_of_mem hk
  have e1:kins.getD i (0,0)=kins[i]:=by rw[List.getD_eq_getElem?_getD,List.getElem?_eq_getElem hi];rfl
  obtain⟨e,he,ek⟩:=List.mem_map.mp ((lJ (cls kins) kins.length (cls kins i)).mpr ⟨i,hi,rfl⟩)
  refine⟨chn kins e.2,by rw[cg];exact List.mem_map.mpr ⟨e,he,rfl⟩,(eW he).mpr ⟨List.getElem_mem _,?_⟩⟩
  rw[ek]
  unfold cls
  rw[e1]
 ·obtain⟨e,he,rfl⟩:=cv c hc
  obtain⟨f,hf,rfl⟩:=cv d hd
  have h1:=((eW he).mp k1).2
  have h2:=((eW hf).mp k2).2
  have nd:=iw (cls kins) kins.length
  obtain⟨i,hi,rfl⟩:=List.getElem_of_mem he
  obtain⟨j,hj,rfl⟩:=List.getElem_of_mem hf
  have z:((grp (cls kins) kins.length).map Prod.fst)[i]'(by rw[List.length_map];exact hi)=((grp (cls kins) kins.length).map Prod.fst)[j]'(by rw[List.length_map];exact hj):=by rw[List.getElem_map,List.getElem_map];exact h1.symm.trans h2
  have:i=j:=(List.getElem_inj nd).mp z
  subst this
  rfl
 ·obtain⟨e,he,rfl⟩:=cv c hc
  have hm:=fI (rK he)
  have h1:=(eW he).mp hm
  have kin:k∈chn kins e.2:=(eW he).mpr ⟨hk,by rw[(wx kins).2 k hk,z];exact h1.2⟩
  have h2:=lo _ hc k kin
  have h3:=L.pos k hk
  omega
noncomputable abbrev Nod:=Pr2 ⊕ Pr2
noncomputable def chN (h:Pr2):Nd:=[.inl (.inr "chain"),qI h]
noncomputable def lI:Nod→Nd
 | .inl k=>pN k
 | .inr h=>chN h
theorem lY:∀ a b:Nod,lI a=lI b→a=b
 | .inl a,.inl b,h=>by rw[eJ h]
 | .inr a,.inr b,h=>by
  have h:chN a=chN b:=h
  unfold chN at h
  injection h with _ h
  injection h with h _
  rw[wL h]
 | .inl a,.inr b,h=>by
  have h:pN a=chN b:=h
  unfold pN chN at h
  injection h with h _
  injection h with h
  cases h
 | .inr a,.inl b,h=>by
  have h:chN a=pN b:=h
  unfold pN chN at h
  injection h with h _
  injection h with h
  cases h
noncomputable def iG (cs:List (List Pr2))(h:Pr2):Option (List Pr2):=cs.find? fun c=>decide (hd2 c=h)
noncomputable def ofK (cs:List (List Pr2))(k:Pr2):Option (List Pr2):=cs.find? fun c=>decide (k∈c)
noncomputable def gI (cs:List (List Pr2)):Nod→Nd
 | .inl k=>pN k
 | .inr h=>cN ((iG cs h).getD [])
noncomputable def upK (kins:List Pr2)(cs:List (List Pr2)):Nod→Option Nod
 | .inl k=>(ofK cs k).map fun c=>.inr (hd2 c)
 | .inr h=>(iG cs h).bind fun c=>(dA kins c).head?.map .inl
noncomputable def ndV (kins:List Pr2)(cs:List (List Pr2)):List Nod:=kins.map .inl++cs.map fun c=>.inr (hd2 c)
noncomputable def rkK (S:Int)(cs:List (List Pr2)):Nod→Nat
 | .inl k=>2*(S-(k.2-k.1)).toNat+1
 | .inr h=>2*(S-((bL ((iG cs h).getD [])).2-h.1)).toNat
section
variable {lo hi:Int}{kins:List Pr2}{cs:List (List Pr2)}
theorem ChP.iG (C:ChP kins cs){c:List Pr2}(hc:c∈cs):Mir.iG cs (hd2 c)=some c:=by
 unfold Mir.iG
 cases e:cs.find? fun d=>decide (hd2 d=hd2 c) with
 | none=>exact absurd (List.find?_eq_none.mp e c hc) (by simp)
 | some d =>
  have h1:=List.mem_of_find?_eq_some e
  have h2:hd2 d=hd2 c:=of_decide_eq_true (List.find?_some (p:=fun d=>decide (hd2 d=hd2 c)) e)
  rw[C.uq d h1 c hc (hd2 c) (by rw[← h2];exact fI (C.ne d h1)) (fI (C.ne c hc))]
theorem ChP.ofK (C:ChP kins cs){c:List Pr2}(hc:c∈cs){k:Pr2}(hk:k∈c):Mir.ofK cs k=some c:=by
 unfold Mir.ofK
 cases e:cs.find? fun d=>decide (k∈d) with
 | none=>exact absurd (List.find?_eq_none.mp e c hc) (by simp[hk])
 | some d =>
  have h1:=List.mem_of_find?_eq_some e
  have h2:k∈d:=of_decide_eq_true (List.find?_some (p:=fun d=>decide (k∈d)) e)
  rw[C.uq d h1 c hc k h2 hk]
theorem oQ {k:Pr2}{c:List Pr2}(h:ofK cs k=some c):c∈cs∧k∈c:=⟨List.mem_of_find?_eq_some h,of_decide_eq_true (List.find?_some (p:=fun d=>decide (k∈d)) h)⟩
theorem ql {k:Pr2}{c:List Pr2}(h:iG cs k=some c):c∈cs∧hd2 c=k:=⟨List.mem_of_find?_eq_some h,of_decide_eq_true (List.find?_some (p:=fun d=>decide (hd2 d=k)) h)⟩
theorem ChP.gI (C:ChP kins cs){c:List Pr2}(hc:c∈cs):Mir.gI cs (.inr (hd2 c))=cN c:=by
 show cN ((Mir.iG cs (hd2 c)).getD [])=cN c
 rw[C.iG hc]
 rfl
theorem br {v:Nod}:v∈ndV kins cs↔(∃ k∈kins,v=.inl k)∨∃ c∈cs,v=.inr (hd2 c):=by
 unfold ndV
 rw[List.mem_append,List.mem_map,List.mem_map]
 constructor
 ·rintro(⟨k,h,rfl⟩ | ⟨c,h,rfl⟩)
  ·exact .inl ⟨k,h,rfl⟩
  ·exact .inr ⟨c,h,rfl⟩
 ·rintro(⟨k,h,rfl⟩ | ⟨c,h,rfl⟩)
  ·exact .inl ⟨k,h,rfl⟩
  ·exact .inr ⟨c,h,rfl⟩
theorem oR (C:ChP kins cs):∀ a∈ndV kins cs,∀ b∈ndV kins cs,gI cs a=gI cs b→a=b:=fun a ha b hb e=>by
 rcases br.mp ha with ⟨k,hk,rfl⟩ | ⟨c,hc,rfl⟩ <;> rcases br.mp hb with ⟨k',hk',rfl⟩ | ⟨c',hc',rfl⟩
 ·rw[eJ e]
 ·rw[C.gI hc'] at e;exact absurd e iL
 ·rw[C.gI hc] at e;exact absurd e.symm iL
 ·rw[C.gI hc,C.gI hc'] at e;rw[oJ e]
theorem iA {c:List Pr2}{k:Pr2}:(dA kins c).head?=some k↔k∈dA kins c:=by
 have:=lQ (kins:=kins) (c:=c)
 match h:dA kins c,this with
 | [],_=>simp
 | [x],_=>simp[eq_comm]
theorem lZ (C:ChP kins cs){k:Pr2}{u:Nod}(h:upK kins cs (.inl k)=some u):∃ c∈cs,k∈c∧u=.inr (hd2 c):=by
 obtain⟨c,e,rfl⟩:=Option.map_eq_some_iff.mp (show (ofK cs k).map (fun c=>(.inr (hd2 c):Nod))=some u from h)
 have:=oQ e
 exact⟨c,this.1,this.2,rfl⟩
theorem rL (C:ChP kins cs){h:Pr2}{u:Nod}(e:upK kins cs (.inr h)=some u):∃ c∈cs,hd2 c=h∧∃ k∈dA kins c,u=.inl k:=by
 obtain⟨c,e1,e2⟩:=Option.bind_eq_some_iff.mp (show (iG cs h).bind (fun c=>(dA kins c).head?.map (.inl:Pr2→Nod))=some u from e)
 obtain⟨k,e3,rfl⟩:=Option.map_eq_some_iff.mp e2
 have:=ql e1
 exact⟨c,this.1,this.2,k,iA.mp e3,rfl⟩
theorem ChP.upC (C:ChP kins cs){c:List Pr2}(hc:c∈cs){k:Pr2}(hk:k∈c):upK kins cs (.inl k)=some (.inr (hd2 c)):=by
 show (Mir.ofK cs k).map _=_
 rw[C.ofK hc hk]
 rfl
theorem ChP.upS (C:ChP kins cs){c:List Pr2}(hc:c∈cs):upK kins cs (.inr (hd2 c))=(dA kins c).head?.map .inl:=by
 show (Mir.iG cs (hd2 c)).bind _=_
 rw[C.iG hc]
 rfl
theorem hX {c:List Pr2}{k:Pr2}:eU c k=true↔k.1<(hd2 c).1∧(bL c).2<k.2:=by
 unfold eU
 rw[Bool.and_eq_true,decide_eq_true_iff,decide_eq_true_iff]
 exact Iff.rfl
theorem around {K:Pr2}(hK:K∈kins)(L:jC kins):∀ {c:List Pr2},Lkd c→(∀ k∈c,k∈kins)→(∀ x,c.head?=some x→K.1<x.1∧x.2<K.2)→∀ k∈c,k.2<K.2
 | [],_,_,_,k,hk=>absurd hk List.not_mem_nil
 | [x],_,_,h,k,hk=>by rw[List.mem_singleton.mp hk];exact(h x rfl).2
 | x::y::r,l,s,h,k,hk=>by
  obtain⟨h1,h2⟩:=h x rfl
  rcases List.mem_cons.mp hk with rfl | hk
  ·exact h2
  ·refine around hK L l.tail (fun k hk=>s k (List.mem_cons_of_mem _ hk)) (fun z e=>?_) k hk
   cases e
   have e1:=l x y ⟨0,rfl,rfl⟩
   have px:=L.pos x (s x List.mem_cons_self)
   have hy:y∈kins:=s y (by simp)
   have h3:=L.two K hK y hy (by omega)
   exact⟨by omega,by omega⟩
theorem A0 (L:Lam lo hi kins)(C:ChP kins cs){c:List Pr2}(hc:c∈cs)(h:dA kins c=[]):(hd2 c).1=lo:=by
 have hm:=fI (C.ne c hc)
 have hk:=C.sub c hc _ hm
 have r:=L.rng _ hk
 by_cases e:(hd2 c).1=lo
 ·exact e
 ·have pk:=L.p.pos _ hk
  obtain⟨K,hK,k1,k2⟩:=L.cov ((hd2 c).1-1) (by omega) (by omega)
  have n:=C.fst c hc K hK
  have t:=L.p.two K hK _ hk (by omega)
  have al:=around hK L.p (C.lkd c hc) (C.sub c hc) (fun x e=>by
   have:x=hd2 c:=by unfold hd2;rw[List.headD_eq_head?_getD,e];rfl
   rw[this]
   exact⟨by omega,by omega⟩)
  have la:=al _ (lW (C.ne c hc))
  have ar:K∈dz kins c:=List.mem_filter.mpr ⟨hK,hX.mpr ⟨by omega,la⟩⟩
  have:dz kins c=[]:=by
   unfold dA at h
   have:=List.length_pos_of_mem ar
   have h:=congrArg List.length h
   rw[List.length_drop] at h
   have h:(dz kins c).length-((dz kins c).length-1)=0:=h
   omega
  rw[this] at ar
  exact absurd ar List.not_mem_nil
theorem xj {kins:List Pr2}(asc:kins.Pairwise fun p q=>p.1<q.1){p q:Pr2}(hp:p∈kins)(hq:q∈kins)(e:p.1=q.1):p=q:=by
 obtain⟨i,hi,rfl⟩:=List.getElem_of_mem hp
 obtain⟨j,hj,rfl⟩:=List.getElem_of_mem hq
 rcases Nat.lt_trichotomy i j with h | h | h
 ·have:=List.pairwise_iff_getElem.mp asc i j hi hj h;omega
 ·subst h;rfl
 ·have:=List.pairwise_iff_getElem.mp asc j i hj hi h;omega
theorem xk (L:Lam lo hi kins)(C:ChP kins cs):∃ root,Tr (ndV kins cs) (upK kins cs) (rkK (hi-lo) cs) (2*(hi-lo).toNat+1) root:=by
 have wd:∀ k∈kins,0<k.2-k.1∧k.2-k.1≤hi-lo:=fun k hk=>by
  have:=L.p.pos k hk
  have:=L.rng k hk
  omega
 have rc:∀ c∈cs,rkK (hi-lo) cs (.inr (hd2 c))=2*(hi-lo-((bL c).2-(hd2 c).1)).toNat:=fun c hc=>by
  show 2*(hi-lo-((bL ((iG cs (hd2 c)).getD [])).2-(hd2 c).1)).toNat=_
  rw[C.iG hc]
  rfl
 have wc:∀ c∈cs,∀ k∈c,k.2-k.1≤(bL c).2-(hd2 c).1:=fun c hc k hk=>by
  have:=C.lo c hc k hk
  have:=C.hi c hc k hk
  omega
 have wm:∀ c∈cs,0<(bL c).2-(hd2 c).1∧(bL c).2-(hd2 c).1≤hi-lo:=fun c hc=>by
  have h1:=fI (C.ne c hc)
  have h2:=wc c hc _ h1
  have h3:=wd _ (C.sub c hc _ h1)
  have h4:=L.rng _ (C.sub c hc _ h1)
  have h5:=L.rng _ (C.sub c hc _ (lW (C.ne c hc)))
  omega
 have main:∀ root,(∀ v∈ndV kins cs,upK kins cs v=none→v=root)→Tr (ndV kins cs) (upK kins cs) (rkK (hi-lo) cs) (2*(hi-lo).toNat+1) root:=fun root hr=>by
  refine⟨fun v u e=>?_,fun v u e=>?_,hr,fun v hv=>?_⟩
  ·cases v with
   | inl k =>
    obtain⟨c,hc,hk,rfl⟩:=lZ C e
    exact⟨br.mpr (.inl ⟨k,C.sub c hc k hk,rfl⟩),br.mpr (.inr ⟨c,hc,rfl⟩)⟩
   | inr h =>
    obtain⟨c,hc,rfl,k,hk,rfl⟩:=rL C e
    exact⟨br.mpr (.inr ⟨c,hc,rfl⟩),br.mpr (.inl ⟨k,(ft hk).1,rfl⟩)⟩
  ·cases v with
   | inl k =>
    obtain⟨c,hc,hk,rfl⟩:=lZ C e
    rw[rc c hc]
    have h1:=wc c hc k hk
    have h2:=wm c hc
    show _<2*(hi-lo-(k.2-k.1)).toNat+1
    omega
   | inr h =>
    obtain⟨c,hc,rfl,k,hk,rfl⟩:=rL C e
    rw[rc c hc]
    have h1:=hX.mp (ft hk).2
    have h2:=wd k (ft hk).1
    have h3:=wm c hc
    show 2*(hi-lo-(k.2-k.1)).toNat+1<_
    omega
  ·rcases br.mp hv with ⟨k,hk,rfl⟩ | ⟨c,hc,rfl⟩
   ·have:=wd k hk
    show 2*(hi-lo-(k.2-k.1)).toNat+1≤_
    omega
   ·rw[rc c hc]
    have:=wm c hc
    omega
 have isR:∀ v∈ndV kins cs,upK kins cs v=none→∃ c∈cs,v=.inr (hd2 c)∧(hd2 c).1=lo:=fun v hv e=>by
  rcases br.mp hv with ⟨k,hk,rfl⟩ | ⟨c,hc,rfl⟩
  ·obtain⟨c,hc,hkc⟩:=C.all k hk
   rw[C.upC hc hkc] at e
   cases e
  ·refine⟨c,hc,rfl,A0 L C hc ?_⟩
   rw[C.upS hc,Option.map_eq_none_iff,List.head?_eq_none_iff] at e
   exact e
 by_cases ex:∃ v∈ndV kins cs,upK kins cs v=none
 ·obtain⟨r,hr,er⟩:=ex
  refine⟨r,main r fun v hv e=>?_⟩
  obtain⟨c,hc,rfl,e1⟩:=isR v hv e
  obtain⟨d,hd,rfl,e2⟩:=isR r hr er
  have:=xj L.p.asc (C.sub c hc _ (fI (C.ne c hc))) (C.sub d hd _ (fI (C.ne d hd))) (by omega)
  rw[this]
 ·exact⟨.inl (0,0),main _ fun v hv e=>absurd ⟨v,hv,e⟩ ex⟩
theorem qm (KO:KOk kins cs){k:Pr2}(hk:k∈kins):lkW (dZ kins cs) (pN k)=(cs.filter fun c=>decide (k∈lnk kins c)).map cN :=
 (gE KO).lk (t:=(pN k,(cs.filter fun c=>decide (k∈lnk kins c)).map cN)) (List.mem_append_left _ (List.mem_map.mpr ⟨k,hk,rfl⟩))
theorem qo (KO:KOk kins cs){c:List Pr2}(hc:c∈cs):lkW (dZ kins cs) (cN c)=(lnk kins c).map pN :=
 (gE KO).lk (t:=(cN c,(lnk kins c).map pN)) (List.mem_append_right _ (List.mem_map.mpr ⟨c,hc,rfl⟩))
theorem A1 (KO:KOk kins cs)(C:ChP kins cs){K:Nod→Prop}(KV:∀ k,K k→k∈ndV kins cs):Th (ndV kins cs) (upK kins cs) K (gI cs) (dZ kins cs):=by
 have kV:∀ {k:Pr2},k∈kins→(.inl k:Nod)∈ndV kins cs:=fun h=>br.mpr (.inl ⟨_,h,rfl⟩)
 have cV:∀ {c:List Pr2},c∈cs→(.inr (hd2 c):Nod)∈ndV kins cs:=fun h=>br.mpr (.inr ⟨_,h,rfl⟩)
 have upper:∀ a b,upK kins cs a=some b→gI cs b∈lkW (dZ kins cs) (gI cs a):=fun a b e=>by
  cases a with
  | inl k =>
   obtain⟨c,hc,hk,rfl⟩:=lZ C e
   rw[C.gI hc]
   show _∈lkW _ (pN k)
   rw[qm KO (C.sub c hc k hk)]
   exact List.mem_map.mpr ⟨c,List.mem_filter.mpr ⟨hc,decide_eq_true (List.mem_append_left _ hk)⟩,rfl⟩
  | inr h =>
   obtain⟨c,hc,rfl,k,hk,rfl⟩:=rL C e
   rw[C.gI hc,qo KO hc]
   exact List.mem_map.mpr ⟨k,List.mem_append_right _ hk,rfl⟩
 refine⟨gE KO,fun k hk=>?_,fun a ha k hk=>?_,fun a b h=>?_,fun a ha=>?_⟩
 ·rw[gu] at hk
  rcases List.mem_append.mp hk with hk | hk
  ·obtain⟨p,hp,rfl⟩:=List.mem_map.mp hk
   exact⟨.inl p,kV hp,rfl⟩
  ·obtain⟨c,hc,rfl⟩:=List.mem_map.mp hk
   exact⟨_,cV hc,(C.gI hc).symm⟩
 ·rcases br.mp ha with ⟨p,hp,rfl⟩ | ⟨c,hc,rfl⟩
  ·have hk:k∈lkW (dZ kins cs) (pN p):=hk
   rw[qm KO hp] at hk
   obtain⟨c,hc,rfl⟩:=List.mem_map.mp hk
   obtain⟨hc,h2⟩:=List.mem_filter.mp hc
   refine⟨_,cV hc,(C.gI hc).symm,?_⟩
   rcases List.mem_append.mp (of_decide_eq_true h2) with h | h
   ·exact .inl (C.upC hc h)
   ·right
    rw[C.upS hc,iA.mpr h]
    rfl
  ·rw[C.gI hc,qo KO hc] at hk
   obtain⟨p,hp,rfl⟩:=List.mem_map.mp hk
   refine⟨.inl p,kV (KO.sub c hc p hp),rfl,?_⟩
   rcases List.mem_append.mp hp with h | h
   ·exact .inr (C.upC hc h)
   ·left
    rw[C.upS hc,iA.mpr h]
    rfl
 ·rcases h with ⟨e,_⟩ | ⟨e,_⟩
  ·exact upper a b e
  ·exact((gE KO).lkk (upper b a e)).1
 ·rw[gu]
  rcases br.mp (KV a ha) with ⟨p,hp,rfl⟩ | ⟨c,hc,rfl⟩
  ·exact List.mem_append_left _ (List.mem_map.mpr ⟨p,hp,rfl⟩)
  ·rw[C.gI hc]
   exact List.mem_append_right _ (List.mem_map.mpr ⟨c,hc,rfl⟩)
end
end Mir

namespace Mir
open PySem L2 NK
noncomputable abbrev KI (rs:List Int):List Pr2:=b4 (frm rs)
noncomputable abbrev KN (rs:List Int):List Pr2:=di (frm rs) (opn (frm rs) (rs.length+1))
noncomputable abbrev CH (rs:List Int):List (List Pr2):=chains (b4 (frm rs))
noncomputable def xm (ks:List Pr2):Nod→Prop:=fun a=>∃ p∈ks,a=.inl p
noncomputable abbrev VT (rs:List Int):List Nod:=ndV (KI rs) (CH rs)
noncomputable abbrev UT (rs:List Int):Nod→Option Nod:=upK (KI rs) (CH rs)
noncomputable abbrev EdT (rs:List Int):Nod→Nod→Prop:=Ed (UT rs) (xm (KN rs))
theorem gH {rs:List Int}(fit:Fit rs):Lam 0 ((rs.length:Int)+1) (KI rs):=by
 have fl:=ba rs
 refine⟨⟨gj _,fun k hk=>?_,fun p hp q hq lt=>?_⟩,fun g h1 h2=>?_,fun k hk=>?_⟩
 ·obtain⟨a,b,K,rfl⟩:=bO.mp hk
  have:=K.1.lt
  show (a:Int)<b
  omega
 ·obtain⟨a,b,K1,rfl⟩:=bO.mp hp
  obtain⟨c,d,K2,rfl⟩:=bO.mp hq
  have lt:(a:Int)<c:=lt
  have:=AQ fit K1 K2 (by omega)
  show (b:Int)≤c∨(d:Int)<b
  omega
 ·obtain⟨c,d,o⟩:=rf fit (g:=g.toNat) (by omega)
  refine⟨((c:Int),(d:Int)),bO.mpr ⟨c,d,o.kn,rfl⟩,?_⟩
  have:=o.le
  have:=o.lt
  show (c:Int)≤g∧g<(d:Int)
  omega
 ·obtain⟨a,b,K,rfl⟩:=bO.mp hk
  have:=K.1.lb
  show (0:Int)≤a∧(b:Int)≤(rs.length:Int)+1
  omega
theorem l4 {rs:List Int}{p:Pr2}(h:p∈KN rs):p∈KI rs:=(List.mem_filter.mp h).1
theorem j9 {rs:List Int}:∀ k,xm (KN rs) k→k∈VT rs:=fun k ⟨p,hp,e⟩=>br.mpr (.inl ⟨p,l4 hp,e⟩)
theorem rM {rs:List Int}(fit:Fit rs):∀ a∈VT rs,(xm (KN rs) a↔gI (CH rs) a∈(KN rs).map pN):=fun a ha=>by
 have C:=fe (gH fit).p
 constructor
 ·rintro⟨p,hp,rfl⟩
  exact List.mem_map.mpr ⟨p,hp,rfl⟩
 ·intro h
  obtain⟨p,hp,e⟩:=List.mem_map.mp h
  rcases br.mp ha with ⟨k,hk,rfl⟩ | ⟨c,hc,rfl⟩
  ·have e:pN p=pN k:=e
   exact⟨p,hp,by rw[eJ e]⟩
  ·rw[C.gI hc] at e
   exact absurd e iL
theorem qp {rs:List Int}(fit:Fit rs):∃ root,Tr (VT rs) (UT rs) (rkK ((rs.length:Int)+1-0) (CH rs)) (2*((rs.length:Int)+1-0).toNat+1) root:=xk (gH fit) (fe (gH fit).p)
theorem oS {rs:List Int}(fit:Fit rs):Rp (d4 rs) (gI (CH rs)) (VT rs) (EdT rs)∧∀ p∈KN rs,pN p∈az (d4 rs):=by
 have L:=gH fit
 have C:=fe L.p
 obtain⟨root,T⟩:=qp fit
 obtain⟨O,_,sp⟩:=k5 fit
 by_cases c:KN rs=[]
 ·have e:d4 rs=[]:=by unfold d4;rw[if_pos c]
  refine⟨⟨fun a _=>O.zA _,fun a ha k=>?_⟩,fun p hp=>by rw[c] at hp;exact absurd hp List.not_mem_nil⟩
  rw[e]
  constructor
  ·intro h
   exact absurd h List.not_mem_nil
  ·rintro⟨b,_,_,⟨_,⟨k,⟨p,hp,_⟩,_⟩,_⟩ | ⟨_,⟨k,⟨p,hp,_⟩,_⟩,_⟩⟩
   ·rw[c] at hp;exact absurd hp List.not_mem_nil
   ·rw[c] at hp;exact absurd hp List.not_mem_nil
 ·have th:Th (VT rs) (UT rs) (xm (KN rs)) (gI (CH rs)) (d4 rs):=by
   unfold d4
   rw[if_neg c]
   exact Th.dY T (oR C) j9 (rM fit) _ (A1 (iy L.p.asc) C j9)
  refine⟨⟨fun a _=>O.zA _,fun a ha k=>?_⟩,fun p hp=>th.kn (.inl p) ⟨p,hp,rfl⟩⟩
  constructor
  ·intro h
   obtain⟨b,hb,rfl,_⟩:=th.lks a ha k h
   exact⟨b,hb,rfl,(th.iff T (oR C) (rM fit) sp ha hb).mp h⟩
  ·rintro⟨b,hb,rfl,h⟩
   exact th.ess a b h
section
variable {rs:List Int}{Y:Web}
theorem qq (fit:Fit rs)(g:Rp Y lI (VT rs) (EdT rs)){p:Pr2}(hp:p∈KN rs):(lkW (d4 rs) (pN p)).length=(lkW Y (pN p)).length :=
 (oS fit).1.len g (oR (fe (gH fit).p)) (fun a _ b _=>lY a b) (a:=.inl p) (j9 _ ⟨p,hp,rfl⟩)
noncomputable def l7 (Y:Web)(ks:List Pr2):List Pr2:=ks.filter fun p=>decide ((lkW Y (pN p)).length<2)
noncomputable def uM (Y:Web)(ks:List Pr2)(e:Pr2):Nat:=((lgR Y 1000 (some (pN e)) []).filter fun k=>decide (k∈ks.map pN)).length
theorem qr (fit:Fit rs)(g:Rp Y lI (VT rs) (EdT rs)):bP (d4 rs) (KN rs)=l7 Y (KN rs):=by
 unfold bP l7
 refine List.filter_congr fun p hp=>?_
 rw[decide_eq_true ((oS fit).2 p hp),Bool.true_and,qq fit g hp]
 exact decide_eq_decide.mpr ⟨fun h=>by omega,fun h=>by omega⟩
theorem xn (fit:Fit rs)(g:Rp Y lI (VT rs) (EdT rs)):aS rs=(l7 Y (KN rs)).map fun e=>(uM Y (KN rs) e:Int):=by
 unfold aS
 rw[qr fit g]
 refine List.map_congr_left fun e he=>?_
 obtain⟨hk,hd⟩:=List.mem_filter.mp he
 have hd:=of_decide_eq_true hd
 obtain⟨O,Wl,_⟩:=k5 fit
 have C:=fe (gH fit).p
 obtain⟨us,u1,u2,u3⟩:=uL O (oS fit).1 g (oR C) (fun a _ b _=>lY a b) (e:=.inl e) (j9 _ ⟨e,hk,rfl⟩) ((oS fit).2 e hk) (by show (lkW (d4 rs) (pN e)).length≤1;rw[qq fit g hk];omega) (m:=1000) (by omega)
 have u2:dB (d4 rs) (pN e)=us.map (gI (CH rs)):=u2
 have u3:lgR Y 1000 (some (pN e)) []=us.map lI:=u3
 unfold uM
 rw[u2,u3,List.filter_map,List.filter_map,List.length_map,List.length_map]
 congr 2
 refine List.filter_congr fun a ha=>?_
 show decide (gI (CH rs) a∈(KN rs).map pN)=decide (lI a∈(KN rs).map pN)
 refine decide_eq_decide.mpr ?_
 rw[← rM fit a (u1 a ha)]
 constructor
 ·rintro⟨p,hp,rfl⟩
  exact List.mem_map.mpr ⟨p,hp,rfl⟩
 ·intro h
  obtain⟨p,hp,e⟩:=List.mem_map.mp h
  exact⟨p,hp,(lY (.inl p) a e).symm⟩
end
end Mir

namespace NK
open PySem PySem.Spec PyProof.Rows L2
section
variable {X:Cx}
noncomputable def yW:V→List V→Hp→VK→Prop:=fun x vs H Q=>∃ (l b:Addr) (k:List Itm) (ks:List (List Itm)) (j:Nat),x=.ref l∧vs=[.ref b]∧K2 H k b∧Ths H l ks∧ks[j]?=some k∧(∀ i,i<j→ks[i]?≠some k)∧Q (.int (j:Nat)) H
theorem nH (hu:X.A.units+2<cLine):MtM X "list.index" yW:=by
 intro pins s σ H x vs v us Q I rx rv h
 obtain⟨l,b,k,ks,j,rfl,rfl,hk,⟨bs,hH,h2,h3⟩,hm,hno,q⟩:=h
 cases rx
 obtain⟨u,rfl,ru⟩:=rv.one
 cases ru
 obtain⟨z,its,n,r,hl,e⟩:=I.pG hH
 have er:its=bs.map Value.ref:=fm r
 subst er
 have hj:j<ks.length:=(List.getElem?_eq_some_iff.mp hm).1
 have sz:=sizeLine_eq
 have at_:∀ i (hi:i<ks.length),eqK H k ((bs.map Value.ref).toArray[i]'(by simp;omega))=decide (ks[i]=k):=fun i hi=>by
  have e:=h3 i _ _ (List.getElem?_eq_getElem (show i<bs.length by omega)) (List.getElem?_eq_getElem hi)
  have e2:(bs.map Value.ref).toArray[i]'(by simp;omega)=Value.ref (bs[i]'(by omega)):=by simp
  rw[e2]
  show decide (qW H _=k)=_
  rw[jn e]
 have zl:bs.length≤sizeLine:=by rw[List.length_map] at z;exact z
 refine call_meets F.slot_list_index ⟨_,e,rfl⟩ F.entry_list_index (F.args_list_index_2 _ _) (SeqAt.list_indexAt l (bs.map Value.ref).toArray n none #[] (.ref b) (eqK H k) j (by simp;omega) (by omega) ?_ fun i hi hlt=>?_) ⟨e,Ths.eqs I (by show X.A.units+1+1<cLine;omega) hk h2 h3,?_⟩
 ·rw[at_ _ hj]
  exact decide_eq_true ((List.getElem?_eq_some_iff.mp hm).2)
 ·rw[at_ _ (by omega)]
  exact decide_eq_false fun c=>hno i hlt (by rw[List.getElem?_eq_getElem (by omega),c])
 ·exact⟨.int (j:Nat),H,I.tok _,⟨_,rfl⟩,q⟩
end
noncomputable def xo (P:Program)(w:World)(td ty tx:TE):TE:=fun σ H Q=>td σ H fun x H1=>(∃ a kvs,x=.ref a∧D2 P w H1 a kvs)∧ty σ H1 fun y H2=>tx σ H2 fun z H3=>∃ a b kvs k,x=.ref a∧y=.ref b∧D2 P w H3 a kvs∧K2 H3 k b∧Q ((iE kvs k).getD z) H3
section
variable {X:Cx}{o e f:Expr}{apos cp:Pos}{td ty tx:TE}
theorem yX {pins:List (Addr×Obj)}{σ:L2.St}{H:Hp}{s:Shared}{a b:Addr}{kvs:List Ent}{k:List Itm}{d:V}{r:Value}{A:Around}{E:Value→Shared→Prop}{Q:Value→Shared→Prop}(hu:A.units+2<cLine)(I:Inv X pins σ H s)(dd:D2 X.prog X.w H a kvs)(hk:K2 H k b)(rd:RelV d r)(h:∀ w' s',Inv X pins σ H s'→RelV ((iE kvs k).getD d) w'→Q w' s') :
  wpAny (model X.prog X.w) A (call (.builtin "dict.get") [.ref a,.ref b,r]) Q E s:=by
 obtain⟨z,hd,xs,rel,dd⟩:=kC I.hok dd
 refine call_meetsIn PySem.F.slot_dict_get dd.typeIs PySem.F.entry_dict_get (PySem.F.args_dict_get_3 _ _ _) (meetsH_dict_get_default (fS X.prog X.w) a b hd r) ⟨gY hu,k,xs,kB I.hok hk,dd,h _ _ (I.tok _) ?_⟩
 exact(oA rel k).getD rd
theorem xp {P:Program}{w:World}(hP:X.prog=P)(hw:X.w=w)(hu:X.A.units+2<cLine)(ho:PE X o td)(he:PE X e ty)(hf:PE X f tx)(m:M2 X o "get" apos e f cp):PE X (.Call (.Attribute o "get" apos) [e,f] [] cp) (xo P w td ty tx):=by
 subst hP hw
 intro pins s σ H Q I h
 refine wpAny_Call_method m.base m.few m.line PySem.F.plainAttrs_dict PySem.F.slot_dict_get PySem.F.type_dict_get (thn (ho pins s σ H _ I h) fun u s1 ⟨x,H1,I1,rx,⟨a,kvs,ex,d⟩,q1⟩=>?_)
 subst ex
 obtain rfl:u=Value.ref a:=rx
 refine⟨oB I1 d,fun c z=>?_,?_⟩
 ·cases z
  obtain⟨_,_,xs,_,dd⟩:=kC I1.hok d
  obtain⟨o,es,ep,ho,hx,_⟩:=dd
  exact⟨o,ho,hx.2.1⟩
 rw[m.trees]
 refine Calls.callWith_builtin rfl (Calls.evalArgs_plain (Calls.spliced_cons (thn (he pins s1 σ H1 _ I1 q1) fun iv s2 ⟨y,H2,I2,ry,q2⟩ =>
  Calls.spliced_cons (thn (hf pins s2 σ H2 _ I2 q2) fun fv s3 ⟨z,H3,I3,rz,a',b,yD,k,ex,ey,d3,hk,q3⟩=>Calls.spliced_nil ?_))))
 subst ey
 cases ex
 obtain rfl:iv=Value.ref b:=ry
 exact yX hu I3 d3 hk rz fun w' s4 I4 rw'=>⟨_,H3,I4,rw',q3⟩
end
theorem A2 {P:Program}{w:World}{d:Addr}{o:Obj}{kvs:List Ent}{g:TG}{tb:TS}{D:Ends}{σ:L2.St}{H:Hp}(Pv:Nat→L2.St→Hp→Prop)(h0:Pv 0 σ H)(hl:∀ i σ H,i≤kvs.length→Pv i σ H→D2f P w H d kvs o)
  (hs:∀ i k b v σ H,kvs[i]?=some (k,b,v)→Pv i σ H→g (.ref b) σ H fun σ2 H2=>tb { D with nx:=Pv (i+1),ct:=Pv (i+1),bk:=D.nx } σ2 H2) (hd:∀ σ H,Pv kvs.length σ H→D.nx σ H) :
  ∃ W:Nat→Nat→L2.St→Hp→Prop,(∃ m,W 0 m σ H)∧∀ i m σ H,W i m σ H →
   ((Itk P w d o kvs).stop i H∧D.nx σ H)∨((Itk P w d o kvs).go i H∧∃ N:L2.St→Hp→Prop,(∀ σ' H',N σ' H'→∃ m',m'<m∧W (i+1) m' σ' H')∧∀ x H',(Itk P w d o kvs).yld i H x H'→g x σ H' fun σ2 H2=>tb { D with nx:=N,ct:=N,bk:=D.nx } σ2 H2):=by
 refine⟨fun i m σ H=>m=kvs.length-i∧i≤kvs.length∧Pv i σ H,⟨kvs.length,by simp,Nat.zero_le _,h0⟩,?_⟩
 rintro i m σ H ⟨rfl,hi,p⟩
 have q:=hl i σ H hi p
 by_cases hlt:i<kvs.length
 ·refine .inr ⟨⟨hlt,q⟩,Pv (i+1),fun σ' H' p'=>⟨kvs.length-(i+1),by omega,rfl,hlt,p'⟩,fun x H' y=>?_⟩
  obtain⟨e2,k,b,v,hx,e⟩:=y
  subst e e2
  exact hs i k b v σ _ hx p
 ·have e:i=kvs.length:=by omega
  subst e
  exact .inl ⟨⟨Nat.le_refl _,q⟩,hd σ H p⟩
end NK
namespace L2
open PySem PySem.Spec PyProof.Rows
theorem rN {X:Cx}{K:PySem.W.Frag}(hK:X.K=K)(hu:X.A.units<cLine):OpR X (compareOp .NotEq) (fun x y H Q=>∃ (a b:Addr) (xs:List V),x=.ref a∧y=.ref b∧SqL K H a xs∧SqL K H b []∧Q (.bl (!decide (xs.length=0))) H):=by
 subst hK
 intro pins s σ H x y v u Q I rx ry h
 obtain⟨a,b,xs,rfl,rfl,ha,hb,q⟩:=h
 cases rx
 cases ry
 obtain⟨i1,r1,p1,z1⟩:=I.list ha
 obtain⟨i2,r2,p2,z2⟩:=I.list hb
 have l1:xs.length=i1.length:=r1.length
 have l2:0=i2.length:=r2.length
 by_cases c:xs.length=0
 ·refine SeqAt.RcNeAt.lists (A:=X.A) (e:=fun j=>true) p1.isList p2.isList (by simp only[List.size_toArray];omega) hu (fun j h1 h2=>?_) X.prog X.w X.xe _ ⟨.bl (!decide (xs.length=0)),H,I,?_,q⟩
  ·exfalso
   simp only[List.size_toArray] at h1
   omega
  ·show Value.bool _=Value.bool _
   congr 2
   rw[decide_eq_true c]
   exact List.all_eq_true.mpr fun _ _=>rfl
 ·refine SeqAt.RcNeAt.lists_lengths (A:=X.A) p1.isList p2.isList (by simp only[List.size_toArray,bne_iff_ne];omega) hu X.prog X.w X.xe _ ⟨.bl (!decide (xs.length=0)),H,I,?_,q⟩
  show Value.bool _=Value.bool _
  rw[decide_eq_false c]
  rfl
end L2

namespace jr
open PySem PySem.Spec PyProof.Rows PySem.W L2
noncomputable def Hw (h:Heap)(v:Value)(r:Int):Prop:=∃ (t:Addr) (o:Obj) (n:Nat) (u:Tok) (ys:List Value),v=.ref t∧h.get? t=some o∧o.cls=.type "tuple"∧o.data=.seq (Value.int r u::ys).toArray n
theorem Hw.uniq {h:Heap}{v:Value}{r r':Int}(p:Hw h v r)(q:Hw h v r'):r=r':=by
 obtain⟨t,o,n,u,ys,rfl,e1,e2,e3⟩:=p
 obtain⟨t',o',n',u',ys',f0,f1,f2,f3⟩:=q
 injection f0 with f0
 subst f0
 rw[e1] at f1
 obtain rfl:=Option.some.inj f1
 rw[e3] at f3
 injection f3 with f3 _
 have f3:=congrArg Array.toList f3
 injection f3 with g1 g2
 injection g1 with g1 _
open Classical in
noncomputable def rkW (h:Heap)(v:Value):Int:=if e:∃ r,Hw h v r then choose e else 0
theorem rO {h:Heap}{v:Value}{r:Int}(p:Hw h v r):rkW h v=r:=by
 unfold rkW
 have e:∃ r,Hw h v r:=⟨r,p⟩
 rw[dif_pos e]
 exact(Classical.choose_spec e).uniq p
@[reducible] noncomputable def A3 (h:Heap)(ts:List Addr):RkP:=⟨fun p=>∃ t∈ts,p.1=.ref t∧∃ r,Hw h (.ref t) r,fun p=>rkW h p.1,tuples' true⟩
theorem nI {prog:Program}{w:World}{A:Around}{s:Shared}{b fin:Bool}{Q:Bool→Shared→Prop}(q:Q fin s):∀ (l:List Value) (i:Nat),KatLex prog w A b fin Q (l.map fun y=>(y,y)) i s
 | [],i=>kat_nil q
 | y::l,i=>by
  refine kat_cons (SeqAt.EqAt.same y prog w _ _ ?_)
  exact kat_yes (nI q l (i+1))
theorem yY {prog:Program}{w:World}{A:Around}{s:Shared}{h:Heap}{ts:List Addr}(inj:∀ t∈ts,∀ t'∈ts,∀ r,Hw h (.ref t) r→Hw h (.ref t') r→t=t')(k:∀ b o,h.get? b=some o→s.heap.get? b=some o):@Asks (A3 h ts) prog w A s:=by
 letI:=A3 h ts
 intro x y ⟨t,ht,ex,r,px⟩ ⟨t',ht',ey,r',py⟩ E Q q0
 have q:Q (decide (r<r')) s:=by
  have e1:num x=r:=by show rkW h x.1=r;rw[ex];exact rO px
  have e2:num y=r':=by show rkW h y.1=r';rw[ey];exact rO py
  rw[e1,e2] at q0
  exact q0
 clear q0
 obtain⟨x1,x2⟩:=x
 obtain⟨y1,y2⟩:=y
 have ex:x1=.ref t:=ex
 have ey:y1=.ref t':=ey
 subst ex ey
 show wpAny _ _ (keyLt' (tuples' true) (.ref t) (.ref t')) _ _ _
 by_cases c:r=r'
 ·subst c
  obtain rfl:=inj t ht t' ht' r px py
  obtain⟨t2,o,n,u,ys,e0,e1,e2,e3⟩:=px
  injection e0 with e0
  subst e0
  refine kat_lt (k _ _ e1) e3 (k _ _ e1) e3 ?_
  have z:=nI (prog:=prog) (w:=w) (A:=A) (b:=true) (Q:=Q) (fin:=decide ((Value.int r u::ys).length<(Value.int r u::ys).length)) (s:=s) (by rw[show decide ((Value.int r u::ys).length<(Value.int r u::ys).length)=decide (r<r) from decide_eq_decide.mpr (by omega)];exact q) (Value.int r u::ys) 0
  have e:(Value.int r u::ys).map (fun y=>(y,y))=(Value.int r u::ys).zip (Value.int r u::ys):=by
   generalize (Value.int r u::ys)=l
   induction l with
   | nil=>rfl
   | cons a l ih=>rw[List.map_cons,ih];rfl
  rw[e] at z
  simpa using z
 ·obtain⟨t2,o,n,u,ys,e0,e1,e2,e3⟩:=px
  injection e0 with e0
  subst e0
  obtain⟨t2,o',n',u',ys',f0,f1,f2,f3⟩:=py
  injection f0 with f0
  subst f0
  refine kat_lt (k _ _ e1) e3 (k _ _ f1) f3 ?_
  have z:KatLex prog w A true (decide ((Value.int r u::ys).length<(Value.int r' u'::ys').length)) Q ((Value.int r u,Value.int r' u')::ys.zip ys') 0 s:=by
   refine kat_cons (wpAny_eqBool_int ?_)
   rw[show (r == r')=false from beq_eq_false_iff_ne.mpr c]
   exact kat_no (oneLt_int q)
  simpa using z
end jr
namespace L2
open PySem PySem.Spec PyProof.Rows jr
section
variable {X:Cx}
theorem B3 {pins:List (Addr×Obj)}{s:Shared}{σ:L2.St}{H:Hp}{t:Addr}{r:Int}{rs:List V}(I:Inv X pins σ H s)(h:H t=some (.tup (.int r::rs))):Hw s.heap (.ref t) r:=by
 obtain⟨its,rv,⟨o,e1,e2,n,e3⟩,_⟩:=I.tuple (SqT.of h)
 cases rv with
 | cons r1 rr =>
  obtain⟨u1,rfl⟩:=r1
  exact⟨t,o,n,u1,_,rfl,e1,e2,e3⟩
theorem xq {h:Heap}:∀ ts:List Addr,(∀ t∈ts,∃ r,Hw h (.ref t) r)→∃ fs:List Value,PySem.W.KatTups h (ts.map Value.ref) fs∧∀ v∈fs,∃ i u,v=Value.int i u
 | [],_=>⟨[],PySem.W.KatTups.nil,fun v hv=>absurd hv List.not_mem_nil⟩
 | t::ts,hp=>by
  obtain⟨fs,h1,h2⟩:=xq ts fun t ht=>hp t (List.mem_cons_of_mem _ ht)
  obtain⟨r,t',o,n,u,ys,e0,e1,e2,e3⟩:=hp t List.mem_cons_self
  injection e0 with e0
  subst e0
  refine⟨Value.int r u::fs,PySem.W.KatTups.cons e1 e2 e3 rfl h1,fun v hv=>?_⟩
  rcases List.mem_cons.mp hv with rfl | hv
  ·exact⟨_,_,rfl⟩
  ·exact h2 v hv
theorem oT:eO X (.builtin "sorted") (fun xs H Q=>∃ (p:Addr) (ts:List Addr) (g:Addr→Int),xs=[.ref p]∧SqL X.K H p (ts.map V.ref)∧ts.length<64∧(ts.Pairwise fun t u=>g t≠g u)∧(∀ t∈ts,∃ rs:List V,H t=some (.tup (.int (g t)::rs))) ∧
  ∀ (us:List Addr) (l:Addr),us.Perm ts→(us.Pairwise fun t u=>g t<g u)→H l=none→Q (.ref l) (upd H l (.lst (us.map V.ref)))):=by
 intro pins s σ H xs us Q I r h
 obtain⟨p,ts,g,rfl,hq,h64,hne,ht,q⟩:=h
 obtain⟨u,rfl,ru⟩:=r.one
 cases ru
 obtain⟨its,rv,pl,hz⟩:=I.list hq
 obtain rfl:=j7 rv
 have hpr:∀ t∈ts,Hw s.heap (.ref t) (g t):=fun t hm=>by
  obtain⟨rs,e1⟩:=ht t hm
  exact B3 I e1
 have inj:∀ t∈ts,∀ t'∈ts,g t=g t'→t=t':=fun t h1 t' h2 e=>by
  obtain⟨i,hi,e1⟩:=List.getElem_of_mem h1
  obtain⟨j,hj,e2⟩:=List.getElem_of_mem h2
  have z:=List.pairwise_iff_getElem.mp hne
  by_cases c:i=j
  ·subst c;rw[← e1,← e2]
  ·exfalso
   rcases Nat.lt_or_gt_of_ne c with c | c
   ·have:=z i j hi hj c;rw[e1,e2] at this;exact this e
   ·have:=z j i hj hi c;rw[e1,e2] at this;exact this e.symm
 have hfr:H (s.heap.objs.size+1)=none:=I.hok.fresh (Nat.le_succ _)
 have fin:∀ (out:Array Value),out.toList.Perm (ts.map Value.ref)→(out.toList.Pairwise fun u v=>rkW s.heap u≤rkW s.heap v)→EP X pins σ Q (.ref (s.heap.objs.size+1)) { s with heap:=sortedAll s.heap (ts.map Value.ref) out }:=fun out a1 a2=>by
  obtain⟨ws,e,hw⟩:=nh a1
  obtain⟨c,he⟩:=sortedAll_at s.heap (ts.map Value.ref) out
  have hg:∀ t∈ws,rkW s.heap (.ref t)=g t:=fun t hm=>rO (hpr t (hw.mem_iff.mp hm))
  have nw:ws.Pairwise fun t u=>g t≠g u:=hw.symm.pairwise hne (fun h=>h.symm)
  have a3:ws.Pairwise fun t u=>g t<g u:=by
   rw[e,List.pairwise_map] at a2
   refine List.Pairwise.imp_of_mem (R:=fun t u=>rkW s.heap (.ref t)≤rkW s.heap (.ref u)∧g t≠g u) (fun {x y} hx hy z=>?_) (List.Pairwise.and a2 nw)
   rw[hg x hx,hg y hy] at z
   omega
  refine⟨.ref (s.heap.objs.size+1),_,I.laid (a:=s.heap.objs.size+1) (o:=.lst (ws.map V.ref)) (t':=s.toks) (fun b o=>sortedAll_old) (Nat.le_succ _) ⟨?_,out.toList,c,by rw[e];exact iY ws,by simpa[seqObj] using he⟩,rfl,q ws _ hw a3 hfr⟩
  rw[List.length_map,hw.length_eq]
  have:=sizeLine_eq
  omega
 by_cases c:2≤ts.length
 ·letI:=A3 s.heap ts
  obtain⟨fs,k1,k2⟩:=xq (h:=s.heap) ts fun t hm=>⟨_,hpr t hm⟩
  refine iK (fs:=fs) (rk:=rkW s.heap) (T:=.type "int") (fun p=>rfl) rfl rfl pl.isList (by rw[List.length_map];exact c) (by rw[List.length_map];exact h64) (fun A' h' hk=>?_) fun out a1 a2=>fin out a1 a2
  refine⟨lM hk k1,fun v hv=>?_,fun p hp=>?_,yY (fun t h1 t' h2 r p1 p2=>inj t h1 t' h2 ((hpr t h1).uniq p1 |>.trans ((hpr t' h2).uniq p2).symm)) hk⟩
  ·obtain⟨i,u,rfl⟩:=k2 v hv
   exact .now
  ·have ez:(pairsOf (ts.map Value.ref)).toList=(ts.map Value.ref).zip (ts.map Value.ref):=by unfold pairsOf;simp
   rw[ez] at hp
   obtain⟨t,hm,e⟩:=List.mem_map.mp (List.of_mem_zip hp).1
   exact⟨t,hm,e.symm,g t,hpr t hm⟩
 ·refine lK pl.isList (by rw[List.length_map];omega) (fin _ (by simp) ?_)
  match ts,c with
  | [],_=>exact List.Pairwise.nil
  | [t],_=>exact List.pairwise_singleton _ _
  | _::_::_,c=>exact absurd (by simp) c
end
end L2

namespace Mir
open PySem L2 NK
theorem xr (x:Int):∀ l:List Int,inV (.int x) (iV l)=decide (x∈l)
 | []=>rfl
 | y::r=>by
  have ih:=xr x r
  unfold inV at ih ⊢
  show ((decide (y=x))||(iV r).any _)=_
  rw[ih]
  by_cases c:x=y
  ·subst c
   rw[decide_eq_true (rfl:x=x),Bool.true_or,decide_eq_true List.mem_cons_self]
  ·rw[decide_eq_false (fun z=>c z.symm),Bool.false_or]
   exact decide_eq_decide.mpr ⟨fun z=>List.mem_cons_of_mem _ z,fun z=>(List.mem_cons.mp z).resolve_left c⟩
theorem tL (l:List Int):(iV l).all fY=true:=List.all_eq_true.mpr fun v hv=>by
 obtain⟨x,_,rfl⟩:=List.mem_map.mp hv
 rfl
noncomputable def rP:Sp:=fun vs H Q _=>∃ (t:Addr) (rs:List Int),vs=[.ref t]∧H t=some (.tup (iV rs))∧Fit rs∧∀ H':Hp,aq H H'→Q (.int (cK (aS rs))) H'
end Mir

namespace Mir
open PySem L2 NK
noncomputable def tM:Sp:=fun vs H Q _=>∃ (l:Addr) (rs:List Int) (spot:Nat) (low:Int),vs=[.ref l,.int spot]∧H l=some (.lst (iV rs))∧rs.Perm (df rs.length)∧rs[spot]?=some low∧rs.length≤40∧∀ (r:Addr) (H':Hp) (ss:List Int),aq H H'→H' r=some (.lst (iV ss))→ss.Perm (df ss.length)→ss.length=rs.length+3→Q (.ref r) H'
noncomputable def tO:Sp:=fun vs H Q _=>∃ c:Int,vs=[.int c]∧∀ (t:Addr) (H':Hp) (rs:List Int),aq H H'→H' t=some (.tup (iV rs))→Fit rs→rs.length≤30→Q (.ref t) H'
noncomputable def LlT (H:Hp)(l:Addr)(cs:List (List Pr2)):Prop:=∃ ls:List Addr,H l=some (.lst (ls.map V.ref))∧ls.length=cs.length∧∀ (i:Nat) (a:Addr) (c:List Pr2),ls[i]?=some a→cs[i]?=some c→TsT pr H a c
theorem LlT.same {H H':Hp}{l:Addr}{cs:List (List Pr2)}(h:LlT H l cs)(s:aq H H'):LlT H' l cs:=by
 obtain⟨ls,h1,h2,h3⟩:=h
 exact⟨ls,s _ _ h1,h2,fun i a c e1 e2=>(h3 i a c e1 e2).same s⟩
noncomputable def tP:Sp:=fun vs H Q _=>∃ (l:Addr) (kins:List Pr2),vs=[.ref l]∧TsT pr H l kins∧kins.length≤100∧jC kins∧∀ (r:Addr) (H':Hp),H r=none→aq H H'→LlT H' r (fH kins)→Q (.ref r) H'
noncomputable def tQ:Sp:=fun vs H Q _=>∃ (l a:Addr) (kins c:List Pr2),vs=[.ref l,.ref a]∧TsT pr H l kins∧kins.length≤60∧jC kins∧TsT pr H a c∧c≠[]∧(hd2 c).1<(bL c).2∧∀ H':Hp,aq H H'→(dA kins c=[]→Q .non H')∧∀ (t:Addr) (k:Pr2),dA kins c=[k]→H' t=some (.tup (pr k))→Q (.ref t) H'
noncomputable def tR:Sp:=fun vs H Q _=>∃ (l lc t:Addr) (kins:List Pr2) (cs:List (List Pr2)) (k:Pr2) (rk:Nod→Nat) (M:Nat) (root:Nod),vs=[.ref l,.ref lc,.ref t]∧TsT pr H l kins∧kins.length≤60∧jC kins∧LlT H lc cs∧cs.length≤60∧ChP kins cs∧(∀ c∈cs,c.length≤60)∧H t=some (.tup (pr k))∧k∈kins∧Tr (ndV kins cs) (upK kins cs) rk M root∧M<200 ∧
 ∀ (r:Addr) (H':Hp),H r=none→aq H H'→Ths H' r ((cL (upK kins cs) 200 (.inl k)).map lI)→Q (.ref r) H'
noncomputable def zE:Sp:=fun vs H Q _=>∃ (a b:Addr) (one two:List Nd),vs=[.ref a,.ref b]∧Ths H a one∧Ths H b two∧one.length≤200∧two.length≤200∧∀ (r:Addr) (H':Hp),H r=none→aq H H'→Ths H' r (btw one two)→Q (.ref r) H'
theorem l8 {k:Pr2}:∀ {cs:List (List Pr2)},(∀ c∈cs,(bL c).2≠k.1)→eR cs k=cs++[[k]]
 | [],_=>rfl
 | c::r,h=>by
  show (if (bL c).2=k.1 then _ else c::eR r k)=_
  rw[if_neg (h c List.mem_cons_self),l8 fun d hd=>h d (List.mem_cons_of_mem _ hd)]
  rfl
theorem qt {k:Pr2}:∀ {cs:List (List Pr2)} {j:Nat} {c:List Pr2},cs[j]?=some c→(bL c).2=k.1→(∀ i,i<j→∀ d,cs[i]?=some d→(bL d).2≠k.1)→eR cs k=cs.set j (c++[k])
 | [],_,_,h,_,_=>by simp at h
 | d::r,0,c,h,e,_=>by
  cases h
  show (if (bL d).2=k.1 then _ else _)=_
  rw[if_pos e]
  rfl
 | d::r,j+1,c,h,e,no=>by
  show (if (bL d).2=k.1 then _ else d::eR r k)=_
  rw[if_neg (no 0 (by omega) d rfl),qt (cs:=r) h e fun i hi d' hd=>no (i+1) (by omega) d' hd]
  rfl
theorem nJ {k:Pr2}:∀ {cs:List (List Pr2)} {c:List Pr2},c∈eR cs k→c∈cs∨c=[k]∨∃ d∈cs,c=d++[k]
 | [],c,h=>.inr (.inl (List.mem_singleton.mp h))
 | d::r,c,h=>by
  have h:c∈(if (bL d).2=k.1 then (d++[k])::r else d::eR r k):=h
  split at h
  ·rcases List.mem_cons.mp h with rfl | h
   ·exact .inr (.inr ⟨d,List.mem_cons_self,rfl⟩)
   ·exact .inl (List.mem_cons_of_mem _ h)
  ·rcases List.mem_cons.mp h with rfl | h
   ·exact .inl List.mem_cons_self
   ·rcases nJ h with h | h | ⟨d',hd,rfl⟩
    ·exact .inl (List.mem_cons_of_mem _ h)
    ·exact .inr (.inl h)
    ·exact .inr (.inr ⟨d',List.mem_cons_of_mem _ hd,rfl⟩)
theorem nK {k:Pr2}:∀ {cs:List (List Pr2)},(eR cs k).length≤cs.length+1
 | []=>Nat.le_refl _
 | d::r=>by
  show (if (bL d).2=k.1 then (d++[k])::r else d::eR r k).length≤r.length+1+1
  have:=nK (cs:=r) (k:=k)
  split
  ·show r.length+1≤_;omega
  ·show (eR r k).length+1≤_;omega
theorem kH:∀ kins:List Pr2,(fH kins).length≤kins.length∧∀ c∈fH kins,c≠[]∧c.length≤kins.length:=by
 refine gh (P:=fun kins=>(fH kins).length≤kins.length∧∀ c∈fH kins,c≠[]∧c.length≤kins.length) ⟨Nat.le_refl _,fun c hc=>absurd hc List.not_mem_nil⟩ ?_
 intro kins k ⟨h1,h2⟩
 rw[iZ,List.length_append,List.length_singleton]
 refine⟨Nat.le_trans nK (by omega),fun c hc=>?_⟩
 rcases nJ hc with hc | rfl | ⟨d,hd,rfl⟩
 ·have:=h2 c hc;exact⟨this.1,by omega⟩
 ·exact⟨by simp,by show 1≤_;omega⟩
 ·have:=h2 d hd
  exact⟨by simp,by rw[List.length_append,List.length_singleton];omega⟩
theorem TsT.last {H:Hp}{a:Addr}{c:List Pr2}(h:TsT pr H a c)(ne:c≠[]):∃ vs t,H a=some (.lst vs)∧atI vs (-1)=some (.ref t)∧H t=some (.tup (pr (bL c))):=by
 obtain⟨ts,h1,h2,h3⟩:=h
 have c0:0<c.length:=List.length_pos_iff.mpr ne
 have gl:=List.getElem?_eq_getElem (l:=ts) (i:=ts.length-1) (by omega)
 refine⟨_,_,h1,oK (by rw[List.getLast?_map,List.getLast?_eq_getElem?,gl];rfl),h3 _ _ _ gl ?_⟩
 unfold bL
 rw[h2,← List.getLast?_eq_getElem?,List.getLastD_eq_getLast?,List.getLast?_eq_some_getLast ne]
 rfl
theorem TsT.first {H:Hp}{a:Addr}{c:List Pr2}(h:TsT pr H a c)(ne:c≠[]):∃ vs t,H a=some (.lst vs)∧atI vs 0=some (.ref t)∧H t=some (.tup (pr (hd2 c))):=by
 obtain⟨ts,h1,h2,h3⟩:=h
 have c0:0<c.length:=List.length_pos_iff.mpr ne
 have gl:=List.getElem?_eq_getElem (l:=ts) (i:=0) (by omega)
 refine⟨_,_,h1,aW (j:=0) (by rw[List.getElem?_map,gl];rfl),h3 _ _ _ gl ?_⟩
 cases c with
 | nil=>exact absurd rfl ne
 | cons x r=>rfl
structure LcT (H0 H:Hp) (l:Addr) (ls:List Addr) (cs:List (List Pr2)):Prop where
 at':H l=some (.lst (ls.map V.ref))
 len:ls.length=cs.length
 nd:ls.Nodup
 new:∀ a∈ls,H0 a=none
 it:∀ (i:Nat) (a:Addr) (c:List Pr2),ls[i]?=some a→cs[i]?=some c→TsT pr H a c
theorem LcT.same {H0 H H':Hp}{l:Addr}{ls:List Addr}{cs:List (List Pr2)}(h:LcT H0 H l ls cs)(s:aq H H'):LcT H0 H' l ls cs:=⟨s _ _ h.at',h.len,h.nd,h.new,fun i a c e1 e2=>(h.it i a c e1 e2).same s⟩
theorem LcT.more {H0 H:Hp}{l n t:Addr}{ls:List Addr}{cs:List (List Pr2)}{k:Pr2}(h:LcT H0 H l ls cs)(hn:H0 n=none)(h1:H n=some (.lst [.ref t]))(ht:H t=some (.tup (pr k)))(hl:∀ a∈ls,a≠l)(nl:n≠l)(nn:n ∉ ls):LcT H0 (L2.upd H l (.lst (ls.map V.ref++[.ref n]))) l (ls++[n]) (cs++[[k]]):=by
 have g:∀ {a:Addr} {c:List Pr2},TsT pr H a c→a≠l→TsT pr (L2.upd H l (.lst (ls.map V.ref++[.ref n]))) a c:=fun q e=>q.other h.at' (Ne.symm e)
 refine⟨by rw[ae,List.map_append];rfl,by rw[List.length_append,List.length_append,h.len];rfl,?_,fun a ha=>?_,fun i a c e1 e2=>?_⟩
 ·rw[List.nodup_append]
  exact⟨h.nd,by simp,fun a ha b hb e=>nn (by rw[List.mem_singleton.mp hb] at e;rwa[← e])⟩
 ·rcases List.mem_append.mp ha with ha | ha
  ·exact h.new a ha
  ·rw[List.mem_singleton.mp ha];exact hn
 ·by_cases z:i<ls.length
  ·rw[List.getElem?_append_left z] at e1
   rw[List.getElem?_append_left (by rw[← h.len];exact z)] at e2
   exact g (h.it i a c e1 e2) (hl a (List.mem_of_getElem? e1))
  ·have hi:=(List.getElem?_eq_some_iff.mp e1).1
   rw[List.length_append,List.length_singleton] at hi
   have:i=ls.length:=by omega
   subst this
   rw[List.getElem?_append_right (Nat.le_refl _),Nat.sub_self] at e1
   rw[List.getElem?_append_right (by rw[h.len];exact Nat.le_refl _),h.len,Nat.sub_self] at e2
   cases e1
   cases e2
   refine g ⟨[t],h1,rfl,fun i u q e1 e2=>?_⟩ nl
   cases i with
   | zero=>cases e1;cases e2;exact ht
   | succ i=>simp at e1
theorem LcT.put {H0 H:Hp}{l a t:Addr}{ls:List Addr}{cs:List (List Pr2)}{c:List Pr2}{k:Pr2}{j:Nat}{vs:List V}(h:LcT H0 H l ls cs)(hl:∀ a∈ls,a≠l)(ea:ls[j]?=some a)(ec:cs[j]?=some c)(hv:H a=some (.lst vs))(hT:TsT pr (L2.upd H a (.lst (vs++[.ref t]))) a (c++[k])):LcT H0 (L2.upd H a (.lst (vs++[.ref t]))) l ls (cs.set j (c++[k])):=by
 have na:a≠l:=hl a (List.mem_of_getElem? ea)
 refine⟨by rw[ao (Ne.symm na)];exact h.at',by rw[List.length_set];exact h.len,h.nd,h.new,fun i b d e1 e2=>?_⟩
 by_cases z:i=j
 ·subst z
  rw[ea] at e1
  cases e1
  rw[List.getElem?_set_self (by exact(List.getElem?_eq_some_iff.mp ec).1)] at e2
  cases e2
  exact hT
 ·rw[List.getElem?_set_ne (Ne.symm z)] at e2
  refine(h.it i b d e1 e2).other hv fun e=>z ?_
  subst e
  exact(List.getElem?_inj (List.getElem?_eq_some_iff.mp e1).1 h.nd).mp (e1.trans ea.symm)
theorem LcT.llt {H0 H:Hp}{l:Addr}{ls:List Addr}{cs:List (List Pr2)}(h:LcT H0 H l ls cs):LlT H l cs:=⟨ls,h.at',h.len,h.it⟩
variable (P:Program)(w:World)
noncomputable def qu:Sp:=fun vs H Q _=>∃ (l lk:Addr) (rs:List Int),vs=[.ref l,.ref lk]∧Fit rs∧TsT pr H l (KI rs)∧TsT pr H lk (KN rs)∧∀ (a:Addr) (es:Es) (Y:Web) (H':Hp),H a=none→aq H H'→WbT P w H' a es Y→(az Y).Nodup→Y.length≤500→Rp Y lI (VT rs) (EdT rs)→(∀ k∈az Y,∃ v∈VT rs,k=lI v)→(∀ p∈KN rs,pN p∈az Y)→Q (.ref a) H'
noncomputable def qv:Sp:=fun vs H Q _=>∃ (a lk t:Addr) (es:Es) (Y:Web) (ks:List Pr2) (e:Pr2),vs=[.ref a,.ref lk,.ref t]∧WbT P w H a es Y∧(az Y).Nodup∧Y.length≤500∧(∀ x y,y∈lkW Y x→y∈az Y)∧TsT pr H lk ks∧ks.length≤60∧H t=some (.tup (pr e))∧pN e∈az Y∧∀ H':Hp,aq H H'→Q (.int (uM Y ks e:Nat)) H'
noncomputable def i5:Sp:=fun vs H Q _=>∃ (t:Addr) (rs:List Int),vs=[.ref t]∧H t=some (.tup (iV rs))∧Fit rs∧∀ (r:Addr) (H':Hp),H r=none→aq H H'→TsT pr H' r (bP (d4 rs) (KN rs))→Q (.ref r) H'
noncomputable def nL:Sp:=fun vs H Q _=>∃ (t a b:Addr) (rs:List Int),vs=[.ref t,.ref a,.ref b,.int (cK (aS rs))]∧H t=some (.tup (iV rs))∧Fit rs∧TsT pr H a (bP (d4 rs) (KN rs))∧H b=some (.lst (iV (aS rs)))∧∀ H':Hp,aq H H'→Q (.bl true) H'
end Mir

namespace Mir
open PySem L2 NK
theorem tS {kins c:List Pr2}(L:jC kins)(h:(hd2 c).1<(bL c).2):(dz kins c).Pairwise fun p q=>q.2-q.1<p.2-p.1:=by
 have a2:(dz kins c).Pairwise fun p q=>p.1<q.1:=L.asc.sublist List.filter_sublist
 rw[List.pairwise_iff_getElem] at a2 ⊢
 intro i j hi hj hij
 have h1:=a2 i j hi hj hij
 obtain⟨k1,r1⟩:=List.mem_filter.mp (List.getElem_mem hi)
 obtain⟨k2,r2⟩:=List.mem_filter.mp (List.getElem_mem hj)
 have r1:=hX.mp r1
 have r2:=hX.mp r2
 have:=L.two _ k1 _ k2 h1
 omega
theorem yZ {kins c:List Pr2}{p:Pr2}{j:Nat}(h:(dz kins c)[j]?=some p)(hj:j+1=(dz kins c).length):dA kins c=[p]:=by
 unfold dA
 have hl:=(List.getElem?_eq_some_iff.mp h).1
 rw[show (dz kins c).length-1=j by omega,List.drop_eq_getElem_cons hl]
 rw[List.getElem?_eq_getElem hl] at h
 rw[Option.some.inj h,List.drop_eq_nil_of_le (by omega)]
theorem xt {kins c:List Pr2}(h:dz kins c=[]):dA kins c=[]:=by unfold dA;rw[h];rfl
noncomputable def WdT (H:Hp)(l:Addr)(ts:List Addr)(ps:List Pr2):Prop:=H l=some (.lst (ts.map V.ref))∧ts.length=ps.length∧∀ (i:Nat) (t:Addr) (p:Pr2),ts[i]?=some t→ps[i]?=some p→∃ u,H t=some (.tup [.int (p.2-p.1),.ref u])∧H u=some (.tup (pr p))
noncomputable def hdI (H:Hp)(t:Addr):Int:=match H t with
 | some (.tup (.int x::_))=>x
 | _=>0
theorem l9 {H:Hp}{t:Addr}{x:Int}{r:List V}(h:H t=some (.tup (.int x::r))):hdI H t=x:=by unfold hdI;rw[h]
theorem y0 {H:Hp}{l:Addr}{ts us:List Addr}{kins c:List Pr2}{t0:Addr}(L:jC kins)(hc:(hd2 c).1<(bL c).2)(h:WdT H l ts (dz kins c))(hp:us.Perm ts)(hs:us.Pairwise fun t u=>hdI H t<hdI H u)(h0:us[0]?=some t0):∃ p u,dA kins c=[p]∧H t0=some (.tup [.int (p.2-p.1),.ref u])∧H u=some (.tup (pr p)):=by
 obtain⟨h1,h2,h3⟩:=h
 have m0:=hp.mem_iff.mp (List.mem_of_getElem? h0)
 obtain⟨j,hj,ej⟩:=List.getElem_of_mem m0
 have e1:=List.getElem?_eq_getElem hj
 rw[ej] at e1
 have e2:=List.getElem?_eq_getElem (l:=dz kins c) (i:=j) (by omega)
 obtain⟨u,q1,q2⟩:=h3 j t0 _ e1 e2
 by_cases z:j+1=(dz kins c).length
 ·exact⟨_,u,yZ e2 z,q1,q2⟩
 ·exfalso
  have hl:(dz kins c).length-1<ts.length:=by omega
  have f1:=List.getElem?_eq_getElem hl
  have f2:=List.getElem?_eq_getElem (l:=dz kins c) (i:=(dz kins c).length-1) (by omega)
  obtain⟨u',r1,r2⟩:=h3 _ _ _ f1 f2
  have lt:=List.pairwise_iff_getElem.mp (tS L hc) j ((dz kins c).length-1) (by omega) (by omega) (by omega)
  have g1:=l9 q1
  have g2:=l9 r1
  have m1:=hp.mem_iff.mpr (List.getElem_mem hl)
  obtain⟨i,hi,ei⟩:=List.getElem_of_mem m1
  have h0':=(List.getElem?_eq_some_iff.mp h0)
  obtain⟨l0,e0⟩:=h0'
  by_cases i0:i=0
  ·subst i0
   rw[e0] at ei
   rw[← ei] at g2
   omega
  ·have:=List.pairwise_iff_getElem.mp hs 0 i l0 hi (by omega)
   rw[e0,ei] at this
   omega
theorem WdT.dist {H:Hp}{l:Addr}{ts:List Addr}{kins c:List Pr2}(L:jC kins)(hc:(hd2 c).1<(bL c).2)(h:WdT H l ts (dz kins c)):(ts.Pairwise fun t u=>hdI H t≠hdI H u)∧∀ t∈ts,∃ rs:List V,H t=some (.tup (.int (hdI H t)::rs)):=by
 obtain⟨h1,h2,h3⟩:=h
 refine⟨?_,fun t ht=>?_⟩
 ·rw[List.pairwise_iff_getElem]
  intro i j hi hj hij e
  obtain⟨u,q1,q2⟩:=h3 i _ _ (List.getElem?_eq_getElem hi) (List.getElem?_eq_getElem (by omega))
  obtain⟨u',r1,r2⟩:=h3 j _ _ (List.getElem?_eq_getElem hj) (List.getElem?_eq_getElem (by omega))
  rw[l9 q1,l9 r1] at e
  have:=List.pairwise_iff_getElem.mp (tS L hc) i j (by omega) (by omega) hij
  omega
 ·obtain⟨i,hi,rfl⟩:=List.getElem_of_mem ht
  obtain⟨u,q1,q2⟩:=h3 i _ _ (List.getElem?_eq_getElem hi) (List.getElem?_eq_getElem (by omega))
  rw[l9 q1]
  exact⟨_,q1⟩
theorem _root_.NK.Ths.two {H:Hp}{l b b':Addr}{ks:List Nd}{k k':Nd}(h:Ths H l ks)(hb:K2 H k b)(hb':K2 H k' b'):∃ vs,H l=some (.lst vs)∧vs.length=ks.length∧Ths (L2.upd H l (.lst (vs++[.ref b,.ref b']))) l (ks++[k,k']):=by
 obtain⟨vs,v1,v2,T1⟩:=h.snoc hb
 have g:∀ c ys,H c=some (.tup ys)→L2.upd H l (.lst (vs++[.ref b])) c=some (.tup ys):=fun c ys e=>by
  rw[ao (fun z=>by rw[z,v1] at e;cases e)]
  exact e
 obtain⟨ws,w1,w2,T2⟩:=T1.snoc (hb'.keep g)
 rw[ae] at w1
 cases w1
 refine⟨vs,v1,v2,?_⟩
 have e1:L2.upd (L2.upd H l (.lst (vs++[.ref b]))) l (.lst (vs++[.ref b]++[.ref b']))=L2.upd H l (.lst (vs++[.ref b,.ref b'])):=by
  funext c
  by_cases z:c=l
  ·subst z;rw[ae,ae,List.append_assoc];rfl
  ·rw[ao z,ao z,ao z]
 rw[e1,List.append_assoc] at T2
 exact T2
theorem A4 {H:Hp}{n t:Addr}{h:Pr2}(h1:H n=some (.tup [.str "chain",.ref t]))(ht:H t=some (.tup (pr h))):K2 H (chN h) n:=⟨_,h1,.cons rfl (.cons ⟨t,rfl,ht⟩ .nil)⟩
section
variable {kins:List Pr2}{cs:List (List Pr2)}{rk:Nod→Nat}{M:Nat}{root:Nod}
theorem xu (C:ChP kins cs){c:List Pr2}(hc:c∈cs){p:Pr2}(hp:p∈c)(m:Nat):cL (upK kins cs) (m+2) (.inl p)=.inl p :: .inr (hd2 c)::(match (dA kins c).head?.map (Sum.inl:Pr2→Nod) with
  | none=>[]
  | some u=>cL (upK kins cs) m u):=by
 rw[show m+2=(m+1)+1 from rfl,cL,C.upC hc hp]
 dsimp only
 rw[cL,C.upS hc]
 cases (dA kins c).head? <;> rfl
theorem xw {c:List Pr2}{p:Pr2}:pN p∈c.map pN↔p∈c:=⟨fun h=>by obtain⟨q,hq,e⟩:=List.mem_map.mp h;rw[← eJ e];exact hq,fun h=>List.mem_map.mpr ⟨p,h,rfl⟩⟩
end
end Mir

namespace Mir
open PySem L2 NK
noncomputable def inB (two:List Nd)(x:Nd):Bool:=decide (x∈two)
theorem bI {two:List Nd}{x:Nd}:inB two x=true↔x∈two:=decide_eq_true_iff
theorem y4 {one two:List Nd}(h:one.filter (inB two)=[]):btw one two=one++two.reverse :=
 AY fun x hx z=>List.filter_eq_nil_iff.mp h x hx (bI.mpr z)
theorem xx {one two r:List Nd}{top:Nd}(h:one.filter (inB two)=top::r):btw one two=one.take (cH top one+1)++(two.take (cH top two)).reverse:=by
 obtain⟨pre,post,rfl,h1,h2⟩:=lU h
 exact yU (fun x hx z=>by have:=h1 x hx;rw[bI.mpr z] at this;cases this) (bI.mp h2)
noncomputable def Thv (H:Hp)(bs:List Addr)(ks:List Nd):Prop:=bs.length=ks.length∧∀ (i:Nat) (b:Addr) (k:Nd),bs[i]?=some b→ks[i]?=some k→K2 H k b
section
variable {H H':Hp}{l:Addr}{bs cs:List Addr}{ks js:List Nd}
theorem _root_.NK.Ths.thv (h:Ths H l ks):∃ bs,H l=some (.lst (bs.map V.ref))∧Thv H bs ks:=by
 obtain⟨bs,h1,h2,h3⟩:=h
 exact⟨bs,h1,h2,h3⟩
theorem Thv.ths (h:Thv H bs ks)(e:H l=some (.lst (bs.map V.ref))):Ths H l ks:=⟨bs,e,h.1,h.2⟩
theorem Thv.same (h:Thv H bs ks)(s:aq H H'):Thv H' bs ks:=⟨h.1,fun i b k e1 e2=>K2.same (h.2 i b k e1 e2) s⟩
theorem Thv.take (h:Thv H bs ks)(n:Nat):Thv H (bs.take n) (ks.take n):=⟨by rw[List.length_take,List.length_take,h.1],fun i b k e1 e2=>by
 rw[List.getElem?_take] at e1 e2
 by_cases c:i<n
 ·rw[if_pos c] at e1 e2;exact h.2 i b k e1 e2
 ·rw[if_neg c] at e1;cases e1⟩
theorem Thv.rev (h:Thv H bs ks):Thv H bs.reverse ks.reverse:=⟨by rw[List.length_reverse,List.length_reverse,h.1],fun i b k e1 e2=>by
 have l1:=(List.getElem?_eq_some_iff.mp e1).1
 rw[List.length_reverse] at l1
 rw[List.getElem?_reverse l1] at e1
 rw[List.getElem?_reverse (by rw[← h.1];exact l1),← h.1] at e2
 exact h.2 _ b k e1 e2⟩
theorem Thv.app (h:Thv H bs ks)(g:Thv H cs js):Thv H (bs++cs) (ks++js):=⟨by rw[List.length_append,List.length_append,h.1,g.1],fun i b k e1 e2=>by
 by_cases c:i<bs.length
 ·rw[List.getElem?_append_left c] at e1
  rw[List.getElem?_append_left (by rw[← h.1];exact c)] at e2
  exact h.2 i b k e1 e2
 ·rw[List.getElem?_append_right (by omega)] at e1
  rw[List.getElem?_append_right (by rw[← h.1];omega),← h.1] at e2
  exact g.2 _ b k e1 e2⟩
end
end Mir

namespace Mir
open PySem L2 NK
noncomputable def jD (W:Web)(k:Nd)(ls:List Nd):Web:=if k∈az W then W.map (fun t=>if t.1=k then (t.1,ls) else t) else W++[(k,ls)]
section
variable {W:Web}{k k':Nd}{ls:List Nd}
theorem nM:az (jD W k ls)=if k∈az W then az W else az W++[k]:=by
 unfold jD
 by_cases c:k∈az W
 ·rw[if_pos c,if_pos c]
  unfold az
  rw[List.map_map]
  refine List.map_congr_left fun t _=>?_
  show (if t.1=k then (t.1,ls) else t).1=t.1
  split <;> rfl
 ·rw[if_neg c,if_neg c]
  unfold az
  rw[List.map_append]
  rfl
theorem jE:k'∈az (jD W k ls)↔k'∈az W∨k'=k:=by
 rw[nM]
 by_cases c:k∈az W
 ·rw[if_pos c]
  exact⟨.inl,fun h=>h.elim id fun e=>e ▸ c⟩
 ·rw[if_neg c,List.mem_append,List.mem_singleton]
theorem tT (h:(az W).Nodup):(az (jD W k ls)).Nodup:=by
 rw[nM]
 by_cases c:k∈az W
 ·rw[if_pos c];exact h
 ·rw[if_neg c,List.nodup_append]
  exact⟨h,by simp,fun a ha b hb e=>c (by rw[List.mem_singleton.mp hb] at e;rwa[← e])⟩
theorem B4 (nd:(az W).Nodup){t u:Nd×List Nd}(ht:t∈W)(hu:u∈W)(e:t.1=u.1):t=u:=by
 obtain⟨i,hi,rfl⟩:=List.getElem_of_mem ht
 obtain⟨j,hj,rfl⟩:=List.getElem_of_mem hu
 unfold az at nd
 have z:(W.map (·.1))[i]'(by rw[List.length_map];exact hi)=(W.map (·.1))[j]'(by rw[List.length_map];exact hj):=by rw[List.getElem_map,List.getElem_map];exact e
 have:=(List.getElem_inj nd).mp z
 subst this
 rfl
theorem lkN (nd:(az W).Nodup){t:Nd×List Nd}(ht:t∈W):lkW W t.1=t.2:=by
 unfold lkW
 cases e:W.find? fun u=>decide (u.1=t.1) with
 | none=>exact absurd (List.find?_eq_none.mp e t ht) (by simp)
 | some u =>
  have h1:=List.mem_of_find?_eq_some e
  have h2:u.1=t.1:=of_decide_eq_true (List.find?_some (p:=fun u:Nd×List Nd=>decide (u.1=t.1)) e)
  rw[B4 nd h1 ht h2]
  rfl
theorem y6 (nd:(az W).Nodup):lkW (jD W k ls) k'=if k'=k then ls else lkW W k':=by
 have nd2:=tT (k:=k) (ls:=ls) nd
 by_cases c:k'∈az (jD W k ls)
 ·obtain⟨t,ht,rfl⟩:=mem_keys.mp c
  rw[lkN nd2 ht]
  unfold jD at ht
  split at ht
  ·obtain⟨u,hu,rfl⟩:=List.mem_map.mp ht
   by_cases e:u.1=k
   ·rw[if_pos e,if_pos e]
   ·rw[if_neg e,if_neg e,lkN nd hu]
  ·next nk =>
   rcases List.mem_append.mp ht with ht | ht
   ·rw[if_neg (fun e=>nk (mem_keys.mpr ⟨t,ht,e⟩)),lkN nd ht]
   ·rw[List.mem_singleton.mp ht,if_pos rfl]
 ·rw[cP c,if_neg (fun e=>c (jE.mpr (.inr e))),cP (fun z=>c (jE.mpr (.inl z)))]
end
section
variable {P:Program}{w:World}{H H':Hp}{a b l n em:Addr}{es:Es}{W:Web}{k:Nd}{ks ls:List Nd}
theorem WbT.rep (h:WbT P w H a es W)(nd:(az W).Nodup)(hb:K2 H k b)(hl:Ths H n ls)(nl:n ∉ es.map (·.2.2)):∃ es',WbT P w (L2.upd H a (d2O P w a (put2 (eV es) k b (.ref n)))) a es' (jD W k ls)∧(∀ e∈es',e∈es∨e.2.2=n)∧put2 (eV es) k b (.ref n)=eV es':=by
 by_cases c:k∈az W
 ·have g:∀ {c:Addr} {o:HO},H c=some o→(∀ φ,o≠.ext φ)→L2.upd H a (d2O P w a (put2 (eV es) k b (.ref n))) c=some o:=fun {c o} e m=>by
   rw[ao (fun z=>by rw[z,h.d.1] at e;exact m _ (Option.some.inj e).symm)]
   exact e
  have gt:∀ {l':Addr} {ks':List Nd},Ths H l' ks'→Ths (L2.upd H a (d2O P w a (put2 (eV es) k b (.ref n)))) l' ks':=fun {l' ks'} q=>by
   obtain⟨bs,h1,h2,h3⟩:=q
   exact⟨bs,g h1 (fun _ z=>by cases z),h2,fun i b k e1 e2=>(h3 i b k e1 e2).keep fun c ys e=>g e fun _ z=>by cases z⟩
  have ck:k∈es.map (·.1):=by rw[dk h.r];exact c
  obtain⟨⟨k0,b0,l0⟩,he,e0⟩:=List.mem_map.mp ck
  have e0:k0=k:=e0
  subst e0
  have hv:=lR (by rw[dk h.r];exact nd) he
  have e1:put2 (eV es) k0 b (.ref n)=eV (es.map fun e=>if e.1=k0 then (e.1,e.2.1,n) else e):=by
   unfold put2
   rw[if_pos (by rw[hv];rfl)]
   unfold eV
   rw[List.map_map,List.map_map]
   refine List.map_congr_left fun e _=>?_
   show (if e.1=k0 then (e.1,e.2.1,V.ref n) else (e.1,e.2.1,V.ref e.2.2))=_
   show _=((if e.1=k0 then (e.1,e.2.1,n) else e).1,(if e.1=k0 then (e.1,e.2.1,n) else e).2.1,V.ref (if e.1=k0 then (e.1,e.2.1,n) else e).2.2)
   split <;> rfl
  refine⟨es.map fun e=>if e.1=k0 then (e.1,e.2.1,n) else e,⟨by rw[← e1];exact h.d.put hb,?_,?_⟩,fun e he=>?_,e1⟩
  ·unfold jD
   rw[if_pos c]
   have go:∀ {xs:Es} {ys:Web},Paired (RW H) xs ys→Paired (RW (L2.upd H a (d2O P w a (put2 (eV es) k0 b (.ref n))))) (xs.map fun e=>if e.1=k0 then (e.1,e.2.1,n) else e) (ys.map fun t=>if t.1=k0 then (t.1,ls) else t):=by
    intro xs ys q
    induction q with
    | nil=>exact .nil
    | @cons e t r s q' _ ih =>
     refine .cons ?_ ih
     obtain⟨q1,q2⟩:=q'
     show RW _ (if e.1=k0 then (e.1,e.2.1,n) else e) (if t.1=k0 then (t.1,ls) else t)
     by_cases d:e.1=k0
     ·rw[if_pos d,if_pos (by rw[← q1];exact d)]
      exact⟨q1,gt hl⟩
     ·rw[if_neg d,if_neg (by rw[← q1];exact d)]
      exact⟨q1,gt q2⟩
   exact go h.r
  ·rw[List.map_map]
   have nk:(es.map (·.1)).Nodup:=by rw[dk h.r];exact nd
   have n2:=h.nd
   unfold List.Nodup at nk n2 ⊢
   rw[List.pairwise_map] at nk n2 ⊢
   rw[List.pairwise_iff_getElem] at nk n2 ⊢
   intro i j hi hj hij z
   have z:(if es[i].1=k0 then (es[i].1,es[i].2.1,n) else es[i]).2.2=(if es[j].1=k0 then (es[j].1,es[j].2.1,n) else es[j]).2.2:=z
   by_cases d1:es[i].1=k0 <;> by_cases d2:es[j].1=k0
   ·exact nk i j hi hj hij (d1.trans d2.symm)
   ·rw[if_pos d1,if_neg d2] at z;exact nl (List.mem_map.mpr ⟨_,List.getElem_mem hj,z.symm⟩)
   ·rw[if_neg d1,if_pos d2] at z;exact nl (List.mem_map.mpr ⟨_,List.getElem_mem hi,z⟩)
   ·rw[if_neg d1,if_neg d2] at z;exact n2 i j hi hj hij z
  ·obtain⟨d,hd,rfl⟩:=List.mem_map.mp he
   by_cases z:d.1=k0
   ·rw[if_pos z];exact .inr rfl
   ·rw[if_neg z];exact .inl hd
 ·refine⟨es++[(k,b,n)],?_,fun e he=>?_,?_⟩
  ·have:=h.put c hb hl nl
   unfold jD
   rw[if_neg c]
   exact this
  ·rcases List.mem_append.mp he with he | he
   ·exact .inl he
   ·rw[List.mem_singleton.mp he];exact .inr rfl
  ·unfold put2
   rw[rA (by rw[dk h.r];exact c),if_neg (by simp)]
   unfold eV
   rw[List.map_append]
   rfl
theorem WbT.getD (h:WbT P w H a es W)(nd:(az W).Nodup)(he:H em=some (.lst []))(k:Nd):∃ g,(iE (eV es) k).getD (.ref em)=.ref g∧Ths H g (lkW W k):=by
 by_cases c:k∈az W
 ·obtain⟨t,ht,rfl⟩:=mem_keys.mp c
  obtain⟨b,l,_,hv,hT,_⟩:=h.at nd ht
  rw[hv,lkN nd ht]
  exact⟨l,rfl,hT⟩
 ·rw[rA (by rw[dk h.r];exact c),cP c]
  exact⟨em,rfl,[],he,rfl,fun i b k e=>by simp at e⟩
theorem WbT.fresh (h:WbT P w H a es W)(hn:H n=none):n ∉ es.map (·.2.2):=fun z=>by
 obtain⟨e,he,q0⟩:=List.mem_map.mp z
 obtain⟨y,_,_,bs,q,_⟩:=cy h.r he
 have q0:e.2.2=n:=q0
 rw[q0,hn] at q
 cases q
end
structure LwI (rs:List Int) (c:Nat) (W:Web):Prop where
 nd:(az W).Nodup
 key:∀ k∈az W,∃ v∈VT rs,k=lI v
 snd:∀ k x,x∈lkW W k→∃ a b,k=lI a∧x=lI b∧EdT rs a b
 len:∀ k,(lkW W k).length≤c
noncomputable def iM (W W':Web):Prop:=(∀ k x,x∈lkW W k→x∈lkW W' k)∧∀ k∈az W,k∈az W'
theorem iM.refl (W:Web):iM W W:=⟨fun _ _ h=>h,fun _ h=>h⟩
theorem iM.trans {W X Y:Web}(h:iM W X)(g:iM X Y):iM W Y:=⟨fun k x q=>g.1 k x (h.1 k x q),fun k q=>g.2 k (h.2 k q)⟩
section
variable {rs:List Int}{W:Web}{c:Nat}
theorem LwI.mono (h:LwI rs c W){d:Nat}(hd:c≤d):LwI rs d W:=⟨h.nd,h.key,h.snd,fun k=>Nat.le_trans (h.len k) hd⟩
theorem LwI.size (h:LwI rs c W)(fit:Fit rs):W.length≤200:=by
 have:(az W).length≤((VT rs).map lI).length:=fb h.nd fun k hk=>by
  obtain⟨v,hv,rfl⟩:=h.key k hk
  exact List.mem_map.mpr ⟨v,hv,rfl⟩
 unfold az at this
 rw[List.length_map,List.length_map] at this
 have fl:=ba rs
 have kl:=gg (frm rs)
 have cl:=fu (b4 (frm rs))
 have small:=fit.small
 unfold VT ndV at this
 rw[List.length_append,List.length_map,List.length_map] at this
 have:W.length≤(b4 (frm rs)).length+(chains (b4 (frm rs))).length:=this
 omega
theorem LwI.add (h:LwI rs c W){a b:Nod}(ha:a∈VT rs)(e:EdT rs a b):LwI rs (c+1) (jD W (lI a) (lkW W (lI a)++[lI b]))∧iM W (jD W (lI a) (lkW W (lI a)++[lI b]))∧lI b∈lkW (jD W (lI a) (lkW W (lI a)++[lI b])) (lI a):=by
 have lk:=fun k'=>y6 (k:=lI a) (k':=k') (ls:=lkW W (lI a)++[lI b]) h.nd
 refine⟨⟨tT h.nd,fun k hk=>?_,fun k x hx=>?_,fun k=>?_⟩,⟨fun k x hx=>?_,fun k hk=>jE.mpr (.inl hk)⟩,?_⟩
 ·rcases jE.mp hk with hk | rfl
  ·exact h.key k hk
  ·exact⟨a,ha,rfl⟩
 ·rw[lk] at hx
  by_cases z:k=lI a
  ·rw[if_pos z] at hx
   rcases List.mem_append.mp hx with hx | hx
   ·subst z;exact h.snd _ x hx
   ·exact⟨a,b,z,List.mem_singleton.mp hx,e⟩
  ·rw[if_neg z] at hx
   exact h.snd k x hx
 ·rw[lk]
  by_cases z:k=lI a
  ·rw[if_pos z,List.length_append,List.length_singleton]
   have:=h.len (lI a)
   omega
  ·rw[if_neg z]
   have:=h.len k
   omega
 ·rw[lk]
  by_cases z:k=lI a
  ·rw[if_pos z]
   subst z
   exact List.mem_append_left _ hx
  ·rw[if_neg z];exact hx
 ·rw[lk,if_pos rfl]
  exact List.mem_append_right _ (List.mem_singleton.mpr rfl)
noncomputable def Cmp (rs:List Int)(i j:Nat)(W:Web):Prop:=∀ (i' j':Nat) (p q:Pr2),(KN rs)[i']?=some p→(KN rs)[j']?=some q→(i'<i∨(i'=i∧j'<j))→p≠q→∀ v u,UT rs v=some u→Ab (UT rs) (.inl p) v→¬ Ab (UT rs) (.inl q) v→lI u∈lkW W (lI v)∧lI v∈lkW W (lI u)
theorem Cmp.more {i j:Nat}{W':Web}(h:Cmp rs i j W)(m:iM W W'):Cmp rs i j W':=fun i' j' p q e1 e2 z ne v u e a1 a2=>by
 obtain⟨h1,h2⟩:=h i' j' p q e1 e2 z ne v u e a1 a2
 exact⟨m.1 _ _ h1,m.1 _ _ h2⟩
theorem A5 (h:LwI rs c W)(g:Cmp rs (KN rs).length 0 W):∀ a∈VT rs,∀ k,k∈lkW W (lI a)↔∃ b∈VT rs,k=lI b∧EdT rs a b:=fun a ha k=>by
 constructor
 ·intro hk
  obtain⟨a',b,e1,rfl,e⟩:=h.snd _ _ hk
  have:=lY _ _ e1
  subst this
  refine⟨b,?_,rfl,e⟩
  rcases e with ⟨e,_⟩ | ⟨e,_⟩
  ·cases a with
   | inl p =>
    obtain⟨c,f1,rfl⟩:=Option.map_eq_some_iff.mp (show (ofK (CH rs) p).map (fun c=>(.inr (hd2 c):Nod))=some b from e)
    exact br.mpr (.inr ⟨c,(oQ f1).1,rfl⟩)
   | inr p =>
    obtain⟨c,f1,f2⟩:=Option.bind_eq_some_iff.mp (show (iG (CH rs) p).bind (fun c=>(dA (KI rs) c).head?.map (.inl:Pr2→Nod))=some b from e)
    obtain⟨k,e3,rfl⟩:=Option.map_eq_some_iff.mp f2
    exact br.mpr (.inl ⟨k,(ft (iA.mp e3)).1,rfl⟩)
  ·cases b with
   | inl p =>
    obtain⟨c,f1,rfl⟩:=Option.map_eq_some_iff.mp (show (ofK (CH rs) p).map (fun c=>(.inr (hd2 c):Nod))=some a from e)
    obtain⟨h1,h2⟩:=oQ f1
    unfold CH chains at h1
    obtain⟨g,hg,rfl⟩:=List.mem_map.mp h1
    exact br.mpr (.inl ⟨p,sX hg h2,rfl⟩)
   | inr p =>
    obtain⟨c,f1,f2⟩:=Option.bind_eq_some_iff.mp (show (iG (CH rs) p).bind (fun c=>(dA (KI rs) c).head?.map (.inl:Pr2→Nod))=some a from e)
    obtain⟨h1,h2⟩:=ql f1
    exact br.mpr (.inr ⟨c,h1,by rw[h2]⟩)
 ·rintro⟨b,hb,rfl,e⟩
  have key:∀ v u,UT rs v=some u→Ess (UT rs) (xm (KN rs)) v→lI u∈lkW W (lI v)∧lI v∈lkW W (lI u):=fun v u eu ⟨⟨x,⟨p,hp,ex⟩,ax⟩,y,⟨q,hq,ey⟩,ay⟩=>by
   subst ex ey
   obtain⟨i',hi'⟩:=List.getElem?_of_mem hp
   obtain⟨j',hj'⟩:=List.getElem?_of_mem hq
   exact g i' j' p q hi' hj' (.inl (List.getElem?_eq_some_iff.mp hi').1) (fun z=>ay (z ▸ ax)) v u eu ax ay
  rcases e with ⟨e,es⟩ | ⟨e,es⟩
  ·exact(key a b e es).1
  ·exact(key b a e es).2
end
noncomputable def dd1 (acc:List Nd)(x:Nd):List Nd:=if inB acc x=true then acc else acc++[x]
noncomputable def dd (l:List Nd):List Nd:=l.foldl dd1 []
theorem y7 {l:List Nd}{j:Nat}{x:Nd}(h:l[j]?=some x):dd (l.take (j+1))=if x∈dd (l.take j) then dd (l.take j) else dd (l.take j)++[x]:=by
 unfold dd
 rw[take_snoc h,List.foldl_append]
 show (if inB (List.foldl dd1 [] (l.take j)) x=true then _ else _)=_
 by_cases c:x∈List.foldl dd1 [] (l.take j)
 ·rw[if_pos (bI.mpr c),if_pos c]
 ·rw[if_neg (fun z=>c (bI.mp z)),if_neg c]
theorem jF:∀ (l acc:List Nd),acc.Nodup→(l.foldl dd1 acc).Nodup∧(∀ x,x∈l.foldl dd1 acc↔x∈acc∨x∈l)∧(l.foldl dd1 acc).length≤acc.length+l.length
 | [],acc,h=>⟨h,fun x=>by simp,Nat.le_refl _⟩
 | y::l,acc,h=>by
  show ((l.foldl dd1 (dd1 acc y)).Nodup∧(∀ x,x∈l.foldl dd1 (dd1 acc y)↔x∈acc∨x∈y::l)∧(l.foldl dd1 (dd1 acc y)).length≤acc.length+(l.length+1))
  by_cases c:y∈acc
  ·have e:dd1 acc y=acc:=if_pos (bI.mpr c)
   rw[e]
   obtain⟨h1,h2,h3⟩:=jF l acc h
   refine⟨h1,fun x=>?_,by omega⟩
   rw[h2,List.mem_cons]
   constructor
   ·rintro(q | q)
    ·exact .inl q
    ·exact .inr (.inr q)
   ·rintro(q | rfl | q)
    ·exact .inl q
    ·exact .inl c
    ·exact .inr q
  ·have e:dd1 acc y=acc++[y]:=if_neg fun z=>c (bI.mp z)
   rw[e]
   obtain⟨h1,h2,h3⟩:=jF l (acc++[y]) (by
    rw[List.nodup_append]
    exact⟨h,by simp,fun a ha b hb e=>c (by rw[List.mem_singleton.mp hb] at e;rwa[← e])⟩)
   refine⟨h1,fun x=>?_,by rw[List.length_append,List.length_singleton] at h3;omega⟩
   rw[h2,List.mem_cons,List.mem_append,List.mem_singleton,or_assoc]
theorem B5 (l:List Nd):(dd l).Nodup:=(jF l [] List.nodup_nil).1
theorem A6 {l:List Nd}{x:Nd}:x∈dd l↔x∈l:=by
 have:=(jF l [] List.nodup_nil).2.1 x
 unfold dd
 rw[this]
 simp
theorem A7 (l:List Nd):(dd l).length≤l.length:=by
 have:=(jF l [] List.nodup_nil).2.2
 unfold dd
 simpa using this
noncomputable def ddT (t:Nd×List Nd):Nd×List Nd:=(t.1,dd t.2)
theorem fw (W:Web):az (W.map ddT)=az W:=by
 unfold az
 rw[List.map_map]
 rfl
theorem xy {W:Web}(nd:(az W).Nodup)(k:Nd):lkW (W.map ddT) k=dd (lkW W k):=by
 have nd2:(az (W.map ddT)).Nodup:=by rw[fw];exact nd
 by_cases c:k∈az W
 ·obtain⟨t,ht,rfl⟩:=mem_keys.mp c
  rw[lkN nd ht]
  exact lkN nd2 (t:=ddT t) (List.mem_map.mpr ⟨t,ht,rfl⟩)
 ·rw[cP c,cP (by rw[fw];exact c)]
  rfl
end Mir

namespace Mir
open PySem L2 NK
theorem qw {P:Program}{w:World}{K:PySem.W.Frag}{D:Ends}{σ:L2.St}{G H:Hp}{a r bx by':Addr}{bs:List Addr}{es:Es}{W:Web}{ti tj:TE}{i j:Int}{x y:Nd}(h3:σ[3]?=some (some (.ref a)))(h7:σ[7]?=some (some (.ref r)))
  (hi:∀ (H:Hp) (Q:VK),Q (.int i) H→ti σ H Q) (hj:∀ (H:Hp) (Q:VK),Q (.int j) H→tj σ H Q) (hr:H r=some (.lst (bs.map V.ref))) (ex:atI (bs.map V.ref) i=some (.ref bx)) (ey:atI (bs.map V.ref) j=some (.ref by')) (kx:K2 H x bx) (ky:K2 H y by')
  (T:WbT P w H a es W) (nd:(az W).Nodup) (len:(lkW W x).length≤10000000) (wl:W.length≤500) (s:aq G H) (ga:G a=none) (k:∀ (es':Es) (H':Hp),aq G H'→WbT P w H' a es' (jD W x (lkW W x++[y]))→D.nx σ H') :
  vU P w (qF 3) (tOp (vk K) (qF 7) ti) (tOp BH (xo P w (qF 3) (tOp (vk K) (qF 7) ti) (zZ zY)) (zZ (zi (tOp (vk K) (qF 7) tj) zY))) D σ H:=by
 refine⟨_,h3,⟨a,_,rfl,T.d⟩,_,h7,hi _ _ ⟨r,_,_,_,rfl,rfl,SqL.of hr,ex,?_⟩⟩
 refine⟨by show 0≤sizeLine;decide,fun em hem=>?_⟩
 have s1:aq H (L2.upd H em (.lst [])):=ag hem
 have u1:L2.upd H em (.lst []) em=some (.lst []):=ae
 generalize L2.upd H em (.lst [])=H1 at s1 u1
 have T1:=T.same s1
 obtain⟨g,eg,tg⟩:=T1.getD nd u1 x
 refine⟨a,bx,_,x,rfl,rfl,T1.d,K2.same kx s1,?_⟩
 rw[eg]
 refine⟨_,h7,hj _ _ ⟨r,_,_,_,rfl,rfl,SqL.of (s1 _ _ hr),ey,?_⟩⟩
 refine⟨by show 1≤sizeLine;decide,fun q hq=>?_⟩
 have s2:aq H1 (L2.upd H1 q (.lst [.ref by'])):=ag hq
 have u2:L2.upd H1 q (.lst [.ref by']) q=some (.lst [.ref by']):=ae
 generalize L2.upd H1 q (.lst [.ref by'])=H2 at s2 u2
 obtain⟨gs,g1,g2⟩:=(Ths.same tg s2).thv
 have gl:=g2.1
 refine⟨g,q,_,_,rfl,rfl,g1,u2,Nat.le_of_lt (Nat.lt_of_le_of_lt (show _≤10000001 by rw[List.length_map,gl];show _+1≤_;omega) (by decide)),fun n hn=>?_⟩
 have s3:aq H2 (L2.upd H2 n (.lst (gs.map V.ref++[.ref by']))):=ag hn
 have u3:L2.upd H2 n (.lst (gs.map V.ref++[.ref by'])) n=some (.lst ((gs++[by']).map V.ref)):=by rw[ae,List.map_append];rfl
 generalize L2.upd H2 n (.lst (gs.map V.ref++[.ref by']))=H3 at s3 u3
 have s13:=s2.trans s3
 have s03:=s1.trans s13
 have T2:=T1.same s2
 have nf:=T2.fresh hn
 have T3:=T1.same s13
 have tn:Ths H3 n (lkW W x++[y]):=by
  refine Thv.ths ((g2.same s3).app ⟨rfl,fun m b k e1 e2=>?_⟩) u3
  cases m with
  | zero=>cases e1;cases e2;exact K2.same ky s03
  | succ m=>simp at e1
 have esl:(eV es).length=W.length:=by unfold eV;rw[List.length_map];exact T.r.length
 refine⟨_,h3,_,h7,hi _ _ ⟨r,_,_,_,rfl,rfl,SqL.of (s03 _ _ hr),ex,?_⟩⟩
 obtain⟨es',R1,R2,R3⟩:=T3.rep nd (K2.same kx s03) tn nf
 refine⟨a,bx,_,x,rfl,rfl,T3.d,K2.same kx s03,aw (by omega),?_⟩
 refine k es' _ ((s.trans s03).upd ga) ?_
 exact R1
section
variable {rs:List Int}
noncomputable def lkZ (rs:List Int)(i:Nat):Web:=((KN rs).take i).map fun q=>(pN q,[])
theorem jG (i:Nat):az (lkZ rs i)=((KN rs).take i).map pN:=by unfold az lkZ;rw[List.map_map];rfl
theorem xA (i:Nat)(k:Nd):lkW (lkZ rs i) k=[]:=by
 unfold lkW
 cases e:(lkZ rs i).find? fun t=>decide (t.1=k) with
 | none=>rfl
 | some t =>
  have h:=List.mem_of_find?_eq_some e
  unfold lkZ at h
  obtain⟨q,_,rfl⟩:=List.mem_map.mp h
  rfl
theorem zF (fit:Fit rs):(KN rs).Nodup:=lP (dE fit).1
theorem A8 (fit:Fit rs):LwI rs 0 (lkZ rs (KN rs).length)∧Cmp rs 0 0 (lkZ rs (KN rs).length)∧∀ p∈KN rs,pN p∈az (lkZ rs (KN rs).length):=by
 refine⟨⟨?_,fun k hk=>?_,fun k x hx=>?_,fun k=>?_⟩,fun i' j' p q _ _ z=>?_,fun p hp=>?_⟩
 ·rw[jG,List.take_length]
  exact gq (zF fit) fun _ _=>eJ
 ·rw[jG,List.take_length] at hk
  obtain⟨p,hp,rfl⟩:=List.mem_map.mp hk
  exact⟨.inl p,j9 _ ⟨p,hp,rfl⟩,rfl⟩
 ·rw[xA] at hx;exact absurd hx List.not_mem_nil
 ·rw[xA];exact Nat.le_refl _
 ·omega
 ·rw[jG,List.take_length]
  exact List.mem_map.mpr ⟨p,hp,rfl⟩
end
end Mir

namespace Mir
open PySem L2 NK
theorem oU {two:List Nd}{x:Nd}(h:x ∉ two):inB two x=false:=Bool.eq_false_iff.mpr fun z=>h (bI.mp z)
theorem xB (W:Web)(n:Nat)(seen:List Nd):lgR W (n+1) none seen=seen:=rfl
theorem xC (W:Web)(n:Nat)(v:Nd)(seen:List Nd):lgR W (n+1) (some v) seen=if (lkW W v).length<3 then lgR W n (((lkW W v).filter fun l=>!inB (seen++[v]) l).head?) (seen++[v]) else seen:=by
 have e:(lkW W v).filter (fun l=>!inB (seen++[v]) l)=(lkW W v).filter (fun l=>!decide (l∈seen++[v])):=List.filter_congr fun x _=>by
  by_cases c:x∈seen++[v]
  ·rw[bI.mpr c,decide_eq_true c]
  ·rw[oU c,decide_eq_false c]
 rw[e]
 rfl
theorem y8 (Y:Web)(ks:List Pr2)(e:Pr2):uM Y ks e=((lgR Y 1000 (some (pN e)) []).filter (inB (ks.map pN))).length:=by
 unfold uM
 refine congrArg List.length (List.filter_congr fun x _=>?_)
 by_cases c:x∈ks.map pN
 ·rw[bI.mpr c,decide_eq_true c]
 ·rw[oU c,decide_eq_false c]
theorem xD (ks:List Pr2)(seen:List Nd)(v:Nd):((seen++[v]).filter (inB (ks.map pN))).length=(seen.filter (inB (ks.map pN))).length+(if v∈ks.map pN then 1 else 0):=by
 rw[List.filter_append,List.length_append,List.filter_cons,List.filter_nil]
 by_cases c:v∈ks.map pN
 ·rw[if_pos (bI.mpr c),if_pos c];rfl
 ·rw[if_neg (fun z=>c (bI.mp z)),if_neg c];rfl
end Mir

set_option maxHeartbeats 2000000
namespace Law
open PySem L2
noncomputable def top (i:Nat):Stmt:=PySem.Challenge.pw_claspwork_k49_ends_and_legs.main.body.getD i (.Pass ⟨0,0,0,0⟩)
noncomputable abbrev d5:Stmt:=top 1
noncomputable abbrev d6:Stmt:=top 2
noncomputable abbrev bW:Stmt:=top 3
noncomputable abbrev cz:Stmt:=top 4
noncomputable abbrev dH:Stmt:=top 5
noncomputable abbrev fz:Stmt:=top 6
noncomputable abbrev dI:Stmt:=top 8
noncomputable abbrev hZ:Stmt:=top 9
noncomputable abbrev bJ:Stmt:=top 10
noncomputable abbrev bX:Stmt:=top 11
noncomputable abbrev cA:Stmt:=top 12
noncomputable abbrev fh:Stmt:=top 13
noncomputable abbrev fA:Stmt:=top 14
noncomputable abbrev d7:Stmt:=top 15
noncomputable abbrev cT:Stmt:=top 16
noncomputable abbrev d8:Stmt:=top 17
noncomputable abbrev d9:Stmt:=top 18
noncomputable abbrev cM:Stmt:=top 20
noncomputable abbrev b9:Stmt:=top 21
noncomputable abbrev dm:Stmt:=top 22
noncomputable abbrev bu:Stmt:=top 23
noncomputable abbrev dq:Stmt:=top 24
noncomputable abbrev fJ:Stmt:=top 25
noncomputable abbrev dt:Stmt:=top 26
noncomputable abbrev cU:Stmt:=top 27
noncomputable abbrev dv:Stmt:=top 28
noncomputable abbrev cO:Stmt:=top 29
noncomputable abbrev iB:Stmt:=top 30
noncomputable abbrev iC:Stmt:=top 31
noncomputable abbrev gJ:Stmt:=top 32
noncomputable abbrev xE:Stmt:=top 33
theorem uN:aN ["row"] ["row"] (aA d5):=⟨rfl,rfl,rfl,by decide +kernel,rfl,by decide +kernel,by decide +kernel⟩
theorem jH:aN ["row","numbers"] ["row"] (aA d6):=⟨rfl,rfl,rfl,by decide +kernel,rfl,by decide +kernel,by decide +kernel⟩
theorem aU:aN ["pairs","groups","first","second","kept","lost","number","found","place","pair"] ["pairs"] (aA bW):=⟨rfl,rfl,rfl,by decide +kernel,rfl,by decide +kernel,by decide +kernel⟩
theorem gK:aN ["row","numbers","spans"] ["row"] (aA cz):=⟨rfl,rfl,rfl,by decide +kernel,rfl,by decide +kernel,by decide +kernel⟩
theorem cR:aN ["numbers","first","begin","sign","highest","last","amount"] ["numbers","first"] (aA dH):=⟨rfl,rfl,rfl,by decide +kernel,rfl,by decide +kernel,by decide +kernel⟩
theorem eC:aN ["row","told","first","last","gap"] ["row"] (aA fz):=⟨rfl,rfl,rfl,by decide +kernel,rfl,by decide +kernel,by decide +kernel⟩
theorem cW:aN ["row","numbers","belongs","minuses","gap","beside"] ["row"] (aA dI):=⟨rfl,rfl,rfl,by decide +kernel,rfl,by decide +kernel,by decide +kernel⟩
theorem dJ:aN ["kins","web","kin","group","chain","linked"] ["kins"] (aA hZ):=⟨rfl,rfl,rfl,by decide +kernel,rfl,by decide +kernel,by decide +kernel⟩
theorem fB:aN ["chain","kins","around"] ["chain","kins"] (aA bJ):=⟨rfl,rfl,rfl,by decide +kernel,rfl,by decide +kernel,by decide +kernel⟩
theorem bw:aN ["row","knots","web","spare","thing","linked"] ["row"] (aA bX):=⟨rfl,rfl,rfl,by decide +kernel,rfl,by decide +kernel,by decide +kernel⟩
theorem kO:aN ["web","knots"] ["web","knots"] (aA cA):=⟨rfl,rfl,rfl,by decide +kernel,rfl,by decide +kernel,by decide +kernel⟩
theorem rQ:aN ["web"] ["web"] (aA fh):=⟨rfl,rfl,rfl,by decide +kernel,rfl,by decide +kernel,by decide +kernel⟩
theorem eD:aN ["end","web","leg","onward","thing"] ["end","web"] (aA fA):=⟨rfl,rfl,rfl,by decide +kernel,rfl,by decide +kernel,by decide +kernel⟩
theorem oV:aN ["row"] ["row"] (aA d7):=⟨rfl,rfl,rfl,by decide +kernel,rfl,by decide +kernel,by decide +kernel⟩
theorem eX:aN ["row","knots","web","legs"] ["row"] (aA cT):=⟨rfl,rfl,rfl,by decide +kernel,rfl,by decide +kernel,by decide +kernel⟩
theorem oW:aN ["row"] ["row"] (aA d8):=⟨rfl,rfl,rfl,by decide +kernel,rfl,by decide +kernel,by decide +kernel⟩
theorem jI:aN ["legs","many"] ["legs"] (aA d9):=⟨rfl,rfl,rfl,by decide +kernel,rfl,by decide +kernel,by decide +kernel⟩
theorem ma:aN ["script","k"] ["script","k"] (aA cM):=⟨rfl,rfl,rfl,by decide +kernel,rfl,by decide +kernel,by decide +kernel⟩
theorem aL:aN ["script","at","many","row","k","cell","first","stretch"] ["script","at","many"] (aA b9):=⟨rfl,rfl,rfl,by decide +kernel,rfl,by decide +kernel,by decide +kernel⟩
theorem aJ:aN ["script","at","room","row","k","cell","spot","low","inner","flipped"] ["script","at","room"] (aA dm):=⟨rfl,rfl,rfl,by decide +kernel,rfl,by decide +kernel,by decide +kernel⟩
theorem iH:aN ["found"] ["found"] (aA bu):=⟨rfl,rfl,rfl,by decide +kernel,rfl,by decide +kernel,by decide +kernel⟩
theorem fT:aN ["row","spot","low"] ["row","spot"] (aA dq):=⟨rfl,rfl,rfl,by decide +kernel,rfl,by decide +kernel,by decide +kernel⟩
theorem bR:aN ["cell","row","deep","spot"] ["cell"] (aA fJ):=⟨rfl,rfl,rfl,by decide +kernel,rfl,by decide +kernel,by decide +kernel⟩
theorem dP:aN ["kins","chains","kin","before"] ["kins"] (aA dt):=⟨rfl,rfl,rfl,by decide +kernel,rfl,by decide +kernel,by decide +kernel⟩
theorem jJ:aN ["kins","chain","around"] ["kins","chain"] (aA cU):=⟨rfl,rfl,rfl,by decide +kernel,rfl,by decide +kernel,by decide +kernel⟩
theorem dQ:aN ["kins","chains","kin","way","mine"] ["kins","chains","kin"] (aA dv):=⟨rfl,rfl,rfl,by decide +kernel,rfl,by decide +kernel,by decide +kernel⟩
theorem fD:aN ["one","two","shared","top"] ["one","two"] (aA cO):=⟨rfl,rfl,rfl,by decide +kernel,rfl,by decide +kernel,by decide +kernel⟩
theorem bz:aN ["kins","knots","chains","links","kin","one","two","way","k","told","thing","other"] ["kins","knots"] (aA iB):=⟨rfl,rfl,rfl,by decide +kernel,rfl,by decide +kernel,by decide +kernel⟩
theorem cB:aN ["links","knots","end","many","seen","at","ahead"] ["links","knots","end"] (aA iC):=⟨rfl,rfl,rfl,by decide +kernel,rfl,by decide +kernel,by decide +kernel⟩
theorem fK:aN ["row","due","legs_due","cost","ends","legs_told","number"] ["row","due","legs_due","cost"] (aA gJ):=⟨rfl,rfl,rfl,by decide +kernel,rfl,by decide +kernel,by decide +kernel⟩
theorem eN:aN ["script","head","row","kins","knots","links","due","legs_due","cost"] ["script"] (aA xE):=⟨rfl,rfl,rfl,by decide +kernel,rfl,by decide +kernel,by decide +kernel⟩
structure Bl (mg:Str→Option Value):Prop where
 «abs»:mg "abs" = none
 «all»:mg "all" = none
 «any»:mg "any" = none
 «bool»:mg "bool" = none
 «enumerate»:mg "enumerate" = none
 «int»:mg "int" = none
 «isinstance»:mg "isinstance" = none
 «len»:mg "len" = none
 «list»:mg "list" = none
 «max»:mg "max" = none
 «range»:mg "range" = none
 «reversed»:mg "reversed" = none
 «sorted»:mg "sorted" = none
 «tuple»:mg "tuple" = none
section
variable {P:Program}{w:World}{K:PySem.W.Frag}{mg:Str→Option Value}{base:Heap}
theorem kc {f:Addr}{fd:FuncData}(B:Bl mg)(F:Fn K mg "framed" d5 ["row"] f fd):aO P w K mg base CX0 1 f fd ["row"] Mir.jt:=by
 refine F.fn.ok uN (fun vs H Q E h=>?_) (fun cdv A outer s H vs Q E hr h=>?_)
 ·obtain⟨t,rs,rfl,_⟩:=h
  rfl
 ·obtain⟨t,rs,rfl,ht,hn,k⟩:=h
  refine⟨_,(au (aQ (aD sJ (aD sJ (iP (ab aj ai)) (pv 0)) (iP (ab (aD aX (aG aF rfl B.len bg (ab (pv 0) ai)) aj) ai))))),?_⟩
  have ivl:(Mir.iV rs).length=rs.length:=Mir.aK rs
  refine⟨by show 1≤sizeLine;decide,fun p hp=>?_⟩
  have s1:aq H (upd H p (.tup [.int 0])):=ag hp
  refine⟨_,rfl,p,t,_,_,rfl,rfl,ae,s1 _ _ ht,Nat.le_of_lt (aw (by show 1+_≤1000;omega)),fun q H1 s2 hq=>?_⟩
  have s12:=s1.trans s2
  refine⟨_,rfl,t,_,rfl,.inr (SqT.of (s12 _ _ ht)),_,_,rfl,rfl,by show 1≤sizeLine;decide,fun r hr'=>?_⟩
  have s3:aq H1 (upd H1 r (.tup [.int (((Mir.iV rs).length:Nat)+1)])):=ag hr'
  refine⟨q,r,_,_,rfl,rfl,s3 _ _ hq,ae,Nat.le_of_lt (aw (by rw[List.length_append,ivl];show 1+_+1≤1000;omega)),fun t' H2 s4 ht'=>?_⟩
  refine k t' H2 ((s12.trans s3).trans s4) ?_
  rw[ht',ivl]
  unfold Mir.frm Mir.iV
  rw[List.map_cons,List.map_append]
  rfl
end
section
variable {P:Program}{w:World}{K:PySem.W.Frag}{mg:Str→Option Value}{base:Heap}
theorem oX {f f1:Addr}{fd fd1:FuncData}(B:Bl mg)(F:Fn K mg "open_gaps" d6 ["row"] f fd)(bA:Fn K mg "framed" d5 ["row"] f1 fd1):aO P w K mg base CX0 2 f fd ["row"] Mir.lC:=by
 have h8:aO P w K mg base CX0 1 f1 fd1 ["row"] Mir.jt:=kc B bA
 refine F.fn.ok jH (fun vs H Q E h=>?_) (fun cdv A outer s H vs Q E hr h=>?_)
 ·obtain⟨t,rs,rfl,_⟩:=h
  rfl
 ·obtain⟨t,rs,rfl,ht,hn,k⟩:=h
  refine⟨_,(af (aB (i:=1) jH.nd rfl (Or.inr rfl) (aY h8 bA (hr.mono (by decide)) (ab (pv 0) ai)))
   (au (aQ (cG (NC:=["gap","numbers"]) rfl (bC (c:=s.heap.objs.size+1) (j:=1) rfl (by decide +kernel) (by decide +kernel) rfl rfl rfl rfl rfl) (fV rfl B.range (ab (aD aX (aG aF rfl B.len bg (ab (pv 0) ai)) aj) ai)) (fun _ _ _ _=>(aC (i:=0) (show (["gap","numbers"]:List Str).Nodup by decide +kernel) rfl (Or.inl rfl))) (fun _ _ _ _=>(b6 (aE Bw (aR (bH (K:=K) rfl) (pv 1) (aD aX (pv 0) aj) (fun _ _=>rfl)) (aD aX (aR (bH (K:=K) rfl) (pv 1) (pv 0) (fun _ _=>rfl)) aj) (aI _)))) (fun _ _ _ _=>(pv 0)))))),?_⟩
  have ivl:(Mir.iV rs).length=rs.length:=Mir.aK rs
  refine⟨_,rfl,t,rs,rfl,ht,hn,fun t1 H1 s1 ht1=>?_⟩
  refine⟨_,rfl,t,_,rfl,.inr (SqT.of (s1 _ _ ht)),_,_,rfl,rfl,_,rfl,by rw[ivl];omega,by rw[ivl];omega,fun D hD=>?_⟩
  refine iT (fun i σ H2=>∃ v:Option V,σ=[v,some (.ref t1)]∧aq H1 H2∧H2 D=some (.lst (Mir.iV (Mir.jq (Mir.frm rs) i)))) ⟨none,rfl,ag hD,ae⟩ ?_ ?_
  ·rintro i σ H2 hi ⟨v,rfl,s2,h2⟩
   rw[ivl] at hi
   have hi:i<rs.length+1:=by omega
   rw[Int.zero_add]
   have e1:(i:Int)+1=((i+1:Nat):Int):=by omega
   have fl:=Mir.ba rs
   have hl:(Mir.jq (Mir.frm rs) i).length≤i:=by
    unfold Mir.jq
    rw[List.length_map]
    exact Nat.le_trans (List.length_filter_le _ _) (by rw[List.length_range];exact Nat.le_refl _)
   refine⟨_,rfl,_,rfl,_,_,rfl,rfl,t1,_,_,_,rfl,rfl,SqT.of (s2 _ _ ht1),(by rw[e1];exact aW (Mir.dg (by omega))),_,rfl,_,rfl,t1,_,_,_,rfl,rfl,SqT.of (s2 _ _ ht1),aW (Mir.dg (by omega)),_,_,rfl,rfl,rfl,_,rfl,?_⟩
   have es:Mir.jq (Mir.frm rs) (i+1)=Mir.jq (Mir.frm rs) i++(if Mir.isOpen (Mir.frm rs) i=true then [(i:Int)] else []):=by
    unfold Mir.jq
    rw[List.range_succ,List.filter_append,List.map_append,List.filter_cons,List.filter_nil]
    split <;> rfl
   refine fR (fun h1=>?_) (fun h1=>?_)
   ·refine⟨_,rfl,_,h2,aw (by rw[Mir.aK];omega),_,rfl,s2.upd hD,?_⟩
    have:Mir.isOpen (Mir.frm rs) i=true:=by unfold Mir.isOpen;simpa using h1
    rw[ae,es,if_pos this,Mir.eQ]
    rfl
   ·refine⟨_,rfl,s2,?_⟩
    have:¬ Mir.isOpen (Mir.frm rs) i=true:=fun z=>h1 (by unfold Mir.isOpen at z;simpa using z)
    rw[es,if_neg this,List.append_nil]
    exact h2
  ·rintro σ H2 ⟨v,rfl,s2,h2⟩
   have e:(((Mir.iV rs).length:Nat)+1:Int).toNat=rs.length+1:=by rw[ivl];omega
   rw[e] at h2
   exact k D H2 (s1.free hD) (s1.trans s2) h2
end
section
variable {P:Program}{w:World}{K:PySem.W.Frag}{mg:Str→Option Value}{base:Heap}
theorem kg {f:Addr}{fd:FuncData}(B:Bl mg)(F:Fn K mg "hung_together" bW ["pairs"] f fd):aO P w K mg base CX0 1 f fd ["pairs"] Mir.wH:=by
 refine F.fn.ok aU (fun vs H Q E h=>?_) (fun cdv A outer s H vs Q E hr h=>?_)
 ·obtain⟨l,ps,rfl,_⟩:=h
  rfl
 ·obtain⟨l,ps,rfl,hT,hn,k⟩:=h
  have hu:=vq hr
  refine⟨_,(af (aB (i:=1) aU.nd rfl (Or.inl rfl) lh)
   (af (bq PassesOwn.never rfl (aM (pv 0)) (nW rfl (dS (aC (i:=2) aU.nd rfl (Or.inl rfl)) (dS (aC (i:=3) aU.nd rfl (Or.inl rfl)) kU))) (af (aB (i:=4) aU.nd rfl (Or.inl rfl) (ox (pv 1) (pv 2) (pv 2) ⟨rfl,rfl,rfl,rfl⟩))
   (af (aB (i:=5) aU.nd rfl (Or.inl rfl) (ox (pv 1) (pv 3) (pv 3) ⟨rfl,rfl,rfl,rfl⟩))
   (au (bq PassesOwn.never rfl (aM (bN (oy rfl) rfl B.list iq (ab (pv 1) ai))) (aC (i:=6) aU.nd rfl (Or.inl rfl)) (au (bT (aE eP (n0 hu (pv 1) (pv 6) (fun _ _=>rfl)) (pv 5) (aI _)) (au (sj hu (pv 1) (pv 6) (pv 4) rfl)) a8)))))))
   (af (aB (i:=7) aU.nd rfl (Or.inl rfl) lh)
   (af (bq PassesOwn.never rfl (vC rfl B.enumerate (ab (pv 0) ai)) (nW rfl (dS (aC (i:=8) aU.nd rfl (Or.inl rfl)) (dS (aC (i:=9) aU.nd rfl (Or.inl rfl)) kU))) (au (b5 (fj PySem.F.plainAttrs_list PySem.F.slot_list_append PySem.F.type_list_append bE (ox (pv 7) (n0 hu (pv 1) (aR gT (pv 9) aj (fun _ _=>rfl)) (fun _ _=>rfl)) (bc ai) ⟨rfl,rfl,rfl,rfl⟩) (ab (pv 8) ai)))))
   (au (aQ (cG (NC:=["places"]) rfl (gz rfl (by decide +kernel) (by decide +kernel)) (ya (pv 7)) (fun _ _ _ _=>(aC (i:=0) (show (["places"]:List Str).Nodup by decide +kernel) rfl (Or.inl rfl))) (fun _ _ _ _=>cF) (fun _ _ _ _=>(bN cu rfl B.tuple gW (ab (pv 0) ai)))))))))),?_⟩
  obtain⟨ts,hts,hlen,htp⟩:=id hT
  have ltl:(ts.map V.ref).length=ps.length:=by rw[List.length_map,hlen]
  intro dG hdG
  have ht1:upd H dG (.dK []) l=some (.lst (ts.map V.ref)):=(ag hdG) _ _ hts
  refine⟨_,rfl,l,rfl,⟨_,SqL.of ht1⟩,bo (K:=K) (a:=l) (xs:=ts.map V.ref) (fun i σ H1=>∃ (v2 v3 v4 v5 v6:Option V) (kv:List (Key×V)),σ=[some (.ref l),some (.ref dG),v2,v3,v4,v5,v6,none,none,none]∧aq H H1∧H1 dG=some (.dK kv)∧kv.length≤2*i∧Mir.GD kv (Mir.mk (ps.take i)) (Mir.Sn (ps.take i)))
   ⟨none,none,none,none,none,[],rfl,ag hdG,ae,Nat.le_refl _,Mir.GD.nil _ fun x ⟨p,hp,_⟩=>absurd hp List.not_mem_nil⟩ (fun i σ H1 _ ⟨_,_,_,_,_,_,_,s1,_⟩=>SqL.of (s1 _ _ hts)) ?_ ?_⟩
  ·rintro i y σ H1 hy ⟨v2,v3,v4,v5,v6,kv,rfl,s1,hG,lG,gd⟩
   have hi:i<ps.length:=by rw[← ltl];exact(List.getElem?_eq_some_iff.mp hy).1
   have hpi:ps[i]?=some ps[i]:=List.getElem?_eq_getElem hi
   obtain⟨t,ht,rfl⟩:∃ t,ts[i]?=some t∧y=.ref t:=by
    rw[List.getElem?_map] at hy
    obtain⟨t,e1,e2⟩:=Option.map_eq_some_iff.mp hy
    exact⟨t,e1,e2.symm⟩
   have htt:=htp i t _ ht hpi
   have etk:ps.take (i+1)=ps.take i++[ps[i]]:=Mir.take_snoc hpi
   generalize ps[i]=p at htt etk hpi
   have mf:=Mir.iu (ps.take i)
   refine⟨t,_,rfl,SqT.of (s1 _ _ htt),rfl,_,_,rfl,_,_,rfl,rfl,?_⟩
   refine⟨_,rfl,dG,rfl,.inl ⟨_,.inl hG⟩,_,rfl,_,rfl,kv,Sum.inl p.1,hG,rfl,aw (by omega),Mir.p8 hG gd (mf.1 _) fun kv2 H2 l2 hG2 o2 gd2=>?_⟩
   have s2:=Mir.aq.but s1 hdG o2
   refine⟨_,rfl,dG,rfl,.inl ⟨_,.inl hG2⟩,_,rfl,_,rfl,kv2,Sum.inl p.2,hG2,rfl,aw (by omega),Mir.p8 hG2 gd2 (fun z=>mf.1 _ fun z2=>z (.inl z2)) fun kv3 H3 l3 hG3 o3 gd3=>?_⟩
   have s3:=Mir.aq.but s2 hdG o3
   have gd3:Mir.GD kv3 (Mir.mk (ps.take i)) (Mir.Sn (ps.take (i+1))):=gd3.imp fun x=>by
    rw[etk,Mir.ir,or_assoc]
   refine⟨_,rfl,dG,kv3,rfl,hG3,fun lk hlk=>?_⟩
   have s4:aq H3 (upd H3 lk (.lst (kv3.map fun kv=>kV kv.1))):=ag hlk
   have hk4:upd H3 lk (.lst (kv3.map fun kv=>kV kv.1)) lk=some (.lst (kv3.map fun kv=>kV kv.1)):=ae
   have Ef:H lk=none:=s3.free hlk
   have hG4:=s4 _ _ hG3
   have s34:=s3.trans s4
   have nk:lk≠dG:=fun z=>by rw[z,hG3] at hlk;cases hlk
   generalize upd H3 lk (.lst (kv3.map fun kv=>kV kv.1))=H4 at s4 hk4 hG4 s34 ⊢
   let m:=Mir.mk (ps.take i)
   refine⟨lk,rfl,⟨_,SqL.of hk4⟩,bo (K:=K) (a:=lk) (xs:=kv3.map fun kv=>kV kv.1) (fun j σ H5=>∃ (v6:Option V) (kv5:List (Key×V)),σ=[some (.ref l),some (.ref dG),some (.int p.1),some (.int p.2),some (.int (m p.1)),some (.int (m p.2)),v6,none,none,none]∧aq H H5∧H5 lk=some (.lst (kv3.map fun kv=>kV kv.1))∧H5 dG=some (.dK kv5)∧kv5.length=kv3.length ∧
     Mir.GD kv5 (Mir.chg ((kv3.map Prod.fst).take j) m (m p.1) (m p.2)) (Mir.Sn (ps.take (i+1))))
    ⟨v6,kv3,rfl,s34,hk4,hG4,rfl,gd3.congr fun x _=>by rw[List.take_zero,Mir.yE]⟩ (fun j σ H5 _ ⟨_,_,_,_,h,_⟩=>SqL.of h) ?_ ?_⟩
   ·rintro j y σ H5 hy ⟨v6,kv5,rfl,s5,hk5,hG5,l5,gd5⟩
    rw[List.getElem?_map] at hy
    obtain⟨kvj,ej,rfl⟩:=Option.map_eq_some_iff.mp hy
    have ekj:(kv3.map Prod.fst)[j]?=some kvj.1:=by rw[List.getElem?_map,ej];rfl
    obtain⟨x,ex,hS⟩:=gd3.keys kvj.1 (List.mem_of_getElem? ekj)
    have etj:(kv3.map Prod.fst).take (j+1)=(kv3.map Prod.fst).take j++[(Sum.inl x:Key)]:=by rw[← ex];exact Mir.take_snoc ekj
    rw[ex]
    have gy:=gd5.yes x hS
    have g5:=pD.k (k:=Sum.inl x) hG5
    rw[gy] at g5
    refine⟨_,rfl,_,rfl,dG,_,rfl,g5,_,rfl,rfl,_,rfl,?_⟩
    refine fR (fun h2=>?_) (fun h2=>?_)
    ·have h2:Mir.chg ((kv3.map Prod.fst).take j) m (m p.1) (m p.2) x=m p.2:=by have z:=of_decide_eq_true h2;injection z
     have zl:(putK kv5 (Sum.inl x:Key) (.int (m p.1))).length=kv5.length:=Mir.yC (by rw[gy];rfl)
     refine⟨_,rfl,_,rfl,_,rfl,dG,_,rfl,ua.k (k:=Sum.inl x) hG5 (aw (by omega)),_,_,rfl,s5.upd hdG,by rw[ao nk];exact hk5,ae,zl.trans l5,(gd5.put hS _).congr fun y _=>?_⟩
     rw[etj]
     exact Mir.yF h2
    ·have h2:¬ Mir.chg ((kv3.map Prod.fst).take j) m (m p.1) (m p.2) x=m p.2:=fun z=>h2 (decide_eq_true (by rw[z]))
     refine⟨_,_,rfl,s5,hk5,hG5,l5,gd5.congr fun y _=>?_⟩
     rw[etj]
     exact Mir.AN h2
   ·rintro σ H5 ⟨v6,kv5,rfl,s5,hk5,hG5,l5,gd5⟩
    refine⟨_,_,_,_,_,kv5,rfl,s5,hG5,by omega,gd5.congr fun y hy=>?_⟩
    have hin:(Sum.inl y:Key)∈(kv3.map Prod.fst).take (kv3.map fun kv=>kV kv.1).length:=by
     rw[List.length_map,List.take_of_length_le (by rw[List.length_map];exact Nat.le_refl _)]
     exact og (gd3.yes y hy)
    rw[etk,Mir.kW]
    exact Mir.sT hin
  ·rintro σ H1 ⟨v2,v3,v4,v5,v6,kv,rfl,s1,hG,lG,gd⟩
   rw[ltl,List.take_length] at gd
   rw[ltl] at lG
   intro dF hdF
   have s2:aq H1 (upd H1 dF (.dK [])):=ag hdF
   have B6:H dF=none:=s1.free hdF
   have hF2:upd H1 dF (.dK []) dF=some (.dK []):=ae
   have hG2:=s2 _ _ hG
   have nGF:dG≠dF:=fun z=>by rw[← z,hG] at hdF;cases hdF
   have s12:=s1.trans s2
   generalize upd H1 dF (.dK [])=H2 at s2 hF2 hG2 s12 ⊢
   let c:Nat→Int:=fun k=>Mir.mk ps (ps.getD k (0,0)).1
   refine⟨_,rfl,l,rfl,⟨_,SqL.of (s12 _ _ hts)⟩,ug (K:=K) (a:=l) (xs:=ts.map V.ref) (fun i σ H3=>∃ (v8 v9:Option V) (kf:List (Key×V)) (as:List Addr),σ=[some (.ref l),some (.ref dG),v2,v3,v4,v5,v6,some (.ref dF),v8,v9]∧aq H H3∧H3 dG=some (.dK kv)∧Mir.FG H H3 dF kf (Mir.grp c i) as)
    ⟨none,none,[],[],rfl,s12,hG2,⟨hF2,rfl,rfl,List.nodup_nil,fun j a e h=>by simp at h,fun a ha=>absurd ha List.not_mem_nil⟩⟩ (fun i σ H3 _ ⟨_,_,_,_,_,s3,_⟩=>SqL.of (s3 _ _ hts)) ?_ ?_⟩
   ·rintro i y tt σ H3 hy ⟨v8,v9,kf,as,rfl,s3,hG3,fg⟩ htt
    have hi:i<ps.length:=by rw[← ltl];exact(List.getElem?_eq_some_iff.mp hy).1
    have hpi:ps[i]?=some ps[i]:=List.getElem?_eq_getElem hi
    obtain⟨t,ht,rfl⟩:∃ t,ts[i]?=some t∧y=.ref t:=by
     rw[List.getElem?_map] at hy
     obtain⟨t,e1,e2⟩:=Option.map_eq_some_iff.mp hy
     exact⟨t,e1,e2.symm⟩
    have Df:=htp i t _ ht hpi
    have ec:c i=Mir.mk ps ps[i].1:=by
     show Mir.mk ps (ps.getD i (0,0)).1=_
     rw[List.getD_eq_getElem?_getD,hpi]
     rfl
    have hS:Mir.Sn ps ps[i].1:=⟨ps[i],List.getElem_mem hi,.inl rfl⟩
    have s4:aq H3 (upd H3 tt (.tup [.int i,.ref t])):=ag htt
    have ht4:upd H3 tt (.tup [.int i,.ref t]) tt=some (.tup [.int i,.ref t]):=ae
    have hG4:=s4 _ _ hG3
    have fg4:=fg.same s4
    have s34:=s3.trans s4
    generalize upd H3 tt (.tup [.int i,.ref t])=H4 at s4 ht4 hG4 fg4 s34 ⊢
    have gy:=gd.yes _ hS
    rw[← ec] at gy
    have g4:=pD.k (k:=Sum.inl ps[i].1) hG4
    rw[gy] at g4
    have hl4:=fg4.len
    have gl:=Mir.kX c i
    refine⟨tt,_,rfl,SqT.of ht4,rfl,_,_,rfl,_,_,rfl,rfl,?_⟩
    refine⟨_,rfl,dF,rfl,.inl ⟨_,.inl fg4.at'⟩,_,rfl,_,rfl,t,_,_,_,rfl,rfl,SqT.of (s34 _ _ Df),rfl,dG,_,rfl,g4,by show 0≤sizeLine;decide,fun n hn4=>?_⟩
    have s5:aq H4 (upd H4 n (.lst [])):=ag hn4
    have hn5:upd H4 n (.lst []) n=some (.lst []):=ae
    have hG5:=s5 _ _ hG4
    have fg5:=fg4.same s5
    have s35:=s34.trans s5
    have nas:n ∉ as:=fun hm=>by
     obtain⟨j,hj⟩:=List.getElem?_of_mem hm
     have hjl:j<(Mir.grp c i).length:=by rw[← hl4.2];exact(List.getElem?_eq_some_iff.mp hj).1
     have:=fg4.lst j n _ hj (List.getElem?_eq_getElem hjl)
     rw[hn4] at this
     cases this
    have nF:dF≠n:=fun z=>by rw[← z,fg4.at'] at hn4;cases hn4
    have nG:dG≠n:=fun z=>by rw[← z,hG4] at hn4;cases hn4
    have hn0:H n=none:=s34.free hn4
    generalize upd H4 n (.lst [])=H5 at s5 hn5 hG5 fg5 s35 ⊢
    refine⟨kf,Sum.inl (c i),fg5.at',rfl,aw (by omega),fun v hv=>?_,fun hv=>?_⟩
    ·obtain⟨a,L,rfl,ha,⟨e,he,eL⟩,fg6⟩:=fg5.old (Mir.iw c i) (x:=(i:Int)) hv
     have hL:L.length≤i:=by rw[← eL];exact(Mir.gD c i).len e he
     have nGa:dG≠a:=fun z=>by rw[← z,hG5] at ha;cases ha
     have ha0:H a=none:=by
      have B7:V.ref a∈kf.map Prod.snd:=by
       unfold bj at hv
       obtain⟨q,q1,q2⟩:=Option.map_eq_some_iff.mp hv
       exact List.mem_map.mpr ⟨q,List.mem_of_find?_eq_some q1,q2⟩
      rw[fg5.vs] at B7
      obtain⟨a',ha',ea⟩:=List.mem_map.mp B7
      injection ea with ea
      rw[← ea]
      exact fg5.new a' ha'
     refine⟨.inl ⟨rfl,_,SqL.of ha⟩,_,rfl,a,_,_,rfl,rfl,ha,aw (by rw[Mir.aK];omega),?_⟩
     exact⟨_,_,kf,as,rfl,s35.upd ha0,by rw[ao nGa];exact hG5,fg6⟩
    ·have fg6:=fg5.fresh (x:=(i:Int)) hv hn5 hn0 nas
     have hn6:upd H5 dF (.dK (putK kf (Sum.inl (c i):Key) (.ref n))) n=some (.lst []):=by rw[ao (Ne.symm nF)];exact hn5
     refine⟨.inl ⟨rfl,_,SqL.of hn6⟩,_,rfl,n,_,_,rfl,rfl,hn6,by show 0<sizeLine;decide,?_⟩
     exact⟨_,_,_,_,rfl,(s35.upd B6).upd hn0,by rw[ao nG,ao nGF];exact hG5,fg6⟩
   ·rintro σ H3 ⟨v8,v9,kf,as,rfl,s3,hG3,fg⟩
    rw[ltl] at fg
    have hl:=fg.len
    have gl:=Mir.kX c ps.length
    have gok:=Mir.gD c ps.length
    refine⟨_,rfl,dF,kf,rfl,fg.at',fun ob D hD=>?_⟩
    have hD3:H3 D=none:=by
     by_cases e:D=dF
     ·rw[e,ae] at hD;cases hD
     ·rwa[ao e] at hD
    have hF4:upd H3 dF (.frz ob (.dK kf)) dF=some (.frz ob (.dK kf)):=ae
    have ls4:∀ (j:Nat) (a:Addr) (e:Int×List Int),as[j]?=some a→(Mir.grp c ps.length)[j]?=some e→upd H3 dF (.frz ob (.dK kf)) a=some (.lst (Mir.iV e.2)):=fun j a e h1 h2=>by
     have z:=fg.lst j a e h1 h2
     rw[ao fun q=>by have:=fg.at';rw[← q,z] at this;cases this]
     exact z
    have s4:aq H (upd H3 dF (.frz ob (.dK kf))):=s3.upd B6
    generalize upd H3 dF (.frz ob (.dK kf))=H4 at hD hF4 ls4 s4 ⊢
    refine uk (fun i σ H5=>∃ v:Option V,σ=[v]∧aq H4 H5∧Mir.TsT Mir.iV H5 D (((Mir.grp c ps.length).take i).map Prod.snd)) ⟨none,rfl,ag hD,Mir.TsT.nil ae⟩ (fun i σ H5 _ ⟨_,_,s5,_⟩=>s5 _ _ hF4) ?_ ?_
    ·rintro i y σ H5 hy ⟨v,rfl,s5,hT5⟩
     have hy:(kf.map Prod.snd)[i]?=some y:=hy
     rw[fg.vs,List.getElem?_map] at hy
     obtain⟨a,ha,rfl⟩:=Option.map_eq_some_iff.mp hy
     have hi:i<(Mir.grp c ps.length).length:=by rw[← hl.2];exact(List.getElem?_eq_some_iff.mp ha).1
     have he:=List.getElem?_eq_getElem hi
     have la:=s5 _ _ (ls4 i a _ ha he)
     refine jW ?_
     refine⟨_,rfl,a,_,rfl,.inl la,fun tp H6 s6 htp=>?_⟩
     obtain⟨ys,y1,y2,y3⟩:=(hT5.same s6).snoc (t:=tp) (x:=(Mir.grp c ps.length)[i].2) htp
     refine⟨_,y1,aw (by rw[y2,List.length_map,List.length_take];omega),_,rfl,(s5.trans s6).upd hD,?_⟩
     rw[Mir.take_snoc he,List.map_append]
     exact y3
    ·rintro σ H5 ⟨v,rfl,s5,hT5⟩
     rw[List.take_of_length_le (by omega)] at hT5
     exact k D H5 (s3.free hD3) (s4.trans s5) hT5
end
section
variable {P:Program}{w:World}{K:PySem.W.Frag}{mg:Str→Option Value}{base:Heap}
theorem rR {f:Addr}{fd:FuncData}(B:Bl mg)(F:Fn K mg "kin_end" dH ["numbers","first"] f fd):aO P w K mg base CX0 1 f fd ["numbers","first"] Mir.pY:=by
 refine F.fn.ok cR (fun vs H Q E h=>?_) (fun cdv A outer s H vs Q E hr h=>?_)
 ·obtain⟨t,fs,a,rfl,_⟩:=h
  rfl
 ·obtain⟨t,fs,a,rfl,ht,nd,ha,hn,kS,kN⟩:=h
  refine⟨_,(af (aB (i:=2) cR.nd rfl (Or.inl rfl) (aR gT (pv 0) (pv 1) (fun _ _=>rfl)))
   (af (aB (i:=3) cR.nd rfl (Or.inl rfl) (uY (aE fW (pv 2) aj (aI _)) (mO jS aj) aj))
   (eI (R:=fun D σ H2=>H2=H∧σ=[some (.ref t),some (.int a),some (.int (fs.getD a 0)),some (.int (if fs.getD a 0<0 then -1 else 1)),none,none,none]∧D.rt=Q) fun D σ H2 hR=>?rest))),?_⟩
  case rest =>
   obtain⟨rfl,rfl,hD⟩:=hR
   refine⟨_,(af (aB (i:=4) cR.nd rfl (Or.inl rfl) (pv 2))
   (af (bq PassesOwn.never rfl (ij rfl B.range (ab (aD aX (pv 1) aj) (ab (aG aF rfl B.len bg (ab (pv 0) ai)) ai))) (aC (i:=5) cR.nd rfl (Or.inl rfl)) (af (aB (i:=6) cR.nd rfl (Or.inl rfl) (aD qJ (pv 3) (aG va rfl B.abs AD (ab (aR gT (pv 0) (pv 5) (fun _ _=>rfl)) ai))))
   (af (bT (aE fW (pv 6) (pv 2) (aI _)) (au (aQ iN)) a8)
   (af (aB (i:=4) cR.nd rfl (Or.inl rfl) (aG (mP rfl) rfl B.max vW (ab (pv 4) (ab (pv 6) ai))))
   (au (bT (u9 eP eP (aR gT (pv 0) (pv 5) (fun _ _=>rfl)) (pv 4) (aD iO (aD aX (pv 2) (pv 5)) (pv 1))) (au (aQ (pv 5))) a8))))))
   (au (aQ iN)))),?_⟩
   have ivl:(Mir.iV fs).length=fs.length:=Mir.aK fs
   have sgA:∀ x,(if fs.getD a 0<0 then -1 else 1)*Mir.aZ (fs.getD x 0)=Mir.amA fs a x:=fun x=>by unfold Mir.amA;split <;> omega
   have sgC:∀ j,xN (if fs.getD a 0<0 then (-1:Int) else 1) j:=fun j=>.inl (by split <;> exact⟨by decide,by decide⟩)
   generalize (if fs.getD a 0<0 then (-1:Int) else 1)=sg at sgA sgC ⊢
   refine⟨_,rfl,_,rfl,_,_,rfl,rfl,_,rfl,t,_,rfl,.inr (SqT.of ht),_,_,rfl,⟨by omega,by omega,by rw[ivl];omega,by rw[ivl];omega⟩,
    eZ (lo:=(a:Int)+1) (n:=(((Mir.iV fs).length:Nat)-((a:Int)+1):Int).toNat) (fun i σ H3=>∃ (hi:Int) (v5 v6:Option V),σ=[some (.ref t),some (.int a),some (.int (fs.getD a 0)),some (.int sg),some (.int hi),v5,v6]∧H3=H2∧Mir.oF fs a (a+1+i) hi∧∀ c,c<a+1+i→¬ Mir.Wh fs a c)
     ⟨_,none,none,rfl,rfl,Mir.oF.first fs a,fun c hc W=>by have:=W.lt;omega⟩ ?_ ?_⟩
   ·rintro i σ H3 hi ⟨hi',v5,v6,rfl,rfl,S,no⟩
    rw[ivl] at hi
    have hc:a+1+i<fs.length:=by omega
    have ec:(a:Int)+1+(i:Int)=((a+1+i:Nat):Int):=by omega
    rw[ec]
    refine⟨_,rfl,_,rfl,_,rfl,t,_,_,_,rfl,rfl,SqT.of ht,aW (Mir.dg hc),_,rfl,_,_,rfl,rfl,sgC _,?_⟩
    dsimp only
    rw[Mir.yv,sgA]
    refine⟨_,rfl,_,rfl,_,_,rfl,rfl,_,rfl,?_⟩
    refine fR (fun h1=>?_) (fun h1=>?_)
    ·have h1:=of_decide_eq_true h1
     show D.rt V.non _
     rw[hD]
     refine kN fun b W=>?_
     by_cases hb:b<a+1+i
     ·exact no b hb W
     ·exact Mir.Wh.stop (by omega) h1 (by omega) W
    have h1:fs.getD a 0≤Mir.amA fs a (a+1+i):=by
     have:¬ Mir.amA fs a (a+1+i)<fs.getD a 0:=fun z=>h1 (decide_eq_true z)
     omega
    have S2:=S.next (by omega) h1
    refine⟨_,rfl,_,rfl,_,_,rfl,?_⟩
    dsimp only
    generalize (if Mir.amA fs a (a+1+i)>hi' then Mir.amA fs a (a+1+i) else hi')=hi2 at S2 ⊢
    have iff:=S2.wh nd (by omega) hc
    have e2:((a+1+i:Nat):Int)=(a:Int)+1+i:=by omega
    have stop:∀ W:Mir.Wh fs a (a+1+i),Mir.Kn fs a (a+1+i):=fun W=>⟨W,fun c hc=>no c hc⟩
    have go:¬ Mir.Wh fs a (a+1+i)→∀ c,c<a+1+(i+1)→¬ Mir.Wh fs a c:=fun nw c hc=>by
     by_cases e:c=a+1+i
     ·rw[e];exact nw
     ·exact no c (by omega)
    refine⟨_,rfl,_,rfl,t,_,_,_,rfl,rfl,SqT.of ht,aW (Mir.dg hc),_,rfl,rfl,_,rfl,?_⟩
    refine fR (fun h2=>?_) (fun h2=>?_)
    ·have h2:fs.getD (a+1+i) 0=hi2:=by injection of_decide_eq_true h2
     refine⟨_,rfl,_,rfl,_,_,rfl,rfl,_,rfl,_,_,rfl,rfl,rfl,_,rfl,?_⟩
     refine fR (fun h3=>?_) (fun h3=>?_)
     ·have h3:hi2=fs.getD a 0+((a+1+i:Nat):Int)-(a:Int):=by injection of_decide_eq_true h3
      refine⟨_,rfl,?_⟩
      show D.rt _ _
      rw[hD]
      exact kS _ (stop (iff.mp ⟨h2,h3⟩))
     ·have h3:¬ hi2=fs.getD a 0+((a+1+i:Nat):Int)-(a:Int):=fun z=>h3 (decide_eq_true (congrArg V.int z))
      exact⟨_,_,_,rfl,rfl,S2,go fun W=>h3 (iff.mpr W).2⟩
    ·have h2:¬ fs.getD (a+1+i) 0=hi2:=fun z=>h2 (decide_eq_true (congrArg V.int z))
     exact⟨_,rfl,cJ ⟨_,_,_,rfl,rfl,S2,go fun W=>h2 (iff.mpr W).1⟩⟩
   ·rintro σ H3 ⟨hi',v5,v6,rfl,rfl,S,no⟩
    rw[ivl] at no
    show D.rt V.non _
    rw[hD]
    refine kN fun b W=>?_
    have:=W.lb
    exact no b (by omega) W
  refine⟨_,rfl,_,rfl,t,_,_,_,rfl,rfl,SqT.of ht,aW (Mir.dg ha),?_⟩
  refine⟨_,rfl,_,_,rfl,rfl,_,rfl,?_⟩
  refine fR (fun h1=>?_) (fun h1=>?_)
  ·have h1:=of_decide_eq_true h1
   exact⟨_,rfl,rfl,by rw[if_pos h1];rfl,rfl⟩
  ·have h1:¬ fs.getD a 0<0:=fun z=>h1 (decide_eq_true z)
   exact⟨rfl,by rw[if_neg h1];rfl,rfl⟩
end
section
variable {P:Program}{w:World}{K:PySem.W.Frag}{mg:Str→Option Value}{base:Heap}
theorem jK {f f1 f2:Addr}{fd fd1 fd2:FuncData}(B:Bl mg)(F:Fn K mg "kin_spans" cz ["row"] f fd)(bA:Fn K mg "framed" d5 ["row"] f1 fd1)(cI:Fn K mg "kin_end" dH ["numbers","first"] f2 fd2):aO P w K mg base CX0 2 f fd ["row"] Mir.gC:=by
 have h8:aO P w K mg base CX0 1 f1 fd1 ["row"] Mir.jt:=kc B bA
 have uO:aO P w K mg base CX0 1 f2 fd2 ["numbers","first"] Mir.pY:=rR B cI
 refine F.fn.ok gK (fun vs H Q E h=>?_) (fun cdv A outer s H vs Q E hr h=>?_)
 ·obtain⟨t,rs,rfl,_⟩:=h
  rfl
 ·obtain⟨t,rs,rfl,ht,fit,k⟩:=h
  have hn:=fit.small
  refine⟨_,(af (aB (i:=1) gK.nd rfl (Or.inr rfl) (aY h8 bA (hr.mono (by decide)) (ab (pv 0) ai)))
   (af (b7 (ix:=2) (NC:=["first","numbers"]) gK.nd rfl (Or.inl rfl) rfl (bC (c:=s.heap.objs.size+1) (j:=1) rfl (by decide +kernel) (by decide +kernel) rfl rfl rfl rfl rfl) (fV rfl B.range (ab (aG aF rfl B.len bg (ab (pv 1) ai)) ai)) (fun _ _ _ _=>(aC (i:=0) (show (["first","numbers"]:List Str).Nodup by decide +kernel) rfl (Or.inl rfl))) (fun _ _ _ _=>cF) (fun _ _ _ _=>(iP (ab (pv 0) (ab (aY uO cI (hr.mono (by decide)) (ab (pv 1) (ab (pv 0) ai))) ai)))))
   (au (aQ (cG (NC:=["span"]) rfl (gz rfl (by decide +kernel) (by decide +kernel)) (aM (pv 2)) (fun _ _ _ _=>(aC (i:=0) (show (["span"]:List Str).Nodup by decide +kernel) rfl (Or.inl rfl))) (fun _ _ _ _=>(b6 (aE nX (aR (bH (K:=K) rfl) (pv 0) aj (fun _ _=>rfl)) iN (aI _)))) (fun _ _ _ _=>(pv 0))))))),?_⟩
  have nd:=Mir.dD fit
  have fl:=Mir.ba rs
  refine⟨_,rfl,t,rs,rfl,ht,by omega,fun t1 H1 s1 ht1=>?_⟩
  generalize Mir.frm rs=fs at nd fl ht1 k
  have ivl:(Mir.iV fs).length=fs.length:=Mir.aK fs
  let ok:Nat→V→Prop:=fun a v=>(∃ b:Nat,Mir.Kn fs a b∧v=.int b)∨((∀ b,¬ Mir.Wh fs a b)∧v=.non)
  refine⟨_,rfl,t1,_,rfl,.inr (SqT.of ht1),_,rfl,by rw[ivl];omega,by rw[ivl];omega,fun D hD=>?_⟩
  refine iT (fun i σ H2=>∃ (v:Option V) (es:List V),σ=[v,some (.ref t1)]∧aq H1 H2∧es.length=i∧(∀ a e,es[a]?=some e→ok a e)∧∃ ts:List Addr,H2 D=some (.lst (ts.map V.ref))∧ts.length=i∧∀ a t' e,ts[a]?=some t'→es[a]?=some e→H2 t'=some (.tup [.int (a:Nat),e]))
   ⟨none,[],rfl,ag hD,rfl,fun a e h=>(nomatch h),[],ae,rfl,fun a t' e h=>(nomatch h)⟩ ?_ ?_
  ·rintro i σ H2 hi ⟨v,es,rfl,s2,hel,hes,ts,hts,htl,mD⟩
   rw[ivl] at hi
   have hi:i<fs.length:=by omega
   rw[Int.zero_add]
   refine jW ?_
   have fin:∀ e:V,ok i e→2≤sizeLine∧∀ tp,H2 tp=none→∃ ys,upd H2 tp (.tup [.int (i:Nat),e]) D=some (.lst ys)∧ys.length<sizeLine∧∃ (v:Option V) (es:List V),([some (.int (i:Nat)),some (.ref t1)]:St)=[v,some (.ref t1)]∧aq H1 (upd (upd H2 tp (.tup [.int (i:Nat),e])) D (.lst (ys++[.ref tp])))∧es.length=i+1∧(∀ a e,es[a]?=some e→ok a e)∧∃ ts:List Addr,upd (upd H2 tp (.tup [.int (i:Nat),e])) D (.lst (ys++[.ref tp])) D=some (.lst (ts.map V.ref))∧ts.length=i+1∧∀ a t' e',ts[a]?=some t'→es[a]?=some e'→upd (upd H2 tp (.tup [.int (i:Nat),e])) D (.lst (ys++[.ref tp])) t'=some (.tup [.int (a:Nat),e']):=fun e he=>by
    refine⟨by decide,fun tp htp=>?_⟩
    have ne:D≠tp:=fun z=>by rw[← z,hts] at htp;cases htp
    have sp:aq H2 (upd H2 tp (.tup [.int (i:Nat),e])):=ag htp
    refine⟨_,sp _ _ hts,aw (by rw[List.length_map];omega),_,es++[e],rfl,(s2.trans sp).upd hD,by rw[List.length_append,hel];rfl,fun a x hx=>?_,ts++[tp],by rw[ae,List.map_append];rfl,by rw[List.length_append,htl];rfl,fun a t' x h1 h2=>?_⟩
    ·by_cases c:a<es.length
     ·rw[List.getElem?_append_left c] at hx
      exact hes a x hx
     ·rw[List.getElem?_append_right (by omega)] at hx
      have ea:a=i:=by have:=(List.getElem?_eq_some_iff.mp hx).1;simp at this;omega
      rw[ea,hel,Nat.sub_self] at hx
      rw[ea,← Option.some.inj hx]
      exact he
    ·by_cases c:a<i
     ·rw[List.getElem?_append_left (by omega)] at h1 h2
      have q:=mD a t' x h1 h2
      have n1:t'≠D:=fun z=>by rw[z,hts] at q;cases q
      rw[ao n1]
      exact sp _ _ q
     ·have ea:a=i:=by have:=(List.getElem?_eq_some_iff.mp h1).1;simp at this;omega
      rw[List.getElem?_append_right (by omega),ea,htl,Nat.sub_self] at h1
      rw[List.getElem?_append_right (by omega),ea,hel,Nat.sub_self] at h2
      rw[← Option.some.inj h1,← Option.some.inj h2,ao (Ne.symm ne),ae,ea]
   refine⟨_,rfl,_,rfl,_,rfl,t1,fs,i,rfl,s2 _ _ ht1,nd,hi,by omega,fun b hb=>?_,fun hb=>?_⟩
   ·exact fin _ (.inl ⟨b,hb,rfl⟩)
   ·exact fin _ (.inr ⟨hb,rfl⟩)
  ·rintro σ H2 ⟨v,es,rfl,s2,hel,hes,ts,hts,htl,mD⟩
   rw[ivl] at hel htl
   have hel:es.length=fs.length:=by omega
   have htl:ts.length=fs.length:=by omega
   refine⟨_,rfl,D,rfl,⟨_,SqL.of hts⟩,fun D2 hD2=>a5 (K:=K) (a:=D) (xs:=ts.map V.ref) (fun i σ H3=>∃ v:Option V,σ=[v]∧aq H2 H3∧Mir.TsT Mir.pr H3 D2 ((Mir.whL fs i).filter (Mir.lD fs))) ⟨none,rfl,ag hD2,Mir.TsT.nil ae⟩ (fun i σ H3 _ ⟨_,_,s3,_⟩=>SqL.of (s3 _ _ hts)) ?_ ?_⟩
   ·rintro i y σ H3 hy ⟨v,rfl,s3,hT⟩
    have hi:i<fs.length:=by have:=(List.getElem?_eq_some_iff.mp hy).1;rw[List.length_map] at this;omega
    rw[List.getElem?_map,List.getElem?_eq_getElem (by omega)] at hy
    obtain rfl:=Option.some.inj hy
    have et:ts[i]?=some ts[i]:=List.getElem?_eq_getElem (by omega)
    have ee:es[i]?=some es[i]:=List.getElem?_eq_getElem (by omega)
    have q:=s3 _ _ (mD i _ _ et ee)
    have hok:=hes i _ ee
    generalize ts[i]=t' at q
    generalize es[i]=e at q hok
    have ll:((Mir.whL fs i).filter (Mir.lD fs)).length≤fs.length:=by
     have:=Mir.lF fs i
     omega
    refine⟨_,rfl,t',_,_,_,rfl,rfl,SqT.of q,(show atI [V.int (i:Nat),e] 1=some e from rfl),rfl,_,rfl,?_⟩
    rcases hok with ⟨b,hb,rfl⟩ | ⟨hb,rfl⟩
    ·rcases Mir.sP (fs:=fs) (a:=i) with ⟨hno,_⟩ | ⟨b',hb',er⟩
     ·exact absurd hb.1 (hno b)
     have eb:=Mir.jv hb' hb
     subst eb
     refine AH (show (!decide (V.int (b':Nat)=V.non))=true by rw[decide_eq_false (fun z=>by cases z)];rfl) ?_
     obtain⟨ys,y1,y2,y3⟩:=hT.snoc (t:=t') (x:=((i:Int),(b':Int))) q
     refine⟨_,rfl,_,y1,aw (by rw[y2];omega),_,rfl,s3.upd hD2,?_⟩
     rw[Mir.ju,List.filter_append,er]
     exact y3
    ·refine BY (by decide) ?_
     refine⟨_,rfl,s3,?_⟩
     rcases Mir.sP (fs:=fs) (a:=i) with ⟨_,er⟩ | ⟨b',hb',_⟩
     ·rw[Mir.ju,List.filter_append,er,List.append_nil]
      exact hT
     ·exact absurd hb'.1 (hb b')
   ·rintro σ H3 ⟨v,rfl,s3,hT⟩
    rw[List.length_map,htl] at hT
    exact k D2 H3 ((s1.trans s2).free hD2) ((s1.trans s2).trans s3) hT
end
section
variable {P:Program}{w:World}{K:PySem.W.Frag}{mg:Str→Option Value}{base:Heap}
theorem qx {f f1 f2 f3:Addr}{fd fd1 fd2 fd3:FuncData}(B:Bl mg)(F:Fn K mg "gap_kins" fz ["row"] f fd)(bA:Fn K mg "framed" d5 ["row"] f1 fd1)(cI:Fn K mg "kin_end" dH ["numbers","first"] f2 fd2)(bh:Fn K mg "kin_spans" cz ["row"] f3 fd3):aO P w K mg base CX0 3 f fd ["row"] Mir.ni:=by
 have cX:aO P w K mg base CX0 2 f3 fd3 ["row"] Mir.gC:=jK B bh bA cI
 refine F.fn.ok eC (fun vs H Q E h=>?_) (fun cdv A outer s H vs Q E hr h=>?_)
 ·obtain⟨t,rs,rfl,_⟩:=h
  rfl
 ·obtain⟨t,rs,rfl,ht,fit,k⟩:=h
  have hu:=vq hr
  have hn:=fit.small
  refine⟨_,(af (aB (i:=1) eC.nd rfl (Or.inr rfl) lh)
   (af (bq PassesOwn.never rfl (aM (aY cX bh (hr.mono (by decide)) (ab (pv 0) ai))) (nW rfl (dS (aC (i:=2) eC.nd rfl (Or.inl rfl)) (dS (aC (i:=3) eC.nd rfl (Or.inl rfl)) kU))) (au (bq PassesOwn.never rfl (ij rfl B.range (ab (pv 2) (ab (pv 3) ai))) (aC (i:=4) eC.nd rfl (Or.inl rfl)) (au (sj hu (pv 1) (pv 4) (iP (ab (pv 2) (ab (pv 3) ai))) rfl)))))
   (au (aQ (cG (NC:=["gap","told"]) rfl (bC (c:=s.heap.objs.size+1) (j:=1) rfl (by decide +kernel) (by decide +kernel) rfl rfl rfl rfl rfl) (fV rfl B.range (ab (aD aX (aG aF rfl B.len bg (ab (pv 0) ai)) aj) ai)) (fun _ _ _ _=>(aC (i:=0) (show (["gap","told"]:List Str).Nodup by decide +kernel) rfl (Or.inl rfl))) (fun _ _ _ _=>cF) (fun _ _ _ _=>(n0 hu (pv 1) (pv 0) (fun _ _=>rfl)))))))),?_⟩
  have ivl:(Mir.iV rs).length=rs.length:=Mir.aK rs
  have lim:∀ x:Nat,x≤5000→x<sizeLine:=fun x hx=>Nat.lt_of_le_of_lt hx (by decide)
  intro dG hdG
  have s1:aq H (upd H dG (.dK [])):=ag hdG
  have hG1:upd H dG (.dK []) dG=some (.dK []):=ae
  generalize upd H dG (.dK [])=H1 at s1 hG1 ⊢
  refine⟨_,rfl,t,rs,rfl,s1 _ _ ht,fit,fun l H2 hl s2 hT=>?_⟩
  obtain⟨ts,hts,hlen,htp⟩:=id hT
  have kl:=Mir.gg (Mir.frm rs)
  rw[Mir.ba] at kl
  have asc:=Mir.gj (Mir.frm rs)
  have knm:∀ p∈Mir.b4 (Mir.frm rs),∃ a b:Nat,p=((a:Int),(b:Int))∧a<b∧b<rs.length+2:=fun p hp=>by
   obtain⟨a,b,kn,rfl⟩:=Mir.bO.mp hp
   have:=kn.1.lb
   rw[Mir.ba] at this
   exact⟨a,b,rfl,kn.1.lt,this⟩
  have all:=fun (H:Hp) (d:Addr) (kv:List (Key×V)) (h:Mir.GK H d kv (Mir.b4 (Mir.frm rs))) (g:Nat) (hg:g<rs.length+1)=>Mir.AO fit h hg
  have fin:(List.range (rs.length+1)).map (Mir.ow (Mir.frm rs))=Mir.yz rs:=rfl
  generalize Mir.b4 (Mir.frm rs)=ps at hT htp hlen kl asc knm all
  have ltl:(ts.map V.ref).length=ps.length:=by rw[List.length_map,hlen]
  refine⟨l,rfl,⟨_,SqL.of hts⟩,bo (K:=K) (a:=l) (xs:=ts.map V.ref) (fun i σ H3=>∃ (v2 v3 v4:Option V) (kv:List (Key×V)),σ=[some (.ref t),some (.ref dG),v2,v3,v4]∧aq H H3∧H3 l=some (.lst (ts.map V.ref))∧(∀ a ys,H2 a=some (.tup ys)→H3 a=some (.tup ys))∧kv.length≤42*i∧Mir.GK H3 dG kv (ps.take i))
   ⟨none,none,none,[],rfl,s1.trans s2,hts,fun a ys e=>e,Nat.le_refl _,s2 _ _ hG1,fun g q hq=>absurd hq List.not_mem_nil⟩ (fun i σ H3 _ ⟨_,_,_,_,_,_,h,_⟩=>SqL.of h) ?_ ?_⟩
  ·rintro i y σ H3 hy ⟨v2,v3,v4,kv,rfl,s3,hl3,kt3,lk,gk⟩
   have hi:i<ps.length:=by rw[← ltl];exact(List.getElem?_eq_some_iff.mp hy).1
   have hpi:ps[i]?=some ps[i]:=List.getElem?_eq_getElem hi
   obtain⟨t',ht',rfl⟩:∃ t,ts[i]?=some t∧y=.ref t:=by
    rw[List.getElem?_map] at hy
    obtain⟨t,e1,e2⟩:=Option.map_eq_some_iff.mp hy
    exact⟨t,e1,e2.symm⟩
   have htt:=kt3 _ _ (htp i t' _ ht' hpi)
   have etk:ps.take (i+1)=ps.take i++[ps[i]]:=Mir.take_snoc hpi
   have lts:∀ q∈ps.take i,q.1<ps[i].1:=fun q hq=>by
    obtain⟨j,hj⟩:=List.getElem?_of_mem hq
    rw[List.getElem?_take] at hj
    split at hj
    ·rename_i h
     have hj2:=List.getElem?_eq_some_iff.mp hj
     have z:=List.pairwise_iff_getElem.mp asc j i hj2.1 hi h
     rw[hj2.2] at z
     exact z
    ·cases hj
   obtain⟨a,b,ep,hab,hb⟩:=knm _ (List.getElem_mem hi)
   rw[ep] at htt etk lts
   refine⟨t',_,rfl,SqT.of htt,rfl,_,_,rfl,_,_,rfl,rfl,?_⟩
   refine⟨_,rfl,_,rfl,_,_,rfl,⟨by omega,by omega,by omega,by omega⟩,eZ (lo:=(a:Int)) (n:=((b:Int)-(a:Int)).toNat) (fun j σ H4=>∃ (v4:Option V) (kv4:List (Key×V)),σ=[some (.ref t),some (.ref dG),some (.int a),some (.int b),v4]∧aq H H4∧H4 l=some (.lst (ts.map V.ref))∧(∀ a ys,H3 a=some (.tup ys)→H4 a=some (.tup ys))∧kv4.length≤42*i+j∧Mir.GI H4 dG kv kv4 ((a:Int),(b:Int)) j)
    ⟨v4,kv,rfl,s3,hl3,fun a ys e=>e,by omega,gk.at',fun g h1 h2=>by dsimp only at h1 h2;omega,fun g _=>rfl⟩ ?_ ?_⟩
   ·rintro j σ H4 hj ⟨v4,kv4,rfl,s4,hl4,kt4,lk4,gi⟩
    refine⟨_,rfl,_,rfl,by show 2≤sizeLine;decide,fun tp Dg=>?_⟩
    have s5:aq H4 (upd H4 tp (.tup [.int a,.int b])):=ag Dg
    have h5:upd H4 tp (.tup [.int a,.int b]) tp=some (.tup (Mir.pr ((a:Int),(b:Int)))):=ae
    have gi5:Mir.GI (upd H4 tp (.tup [.int a,.int b])) dG kv kv4 ((a:Int),(b:Int)) j:=⟨s5 _ _ gi.at',fun g h1 h2=>let ⟨t,e1,e2⟩:=gi.new g h1 h2;⟨t,e1,s5 _ _ e2⟩,gi.old⟩
    have gi6:=gi5.put (by dsimp only;omega) h5
    have zl:=cm kv4 (Sum.inl ((a:Int)+(j:Int)):Key) (V.ref tp)
    have Eg:H dG=none:=hdG
    have nl:l≠dG:=fun z=>by rw[z,gi.at'] at hl4;cases hl4
    refine⟨_,rfl,_,rfl,dG,_,rfl,ua.k (k:=Sum.inl ((a:Int)+(j:Int))) gi5.at' (lim _ (by omega)),_,putK kv4 (Sum.inl ((a:Int)+(j:Int)):Key) (V.ref tp),rfl,(s4.trans s5).upd hdG,by rw[ao nl];exact s5 _ _ hl4,fun x ys e=>?_,by omega,gi6⟩
    rw[ao fun z=>by have:=gi.at';rw[← z,kt4 _ _ e] at this;cases this]
    exact s5 _ _ (kt4 _ _ e)
   ·rintro σ H4 ⟨v4,kv4,rfl,s4,hl4,kt4,lk4,gi⟩
    refine⟨_,_,_,kv4,rfl,s4,hl4,fun x ys e=>kt4 _ _ (kt3 _ _ e),by omega,?_⟩
    rw[etk]
    exact gk.next gi (by dsimp only;omega) lts kt4
  ·rintro σ H3 ⟨v2,v3,v4,kv,rfl,s3,hl3,kt3,lk,gk⟩
   rw[ltl,List.take_length] at gk
   refine⟨_,rfl,t,_,rfl,.inr (SqT.of (s3 _ _ ht)),_,_,rfl,rfl,_,rfl,by rw[ivl];omega,by rw[ivl];omega,fun D hD=>?_⟩
   refine iT (fun i σ H4=>∃ v:Option V,σ=[v,some (.ref dG)]∧aq H3 H4∧Mir.TsT Mir.pr H4 D ((List.range i).map (Mir.ow (Mir.frm rs)))) ⟨none,rfl,ag hD,Mir.TsT.nil ae⟩ ?_ ?_
   ·rintro i σ H4 hi ⟨v,rfl,s4,hT4⟩
    rw[ivl] at hi
    have hi:i<rs.length+1:=by omega
    rw[Int.zero_add]
    obtain⟨tp,e1,e2⟩:=all H3 dG kv gk i hi
    have g4:=pD.k (k:=Sum.inl (i:Int)) (s4 _ _ gk.at')
    rw[e1] at g4
    refine jW ?_
    obtain⟨ys,y1,y2,y3⟩:=hT4.snoc (t:=tp) (x:=Mir.ow (Mir.frm rs) i) (s4 _ _ e2)
    refine⟨_,rfl,_,rfl,dG,_,rfl,g4,_,y1,aw (by rw[y2,List.length_map,List.length_range];omega),_,rfl,s4.upd hD,?_⟩
    rw[List.range_succ,List.map_append]
    exact y3
   ·rintro σ H4 ⟨v,rfl,s4,hT4⟩
    have e:(((Mir.iV rs).length:Nat)+1:Int).toNat=rs.length+1:=by rw[ivl];omega
    rw[e,fin] at hT4
    exact k D H4 (s3.free hD) (s3.trans s4) hT4
end
section
variable {P:Program}{w:World}{K:PySem.W.Frag}{mg:Str→Option Value}{base:Heap}
theorem qy {f f1 f2 f3 f4 f5:Addr}{fd fd1 fd2 fd3 fd4 fd5:FuncData}(B:Bl mg)(F:Fn K mg "knots_in" dI ["row"] f fd)(bA:Fn K mg "framed" d5 ["row"] f1 fd1)(cI:Fn K mg "kin_end" dH ["numbers","first"] f2 fd2)(bh:Fn K mg "kin_spans" cz ["row"] f3 fd3)(gL:Fn K mg "gap_kins" fz ["row"] f4 fd4)(fL:Fn K mg "open_gaps" d6 ["row"] f5 fd5):aO P w K mg base CX0 4 f fd ["row"] Mir.kZ:=by
 have h8:aO P w K mg base CX0 1 f1 fd1 ["row"] Mir.jt:=kc B bA
 have rS:aO P w K mg base CX0 3 f4 fd4 ["row"] Mir.ni:=qx B gL bA cI bh
 have qz:aO P w K mg base CX0 2 f5 fd5 ["row"] Mir.lC:=oX B fL bA
 refine F.fn.ok cW (fun vs H Q E h=>?_) (fun cdv A outer s H vs Q E hr h=>?_)
 ·obtain⟨t,rs,rfl,_⟩:=h
  rfl
 ·obtain⟨t,rs,rfl,ht,fit,k⟩:=h
  have hu:=vq hr
  have hn:=fit.small
  refine⟨_,(af (aB (i:=1) cW.nd rfl (Or.inl rfl) (aY h8 bA (hr.mono (by decide)) (ab (pv 0) ai)))
   (af (aB (i:=2) cW.nd rfl (Or.inl rfl) (aY rS gL (hr.mono (by decide)) (ab (pv 0) ai)))
   (af (aB (i:=3) cW.nd rfl (Or.inl rfl) vh)
   (af (bq PassesOwn.never rfl (aM (aY qz fL (hr.mono (by decide)) (ab (pv 0) ai))) (aC (i:=4) cW.nd rfl (Or.inl rfl)) (af (aB (i:=5) cW.nd rfl (Or.inl rfl) (vK hu (pv 3) (aR a9 (pv 2) (pv 4) (fun _ _=>rfl)) (bc ai) ⟨rfl,rfl,rfl,rfl⟩))
   (au (b5 (fj PySem.F.plainAttrs_list PySem.F.slot_list_extend PySem.F.type_list_extend m5 (pv 5) (ab (bc (ab (il fW (aR gT (pv 1) (pv 4) (fun _ _=>rfl)) aj (aI _)) (ab (il fW (aR gT (pv 1) (aD aX (pv 4) aj) (fun _ _=>rfl)) aj (aI _)) ai))) ai))))))
   (au (aQ (aG (hJ false) rfl B.sorted jX (ab (cG (NC:=["kin","beside"]) rfl (gz rfl (by decide +kernel) (by decide +kernel)) (As (pv 3)) (fun _ _ _ _=>(x4 (K:=K) (n:=2) rfl rfl (dS (aC (i:=0) (show (["kin","beside"]:List Str).Nodup by decide +kernel) rfl (Or.inl rfl)) (dS (aC (i:=1) (show (["kin","beside"]:List Str).Nodup by decide +kernel) rfl (Or.inl rfl)) kU)))) (fun _ _ _ _=>(b6 (PW.pt (rZ (k8 (aG (qc rfl) rfl B.all AU (ab (pv 1) ai))) (uV (nV (k8 (aG (qb rfl) rfl B.any AV (ab (pv 1) ai))))))))) (fun _ _ _ _=>(pv 0))) ai)))))))),?_⟩
  have fl:=Mir.ba rs
  have lim:∀ x:Nat,x≤5000→x<sizeLine:=fun x hx=>Nat.lt_of_le_of_lt hx (by decide)
  refine⟨_,rfl,t,rs,rfl,ht,by omega,fun tN H1 s1 hN=>?_⟩
  refine⟨_,rfl,t,rs,rfl,s1 _ _ ht,fit,fun lB H2 hlB s2 hB=>?_⟩
  intro d hd
  have s3:aq H2 (upd H2 d (.dT [])):=ag hd
  refine⟨_,rfl,t,rs,rfl,s3 _ _ (s2 _ _ (s1 _ _ ht)),by omega,fun lO H4 hlO s4 hO=>?_⟩
  have hd4:H4 d=some (.dT []):=s4 _ _ ae
  have s24:aq H2 (Mir.wo H4 d):=Mir.tG (s3.trans s4) hd
  have nOd:lO≠d:=fun z=>by rw[z,ae] at hlO;cases hlO
  have hO0:Mir.wo H4 d lO=some (.lst (Mir.iV (Mir.jq (Mir.frm rs) (rs.length+1)))):=by rw[Mir.qe nOd];exact hO
  have sH:aq H (Mir.wo H4 d):=(s1.trans s2).trans s24
  have hN0:=s24 _ _ (s2 _ _ hN)
  have hB0:=hB.same s24
  have hd0:Mir.wo H4 d d=none:=Mir.wR
  have s04:aq (Mir.wo H4 d) H4:=Mir.tF
  generalize Mir.wo H4 d=H0 at s24 hO0 sH hN0 hB0 hd0 s04
  rw[Mir.uB] at hO0 hO
  have hL:∀ g∈Mir.opn (Mir.frm rs) (rs.length+1),g<rs.length+1:=fun g hg=>Mir.yJ hg
  have lL:=Mir.yI (Mir.frm rs) (rs.length+1)
  generalize Mir.opn (Mir.frm rs) (rs.length+1)=L at hO0 hO hL lL k
  have eL:∀ (i:Nat) (g:Nat),L[i]?=some g→(Mir.iV (L.map fun (g:Nat)=>(g:Int)))[i]?=some (.int (g:Int)):=fun i g e=>by
   unfold Mir.iV
   rw[List.getElem?_map,List.getElem?_map,e]
   rfl
  have A9:(Mir.iV (L.map fun (g:Nat)=>(g:Int))).length=L.length:=by rw[Mir.aK,List.length_map]
  refine⟨lO,rfl,⟨_,SqL.of hO⟩,bo (K:=K) (a:=lO) (xs:=Mir.iV (L.map fun (g:Nat)=>(g:Int))) (fun i σ H5=>∃ (v4 v5:Option V) (kvs:List (List Key×V)) (ps:List (Int×Int)) (as:List Addr),σ=[some (.ref t),some (.ref tN),some (.ref lB),some (.ref d),v4,v5]∧aq H0 H5∧Mir.KD H0 H5 d kvs ps as (Mir.sgl (Mir.frm rs) (L.take i))∧kvs.length≤i)
   ⟨none,none,[],[],[],rfl,s04,⟨hd4,rfl,rfl,List.nodup_nil,List.nodup_nil,fun j a p e=>(nomatch e),fun a ha=>absurd ha List.not_mem_nil,fun p=>⟨fun z=>absurd z List.not_mem_nil,fun z=>absurd rfl z⟩⟩,Nat.le_refl _⟩ (fun i σ H5 _ ⟨_,_,_,_,_,_,s5,_⟩=>SqL.of (s5 _ _ hO0)) ?_ ?_⟩
  ·rintro i y σ H5 hy ⟨v4,v5,kvs,ps,as,rfl,s5,kd,lk⟩
   have hi:i<L.length:=by have:=(List.getElem?_eq_some_iff.mp hy).1;rw[A9] at this;exact this
   have ei:L[i]?=some L[i]:=List.getElem?_eq_getElem hi
   rw[eL i _ ei] at hy
   obtain rfl:=Option.some.inj hy
   have hg:=hL _ (List.getElem_mem hi)
   have etk:L.take (i+1)=L.take i++[L[i]]:=Mir.take_snoc ei
   generalize L[i]=g at ei hg etk
   have egl:(Mir.yz rs)[g]?=some (Mir.ow (Mir.frm rs) g):=by
    unfold Mir.yz
    rw[List.getElem?_map,List.getElem?_range hg]
    rfl
   obtain⟨vB,tB,b1,b2,b3⟩:=hB0.get egl
   have nN:∀ q,q≠Mir.ow (Mir.frm rs) g→Mir.sgl (Mir.frm rs) (L.take (i+1)) q=Mir.sgl (Mir.frm rs) (L.take i) q:=fun q hq=>by
    rw[etk,Mir.lN,if_neg fun z=>hq z.symm]
   have nO:Mir.sgl (Mir.frm rs) (L.take (i+1)) (Mir.ow (Mir.frm rs) g)=Mir.sgl (Mir.frm rs) (L.take i) (Mir.ow (Mir.frm rs) g)++[decide ((Mir.frm rs).getD g 0<0),decide ((Mir.frm rs).getD (g+1) 0<0)]:=by
    rw[etk,Mir.lN,if_pos rfl]
   have sl:(Mir.sgl (Mir.frm rs) (L.take i) (Mir.ow (Mir.frm rs) g)).length≤100:=Nat.le_trans (Mir.yH _ _ _) (by rw[List.length_take];omega)
   generalize Mir.sgl (Mir.frm rs) (L.take (i+1))=F' at nN nO
   generalize Mir.sgl (Mir.frm rs) (L.take i)=F at nN nO sl kd
   generalize Mir.ow (Mir.frm rs) g=p at b3 nN nO sl
   have e1:(g:Int)+1=((g+1:Nat):Int):=by omega
   have gN1:=Mir.dg (rs:=Mir.frm rs) (j:=g) (by omega)
   have gN2:=Mir.dg (rs:=Mir.frm rs) (j:=g+1) (by omega)
   refine⟨_,rfl,d,rfl,.inr ⟨_,.inl kd.at'⟩,_,rfl,_,rfl,lB,_,_,_,rfl,rfl,SqL.of (s5 _ _ b1),aW b2,by show 0≤sizeLine;decide,fun n hnn=>?_⟩
   have s6:aq H5 (upd H5 n (.lst [])):=ag hnn
   have kd6:=kd.same s6
   have hn6:upd H5 n (.lst []) n=some (.lst []):=ae
   have hn0:H0 n=none:=s5.free hnn
   have nas:n ∉ as:=fun z=>by
    obtain⟨j,hj⟩:=List.getElem?_of_mem z
    have hl:=kd.len
    have hj2:j<ps.length:=by rw[← hl.2];exact(List.getElem?_eq_some_iff.mp hj).1
    have:=kd.lst j n _ hj (List.getElem?_eq_getElem hj2)
    rw[hnn] at this
    cases this
   have s06:=s5.trans s6
   generalize upd H5 n (.lst [])=H6 at s6 kd6 hn6 s06
   refine⟨kvs,Mir.kp p,tB,kd6.at',rfl,s06 _ _ b3,lim _ (by omega),fun v hv=>?_,fun hv=>?_⟩
   ·obtain⟨a,ev,ha,ha0,_⟩:=kd6.old (F':=F') hv nO nN
    subst ev
    refine⟨_,rfl,.inl ⟨rfl,_,SqL.of ha⟩,_,rfl,_,rfl,tN,_,_,_,rfl,rfl,SqT.of (s06 _ _ hN0),aW gN1,_,_,rfl,rfl,_,rfl,_,rfl,_,_,rfl,rfl,tN,_,_,_,rfl,rfl,SqT.of (s06 _ _ hN0),(by rw[e1];exact aW gN2),_,_,rfl,rfl,by show 2≤sizeLine;decide,fun l2 hl2=>?_⟩
    have s7:aq H6 (upd H6 l2 (.lst [.bl (decide ((Mir.frm rs).getD g 0<0)),.bl (decide ((Mir.frm rs).getD (g+1) 0<0))])):=ag hl2
    have h27:upd H6 l2 (.lst [.bl (decide ((Mir.frm rs).getD g 0<0)),.bl (decide ((Mir.frm rs).getD (g+1) 0<0))]) l2=some (.lst [.bl (decide ((Mir.frm rs).getD g 0<0)),.bl (decide ((Mir.frm rs).getD (g+1) 0<0))]):=ae
    generalize upd H6 l2 (.lst [.bl (decide ((Mir.frm rs).getD g 0<0)),.bl (decide ((Mir.frm rs).getD (g+1) 0<0))])=H7 at s7 h27
    obtain⟨a',ev,ha',_,kd8⟩:=(kd6.same s7).old (F':=F') hv nO nN
    injection ev with ev
    subst ev
    exact⟨a,l2,_,_,rfl,rfl,ha',h27,Nat.le_of_lt (lim _ (by rw[List.length_map];show _+2≤_;omega)),_,_,kvs,ps,as,rfl,(s06.trans s7).upd ha0,kd8,by omega⟩
   ·have ndn:d≠n:=fun z=>by have:=kd6.at';rw[z,hn6] at this;cases this
    have F0:F p=[]:=Classical.byContradiction fun c=>by
     have hp:=(kd6.mem p).mpr c
     obtain⟨j,hj⟩:=List.getElem?_of_mem hp
     have hl:=kd6.len
     have hj2:j<as.length:=by rw[hl.2];exact(List.getElem?_eq_some_iff.mp hj).1
     have:=Mir.oI kd6.nk (kd6.key (List.getElem?_eq_getElem hj2) hj)
     rw[hv] at this
     cases this
    have hn7:upd H6 d (.dT (putK kvs (Mir.kp p) (.ref n))) n=some (.lst []):=by rw[ao (Ne.symm ndn)];exact hn6
    have s07:aq H0 (upd H6 d (.dT (putK kvs (Mir.kp p) (.ref n)))):=s06.upd hd0
    refine⟨_,rfl,.inl ⟨rfl,_,SqL.of hn7⟩,_,rfl,_,rfl,tN,_,_,_,rfl,rfl,SqT.of (s07 _ _ hN0),aW gN1,_,_,rfl,rfl,_,rfl,_,rfl,_,_,rfl,rfl,tN,_,_,_,rfl,rfl,SqT.of (s07 _ _ hN0),(by rw[e1];exact aW gN2),_,_,rfl,rfl,by show 2≤sizeLine;decide,fun l2 hl2=>?_⟩
    have n2d:l2≠d:=fun z=>by rw[z,ae] at hl2;cases hl2
    have y9:H6 l2=none:=by rw[ao n2d] at hl2;exact hl2
    have n2n:n≠l2:=fun z=>by rw[← z,hn6] at y9;cases y9
    have s8:aq H6 (upd H6 l2 (.lst [.bl (decide ((Mir.frm rs).getD g 0<0)),.bl (decide ((Mir.frm rs).getD (g+1) 0<0))])):=ag y9
    have kd8:=(kd6.same s8).fresh (F':=F') (xs:=[decide ((Mir.frm rs).getD g 0<0),decide ((Mir.frm rs).getD (g+1) 0<0)]) hv (s8 _ _ hn6) hn0 nas F0 (by rw[nO,F0];rfl) (List.cons_ne_nil _ _) nN
    rw[Mir.qf n2d] at kd8
    have lk':=cm kvs (Mir.kp p) (V.ref n)
    exact⟨n,l2,_,_,rfl,rfl,by rw[ao n2n];exact hn7,ae,by show 2≤sizeLine;decide,_,_,_,_,_,rfl,((s07.upd (s06.free y9)).upd hn0),kd8,by omega⟩
  ·rintro σ H5 ⟨v4,v5,kvs,ps,as,rfl,s5,kd,lk⟩
   rw[A9,List.take_length] at kd
   rw[A9] at lk
   have hl:=kd.len
   refine⟨_,rfl,d,kvs,rfl,kd.at',fun ob D hD=>?_⟩
   have hD5:H5 D=none:=by
    by_cases e:D=d
    ·rw[e,ae] at hD;cases hD
    ·rwa[ao e] at hD
   have hd6:upd H5 d (.frz ob (.dT kvs)) d=some (.frz ob (.dT kvs)):=ae
   have s6:aq H0 (upd H5 d (.frz ob (.dT kvs))):=s5.upd hd0
   have ls6:∀ (j:Nat) (a:Addr) (p:Int×Int),as[j]?=some a→ps[j]?=some p→upd H5 d (.frz ob (.dT kvs)) a=some (.lst ((Mir.sgl (Mir.frm rs) L p).map V.bl)):=fun j a p h1 h2=>by
    have z:=kd.lst j a p h1 h2
    rw[ao fun q=>by have:=kd.at';rw[← q,z] at this;cases this]
    exact z
   generalize upd H5 d (.frz ob (.dT kvs))=H6 at hD hd6 s6 ls6 ⊢
   refine vO (fun i σ H7=>∃ v v':Option V,σ=[v,v']∧aq H6 H7∧Mir.TsT Mir.pr H7 D ((ps.take i).filter (Mir.bySigns (Mir.frm rs) L))) ⟨none,none,rfl,ag hD,Mir.TsT.nil ae⟩ (fun i σ H7 _ ⟨_,_,_,s7,_⟩=>s7 _ _ hd6) ?_ ?_
   ·rintro i tp b kk v σ H7 hy ⟨v,v',rfl,s7,hT7⟩ htp hb
    have hi:i<ps.length:=by rw[← hl.1];exact(List.getElem?_eq_some_iff.mp hy).1
    have hia:i<as.length:=by omega
    have ep:=List.getElem?_eq_getElem hi
    have ea:=List.getElem?_eq_getElem hia
    rw[kd.key ea ep] at hy
    injection hy with hy
    injection hy with hy1 hy2
    subst hy1 hy2
    have s8:aq H7 (upd H7 tp (.tup [.ref b,.ref as[i]])):=ag htp
    have ha:=s8 _ _ (s7 _ _ (ls6 i _ _ ea ep))
    refine⟨tp,_,rfl,SqT.of ae,rfl,_,_,rfl,_,_,rfl,rfl,?_⟩
    refine⟨_,rfl,as[i],_,rfl,ha,_,rfl,?_⟩
    have es:(ps.take (i+1)).filter (Mir.bySigns (Mir.frm rs) L)=(ps.take i).filter (Mir.bySigns (Mir.frm rs) L)++(if Mir.bySigns (Mir.frm rs) L ps[i]=true then [ps[i]] else []):=by
     rw[Mir.take_snoc ep,List.filter_append,List.filter_cons,List.filter_nil]
    obtain⟨ys,y1,y2,y3⟩:=(hT7.same s8).snoc (t:=b) (x:=ps[i]) (s8 _ _ hb)
    have yl:ys.length<sizeLine:=lim _ (by rw[y2];exact Nat.le_trans (List.length_filter_le _ _) (by rw[List.length_take];omega))
    have hs8:aq H6 (upd (upd H7 tp (.tup [.ref b,.ref as[i]])) D (.lst (ys++[.ref b]))):=(s7.trans s8).upd hD
    refine fR (fun h1=>?_) (fun h1=>?_)
    ·have bt:Mir.bySigns (Mir.frm rs) L ps[i]=true:=by unfold Mir.bySigns;rw[h1];rfl
     rw[if_pos bt] at es
     dsimp only
     rw[if_pos rfl]
     exact⟨_,rfl,ys,y1,yl,_,_,rfl,hs8,by rw[es];exact y3⟩
    ·refine⟨_,rfl,as[i],_,rfl,ha,_,rfl,?_⟩
     refine fR (fun h2=>?_) (fun h2=>?_)
     ·have bt:Mir.bySigns (Mir.frm rs) L ps[i]=true:=by unfold Mir.bySigns;rw[h2];exact Bool.or_true _
      rw[if_pos bt] at es
      exact⟨_,rfl,ys,y1,yl,_,_,rfl,hs8,by rw[es];exact y3⟩
     ·have bt:¬ Mir.bySigns (Mir.frm rs) L ps[i]=true:=by
       unfold Mir.bySigns
       rw[Bool.or_eq_true]
       exact fun z=>z.elim h1 h2
      rw[if_neg bt,List.append_nil] at es
      exact⟨_,_,rfl,s7.trans s8,by rw[es];exact hT7.same s8⟩
   ·rintro σ H7 ⟨v,v',rfl,s7,hT7⟩
    rw[hl.1,List.take_length] at hT7
    obtain⟨ts,g,c1,c2,c3,c4⟩:=Mir.jw hT7 (fun p hp=>Mir.tI fit (Mir.tH fit hL ((kd.mem p).mp (List.mem_filter.mp hp).1)))
    have tl:ts.length<64:=by
     rw[c2]
     exact Nat.lt_of_le_of_lt (List.length_filter_le _ _) (by omega)
    refine⟨D,ts,g,rfl,SqL.of c1,tl,c3,fun us l hp hs hl7=>?_⟩
    obtain⟨M,m1,m2,m3⟩:=c4 us hp hs
    have eM:=Mir.wU fit hL kd.np kd.mem m1 m2
    have s8:aq H7 (upd H7 l (.lst (us.map V.ref))):=ag hl7
    have hT8:=m3 _ l s8 ae
    rw[eM] at hT8
    exact k l _ (((sH.trans s6).trans s7).free hl7) (((sH.trans s6).trans s7).trans s8) hT8
end
section
seal L2.PSs L2.PS L2.PE L2.PT L2.PA
variable {P:Program}{w:World}{K:PySem.W.Frag}{mg:Str→Option Value}{base:Heap}
theorem i6 {f:Addr}{fd:FuncData}(B:Bl mg)(F:Fn K mg "shortest_around" bJ ["chain","kins"] f fd):aO P w K mg base CX0 1 f fd ["chain","kins"] Mir.tu:=by
 refine F.fn.ok fB (fun vs H Q E h=>?_) (fun cdv A outer s H vs Q E hr h=>?_)
 ·obtain⟨tc,l,ts,c,kins,rfl,_⟩:=h
  rfl
 ·obtain⟨tc,l,ts,c,kins,rfl,hc,ht,hne,hk,hn,k⟩:=h
  refine⟨_,(af (b7 (ix:=2) (NC:=["kin","chain"]) fB.nd rfl (Or.inl rfl) rfl (bC (c:=s.heap.objs.size+1) (j:=0) rfl (by decide +kernel) (by decide +kernel) rfl rfl rfl rfl rfl) (aM (pv 1)) (fun _ _ _ _=>(aC (i:=0) (show (["kin","chain"]:List Str).Nodup by decide +kernel) rfl (Or.inl rfl))) (fun _ _ _ _=>(b6 (PW.pt (fi (aE fW (aR (bH (K:=K) rfl) (pv 0) aj (fun _ _=>rfl)) (aR (bH (K:=K) rfl) (aR (bH (K:=K) rfl) (pv 1) aj (fun _ _=>rfl)) aj (fun _ _=>rfl)) (aI _)) (eS (aE fW (aR (bH (K:=K) rfl) (aR (bH (K:=K) rfl) (pv 1) (mO jS aj) (fun _ _=>rfl)) aj (fun _ _=>rfl)) (aR (bH (K:=K) rfl) (pv 0) aj (fun _ _=>rfl)) (aI _))))))) (fun _ _ _ _=>(pv 0)))
   (au (aQ (cq c9 (pv 2) (c8 (mO jS aj)) c7)))),?_⟩
  obtain⟨us,h1,h2,h3⟩:=id hk
  have hcl:=ht.1
  have c0:0<c.length:=by cases c with | nil=>exact absurd rfl hne | cons x r=>exact Nat.succ_pos _
  have g0:ts[0]?=some (ts[0]'(by omega)):=List.getElem?_eq_getElem (by omega)
  have gl:ts[ts.length-1]?=some (ts[ts.length-1]'(by omega)):=List.getElem?_eq_getElem (by omega)
  have t0:H (ts[0]'(by omega))=some (.tup (Mir.pr (c.headD (0,0)))):=ht.2 0 _ _ g0 (by cases c with | nil=>exact absurd rfl hne | cons x r=>rfl)
  have tl:H (ts[ts.length-1]'(by omega))=some (.tup (Mir.pr (c.getLastD (0,0)))):=ht.2 _ _ _ gl (by
   rw[hcl,← List.getLast?_eq_getElem?,List.getLastD_eq_getLast?]
   cases e:c.getLast? with
   | none=>exact absurd (List.getLast?_eq_none_iff.mp e) hne
   | some x=>rfl)
  generalize ts[0]'(by omega)=u0 at g0 t0
  generalize ts[ts.length-1]'(by omega)=ul at gl tl
  have a0:atI (ts.map V.ref) 0=some (.ref u0):=aW (j:=0) (by rw[List.getElem?_map,g0];rfl)
  have al:atI (ts.map V.ref) (-1)=some (.ref ul):=Mir.oK (by rw[List.getLast?_map,List.getLast?_eq_getElem?,gl];rfl)
  refine⟨_,rfl,l,rfl,⟨_,SqL.of h1⟩,fun D hD=>?_⟩
  refine a5 (K:=K) (a:=l) (xs:=us.map V.ref) (fun i σ H2=>∃ v:Option V,σ=[v,some (.ref tc)]∧aq H H2∧Mir.TsT Mir.pr H2 D ((kins.take i).filter (Mir.eU c))) ⟨none,rfl,ag hD,Mir.TsT.nil ae⟩ (fun i σ H2 _ ⟨_,_,s2,_⟩=>SqL.of (s2 _ _ h1)) ?_ ?_
  ·rintro i x σ H2 hx ⟨v,rfl,s2,hT⟩
   rw[List.getElem?_map] at hx
   obtain⟨t,et,rfl⟩:=Option.map_eq_some_iff.mp hx
   have hi:i<kins.length:=by rw[← h2];exact(List.getElem?_eq_some_iff.mp et).1
   have ek:=List.getElem?_eq_getElem hi
   generalize kins[i]=p at ek
   have hp:=s2 _ _ (h3 i t p et ek)
   have hl:((kins.take i).filter (Mir.eU c)).length≤100:=Nat.le_trans (List.length_filter_le _ _) (by rw[List.length_take];omega)
   refine⟨_,rfl,t,_,_,_,rfl,rfl,SqT.of hp,rfl,_,rfl,tc,_,_,_,rfl,rfl,SqT.of (s2 _ _ hc),a0,u0,_,_,_,rfl,rfl,SqT.of (s2 _ _ t0),rfl,_,_,rfl,rfl,_,rfl,?_⟩
   have e3:(kins.take (i+1)).filter (Mir.eU c)=(kins.take i).filter (Mir.eU c)++(if Mir.eU c p=true then [p] else []):=by
    rw[Mir.take_snoc ek,List.filter_append,List.filter_cons,List.filter_nil]
   have yes:Mir.eU c p=true→∃ ys,H2 D=some (.lst ys)∧ys.length<sizeLine∧∃ v:Option V,[some (.ref t),some (.ref tc)]=[v,some (.ref tc)]∧aq H (upd H2 D (.lst (ys++[.ref t])))∧Mir.TsT Mir.pr (upd H2 D (.lst (ys++[.ref t]))) D ((kins.take (i+1)).filter (Mir.eU c)):=fun h=>by
    obtain⟨ys,y1,y2,y3⟩:=hT.snoc hp
    refine⟨ys,y1,aw (by rw[y2];omega),_,rfl,s2.upd hD,?_⟩
    rw[e3,if_pos h]
    exact y3
   have no:¬ Mir.eU c p=true→∃ v:Option V,[some (V.ref t),some (.ref tc)]=[v,some (.ref tc)]∧aq H H2∧Mir.TsT Mir.pr H2 D ((kins.take (i+1)).filter (Mir.eU c)):=fun h=>by
    refine⟨_,rfl,s2,?_⟩
    rw[e3,if_neg h,List.append_nil]
    exact hT
   have ar:Mir.eU c p=(decide (p.1<(c.headD (0,0)).1)&&decide ((c.getLastD (0,0)).2<p.2)):=rfl
   by_cases c1:p.1<(c.headD (0,0)).1
   ·rw[decide_eq_true c1]
    refine gw ?_
    refine⟨_,rfl,_,rfl,tc,_,_,_,rfl,rfl,SqT.of (s2 _ _ hc),al,ul,_,_,_,rfl,rfl,SqT.of (s2 _ _ tl),rfl,_,rfl,t,_,_,_,rfl,rfl,SqT.of hp,rfl,_,_,rfl,rfl,_,rfl,?_⟩
    by_cases c2:(c.getLastD (0,0)).2<p.2
    ·rw[decide_eq_true c2]
     exact gw ⟨_,rfl,yes (by rw[ar,decide_eq_true c1,decide_eq_true c2];rfl)⟩
    ·rw[decide_eq_false c2]
     exact cJ (no (by rw[ar,decide_eq_false c2];simp))
   ·rw[decide_eq_false c1]
    exact cJ (cJ (no (by rw[ar,decide_eq_false c1];simp)))
  ·rintro σ H2 ⟨v,rfl,s2,hT⟩
   rw[List.length_map,h2,List.take_length] at hT
   obtain⟨vs,w1,w2,w3⟩:=id hT
   refine⟨_,rfl,_,rfl,_,rfl,D,_,rfl,SqL.of w1,fun r hr=>?_⟩
   refine k r _ (s2.free hr) (s2.trans (ag hr)) ?_
   rw[Mir.uE,List.length_map]
   refine⟨vs.drop (vs.length-1),by rw[ae,List.map_drop],?_,fun i u q e1 e2=>?_⟩
   ·rw[List.length_drop]
    unfold Mir.dA Mir.dz
    rw[List.length_drop,w2]
   ·rw[List.getElem?_drop] at e1
    unfold Mir.dA Mir.dz at e2
    rw[List.getElem?_drop,← w2] at e2
    exact(ag hr) _ _ (w3 _ u q e1 e2)
end
section
seal L2.PSs L2.PS L2.PE L2.PT L2.PA
variable {P:Program}{w:World}{K:PySem.W.Frag}{mg:Str→Option Value}{base:Heap}
theorem uP {f f1 f2:Addr}{fd fd1 fd2:FuncData}(B:Bl mg)(F:Fn K mg "web_of" hZ ["kins"] f fd)(cQ:Fn K mg "hung_together" bW ["pairs"] f1 fd1)(cb:Fn K mg "shortest_around" bJ ["chain","kins"] f2 fd2):aO P w K mg base CX0 2 f fd ["kins"] (Mir.oN P w):=by
 have kP:aO P w K mg base CX0 1 f1 fd1 ["pairs"] Mir.wH:=kg B cQ
 have jL:aO P w K mg base CX0 1 f2 fd2 ["chain","kins"] Mir.tu:=i6 B cb
 refine F.fn.ok dJ (fun vs H Q E h=>?_) (fun cdv A outer s H vs Q E hr h=>?_)
 ·obtain⟨l,kins,rfl,_⟩:=h
  rfl
 ·obtain⟨l,kins,rfl,hk,asc,hn,k⟩:=h
  have hu2:=hr.lt 1 (by decide)
  refine⟨_,(af (aB (i:=1) dJ.nd rfl (Or.inl rfl) (NK.jo (P:=P) (w:=w) rfl rfl))
   (af (bq PassesOwn.never rfl (aM (pv 0)) (aC (i:=2) dJ.nd rfl (Or.inl rfl)) (au (NK.fZ (P:=P) (w:=w) rfl rfl hu2 (pv 1) (pv 2) (bc ai) rfl)))
   (af (bq PassesOwn.never rfl (aM (aY kP cQ (hr.mono (by decide)) (ab (pv 0) ai))) (aC (i:=3) dJ.nd rfl (Or.inl rfl)) (af (aB (i:=4) dJ.nd rfl (Or.inl rfl) (bN cu rfl B.tuple gW (ab (cG (NC:=["place","kins"]) rfl (bC (c:=s.heap.objs.size+1) (j:=0) rfl (by decide +kernel) (by decide +kernel) rfl rfl rfl rfl rfl) (zT (pv 3)) (fun _ _ _ _=>(aC (i:=0) (show (["place","kins"]:List Str).Nodup by decide +kernel) rfl (Or.inl rfl))) (fun _ _ _ _=>cF) (fun _ _ _ _=>(aR (gX (K:=K) rfl) (pv 1) (pv 0) (fun _ _=>rfl)))) ai)))
   (af (aB (i:=5) dJ.nd rfl (Or.inl rfl) (aD eG (bN jg rfl B.list iq (ab (pv 4) ai)) (aY jL cb (hr.mono (by decide)) (ab (pv 4) (ab (pv 0) ai)))))
   (af (NK.fZ (P:=P) (w:=w) rfl rfl hu2 (pv 1) (pv 4) (pv 5) rfl)
   (au (bq PassesOwn.never rfl (aM (pv 5)) (aC (i:=2) dJ.nd rfl (Or.inl rfl)) (au (b5 (fj PySem.F.plainAttrs_list PySem.F.slot_list_append PySem.F.type_list_append bE (NK.cw (P:=P) (w:=w) rfl rfl hu2 (pv 1) (pv 2) (fun _ _=>rfl)) (ab (pv 4) ai))))))))))
   (au (aQ (pv 1)))))),?_⟩
  obtain⟨us,h1,h2,h3⟩:=id hk
  intro a ha
  have T0:Mir.WbT P w (upd H a (NK.d2O P w a [])) a [] []:=⟨⟨ae,fun p hp=>absurd hp List.not_mem_nil⟩,.nil,List.nodup_nil⟩
  have s0:aq H (upd H a (NK.d2O P w a [])):=ag ha
  generalize upd H a (NK.d2O P w a [])=H0 at T0 s0
  have lim:∀ x:Nat,x≤1000→x<sizeLine:=fun x hx=>aw hx
  refine⟨_,rfl,l,rfl,⟨_,SqL.of (s0 _ _ h1)⟩,bo (K:=K) (a:=l) (xs:=us.map V.ref) (fun i σ H2=>∃ (es:Mir.Es) (v2:Option V),σ=[some (.ref l),some (.ref a),v2,none,none,none]∧aq H H2∧Mir.oM H es∧Mir.WbT P w H2 a es ((kins.take i).map fun q=>(Mir.pN q,[]))) ⟨[],none,rfl,s0,fun e h=>absurd h List.not_mem_nil,T0⟩ (fun i σ H2 _ ⟨_,_,_,s2,_⟩=>SqL.of (s2 _ _ h1)) ?_ ?_⟩
  ·rintro i x σ H2 hx ⟨es,v2,rfl,s2,nw,T⟩
   rw[List.getElem?_map] at hx
   obtain⟨t,et,rfl⟩:=Option.map_eq_some_iff.mp hx
   have hi:i<kins.length:=by rw[← h2];exact(List.getElem?_eq_some_iff.mp et).1
   have ek:=List.getElem?_eq_getElem hi
   have hp:=h3 i t _ et ek
   refine⟨by show 0≤sizeLine;decide,fun n hnn=>?_⟩
   have s3:aq H2 (upd H2 n (.lst [])):=ag hnn
   have n3:upd H2 n (.lst []) n=some (.lst []):=ae
   generalize upd H2 n (.lst [])=H3 at s3 n3
   have T3:=T.same s3
   have lE:es.length=i:=by rw[T.r.length,List.length_map,List.length_take];omega
   have nin:n ∉ es.map (·.2.2):=fun z=>by
    obtain⟨e,he,rfl⟩:=List.mem_map.mp z
    obtain⟨y,_,_,bs,q,_⟩:=Mir.cy T.r he
    rw[hnn] at q
    cases q
   refine⟨_,rfl,_,rfl,a,t,_,_,rfl,rfl,T3.d,NK.K2.pair (s3 _ _ (s2 _ _ hp)),lim _ (by unfold Mir.eV;rw[List.length_map];omega),?_⟩
   have T4:=T3.put (k:=Mir.pN kins[i]) (b:=t) (l:=n) (ks:=[]) (fun z=>by
    unfold Mir.az at z
    rw[List.map_map] at z
    obtain⟨q,hq,e⟩:=List.mem_map.mp z
    have e:q=kins[i]:=Mir.eJ e
    subst e
    obtain⟨j,hj⟩:=List.getElem?_of_mem hq
    rw[List.getElem?_take] at hj
    by_cases c:j<i
    ·rw[if_pos c] at hj
     have:=(List.getElem?_inj (List.getElem?_eq_some_iff.mp hj).1 (Mir.lP asc)).mp (hj.trans ek.symm)
     omega
    ·rw[if_neg c] at hj;cases hj) (NK.K2.pair (s3 _ _ (s2 _ _ hp))) ⟨[],n3,rfl,fun i b k e=>by simp at e⟩ nin
   have a0:H a=none:=ha
   refine⟨es++[(Mir.pN kins[i],t,n)],_,rfl,(s2.trans s3).upd a0,fun e he=>?_,?_⟩
   rotate_left
   ·rw[Mir.take_snoc ek,List.map_append]
    exact T4
   ·rcases List.mem_append.mp he with he | he
    ·exact nw e he
    ·rw[List.mem_singleton.mp he]
     exact s2.free hnn
  ·rintro σ H2 ⟨es,v2,rfl,s2,nw,T⟩
   rw[List.length_map,h2,List.take_length] at T
   have KO:=Mir.iy asc
   have T:Mir.WbT P w H2 a es (Mir.dZ kins []):=by
    unfold Mir.dZ
    rw[List.map_nil,List.append_nil]
    exact T
   have cl:=Mir.fu kins
   refine⟨_,rfl,l,kins,rfl,hk.same s2,hn,fun r H3 hr3 s3 hR=>?_⟩
   obtain⟨rs,r1,r2,r3⟩:=id hR
   have nar:a≠r:=fun z=>by have q:=T.d.1;rw[z,hr3] at q;cases q
   have rin:r ∉ es.map (·.2.2):=fun z=>by
    obtain⟨e,he,q0⟩:=List.mem_map.mp z
    obtain⟨y,_,_,bs,q,_⟩:=Mir.cy T.r he
    have q0:e.2.2=r:=q0
    rw[q0,hr3] at q
    cases q
   refine⟨r,rfl,⟨_,SqL.of r1⟩,bo (K:=K) (a:=r) (xs:=rs.map V.ref) (fun j σ H4=>∃ (es:Mir.Es) (v2 v3 v4 v5:Option V),σ=[some (.ref l),some (.ref a),v2,v3,v4,v5]∧aq H H4∧Mir.oM H es∧Mir.TsT Mir.iV H4 r (Mir.gn kins)∧H4 r=some (.lst (rs.map V.ref))∧r ∉ es.map (·.2.2)∧Mir.WbT P w H4 a es (Mir.dZ kins ((Mir.chains kins).take j))) ⟨es,_,_,_,_,rfl,s2.trans s3,nw,hR,r1,rin,T.same s3⟩ (fun i σ H4 _ ⟨_,_,_,_,_,_,_,_,_,e,_⟩=>SqL.of e) ?_ ?_⟩
   ·rintro j x σ H4 hx ⟨es,v2,v3,v4,v5,rfl,s4,nw,hR4,r4,rin,T⟩
    rw[List.getElem?_map] at hx
    obtain⟨tg,etg,rfl⟩:=Option.map_eq_some_iff.mp hx
    have hj:j<(Mir.gn kins).length:=by rw[← r2];exact(List.getElem?_eq_some_iff.mp etg).1
    have eg:=List.getElem?_eq_getElem hj
    have hg:(Mir.gn kins)[j]∈Mir.gn kins:=List.getElem_mem _
    generalize (Mir.gn kins)[j]=g at eg hg
    have htg:H4 tg=some (.tup (Mir.iV g)):=by
     obtain⟨rs',q1,q2,q3⟩:=hR4
     rw[r4] at q1
     have:rs=rs':=(List.map_inj_right (f:=V.ref) fun a b h=>by injection h).mp (by injection q1 with q1;injection q1)
     subst this
     exact q3 j tg g etg eg
    obtain⟨gne,glt,Eh,Ei⟩:=Mir.jz hg
    have ec:(Mir.chains kins)[j]?=some (Mir.chn kins g):=by unfold Mir.chains;rw[List.getElem?_map,eg];rfl
    have hc:=List.mem_of_getElem? ec
    refine⟨_,rfl,tg,rfl,⟨_,SqT.of htg⟩,fun D hD=>?_⟩
    refine vz (K:=K) (a:=tg) (xs:=Mir.iV g) (fun i σ H5=>∃ (v:Option V) (ts:List Addr),σ=[v,some (.ref l)]∧aq H4 H5∧H5 D=some (.lst (ts.map V.ref))∧Mir.Tup Mir.pr H5 ts (Mir.chn kins (g.take i))) ⟨none,[],rfl,ag hD,ae,rfl,fun i t x e=>by simp at e⟩ (fun i σ H5 _ ⟨_,_,_,s5,_⟩=>SqT.of (s5 _ _ htg)) ?_ ?_
    ·rintro i x σ H5 hx ⟨v,ts,rfl,s5,hD5,tp⟩
     unfold Mir.iV at hx
     rw[List.getElem?_map] at hx
     obtain⟨y,ey,rfl⟩:=Option.map_eq_some_iff.mp hx
     have hy:=glt y (List.mem_of_getElem? ey)
     have eu:=List.getElem?_eq_getElem (l:=us) (i:=y.toNat) (by omega)
     generalize us[y.toNat]'(by omega)=u at eu
     have ek:=List.getElem?_eq_getElem (l:=kins) (i:=y.toNat) (by omega)
     have hu:=(s4.trans s5) _ _ (h3 _ u _ eu ek)
     have lt:=tp.1
     have hil:i<g.length:=(List.getElem?_eq_some_iff.mp ey).1
     refine jW ?_
     refine⟨_,rfl,_,rfl,l,_,_,_,rfl,rfl,SqL.of ((s4.trans s5) _ _ h1),Ak hy.1 (by rw[List.getElem?_map,eu];rfl),_,hD5,lim _ (by rw[List.length_map,lt];unfold Mir.chn;rw[List.length_map,List.length_take];omega),_,ts++[u],rfl,s5.upd hD,by rw[ae,List.map_append];rfl,?_⟩
     rw[Mir.wQ kins ey]
     have e9:kins.getD y.toNat (0,0)=kins[y.toNat]'(by omega):=by rw[List.getD_eq_getElem?_getD,ek];rfl
     rw[e9]
     exact(tp.app (Mir.Tup.one hu)).upd hD5
    ·rintro σ H5 ⟨v,ts,rfl,s5,hD5,tp⟩
     rw[Mir.aK,List.take_length] at tp
     refine⟨D,_,rfl,.inl hD5,fun tc H6 s6 htc=>?_⟩
     have s46:=s5.trans s6
     have tp6:=tp.same s6
     generalize hcc:Mir.chn kins g=c at tp6 ec hc
     have cne:c≠[]:=fun z=>by rw[← hcc] at z;unfold Mir.chn at z;exact gne (List.map_eq_nil_iff.mp z)
     have Ej:c.length≤100:=by rw[← hcc];unfold Mir.chn;rw[List.length_map];omega
     refine⟨_,rfl,tc,_,rfl,.inr (SqT.of htc),fun l1 hl1=>?_⟩
     have s67:aq H6 (upd H6 l1 (.lst (ts.map V.ref))):=ag hl1
     have l17:upd H6 l1 (.lst (ts.map V.ref)) l1=some (.lst (ts.map V.ref)):=ae
     generalize upd H6 l1 (.lst (ts.map V.ref))=H7 at s67 l17
     refine⟨_,rfl,_,rfl,tc,l,ts,c,kins,rfl,s67 _ _ htc,tp6.same s67,cne,hk.same ((s4.trans s46).trans s67),hn,fun r2 H8 hr2 s78 t8=>?_⟩
     obtain⟨qs,q1,q2⟩:=t8.tup
     have tp8:=(tp6.same s67).same s78
     have shl:=Mir.lQ (kins:=kins) (c:=c)
     refine⟨l1,r2,_,_,rfl,rfl,s78 _ _ l17,q1,Nat.le_of_lt (lim _ (by rw[List.length_map,List.length_map,tp6.1,q2.1];omega)),fun l2 hl2=>?_⟩
     have L9:=Mir.C9 tp8 q2 hl2
     have s89:aq H8 (upd H8 l2 (.lst (ts.map V.ref++qs.map V.ref))):=ag hl2
     have l29:upd H8 l2 (.lst (ts.map V.ref++qs.map V.ref)) l2=some (.lst ((ts++qs).map V.ref)):=by rw[ae,List.map_append]
     generalize upd H8 l2 (.lst (ts.map V.ref++qs.map V.ref))=H9 at L9 s89 l29
     have L9:Mir.TsT Mir.pr H9 l2 (Mir.lnk kins c):=L9
     have s49:=((s46.trans s67).trans s78).trans s89
     have T9:=T.same s49
     have Dh:=(s67.trans (s78.trans s89)) _ _ htc
     have kc9:NK.K2 H9 (Mir.cN c) tc:=NK.K2.chain Dh ((tp6.same s67).same (s78.trans s89))
     have esl:es.length≤200:=by
      rw[T.r.length]
      unfold Mir.dZ
      rw[List.length_append,List.length_map,List.length_map,List.length_take]
      omega
     have n2:H4 l2=none:=(s46.trans (s67.trans s78)).free hl2
     have nin:l2 ∉ es.map (·.2.2):=fun z=>by
      obtain⟨e,he,q0⟩:=List.mem_map.mp z
      obtain⟨y,_,_,bs,q,_⟩:=Mir.cy T.r he
      have q0:e.2.2=l2:=q0
      rw[q0,n2] at q
      cases q
     refine⟨_,rfl,_,rfl,_,rfl,a,tc,_,_,rfl,rfl,T9.d,kc9,lim _ (by unfold Mir.eV;rw[List.length_map];omega),?_⟩
     have Di:Mir.cN c ∉ Mir.az (Mir.dZ kins ((Mir.chains kins).take j)):=fun z=>by
      rw[Mir.gu] at z
      rcases List.mem_append.mp z with z | z
      ·obtain⟨q,_,e⟩:=List.mem_map.mp z
       exact Mir.iL e
      ·obtain⟨d,hd,e⟩:=List.mem_map.mp z
       cases Mir.oJ e
       obtain⟨i,hi⟩:=List.getElem?_of_mem hd
       rw[List.getElem?_take] at hi
       by_cases q:i<j
       ·rw[if_pos q] at hi
        have:=(List.getElem?_inj (List.getElem?_eq_some_iff.mp hi).1 KO.cnd).mp (hi.trans ec.symm)
        omega
       ·rw[if_neg q] at hi;cases hi
     have T10:=T9.put Di kc9 L9.ths nin
     rw[← Mir.uF] at T10
     have s10:aq H (upd H9 a (NK.d2O P w a (NK.put2 (Mir.eV es) (Mir.cN c) tc (.ref l2)))):=(s4.trans s49).upd ha
     have L10:=L9.zC (o:=NK.d2O P w a (NK.put2 (Mir.eV es) (Mir.cN c) tc (.ref l2))) T9.d.1
     have R10:=(hR4.same s49).zC (o:=NK.d2O P w a (NK.put2 (Mir.eV es) (Mir.cN c) tc (.ref l2))) T9.d.1
     have za:upd H9 a (NK.d2O P w a (NK.put2 (Mir.eV es) (Mir.cN c) tc (.ref l2))) l2=some (.lst ((ts++qs).map V.ref)):=by
      rw[ao (fun z=>by rw[z,T9.d.1] at l29;cases l29)]
      exact l29
     have r10:upd H9 a (NK.d2O P w a (NK.put2 (Mir.eV es) (Mir.cN c) tc (.ref l2))) r=some (.lst (rs.map V.ref)):=by
      rw[ao (Ne.symm nar)]
      exact s49 _ _ r4
     have B8:NK.K2 (upd H9 a (NK.d2O P w a (NK.put2 (Mir.eV es) (Mir.cN c) tc (.ref l2)))) (Mir.cN c) tc:=kc9.keep fun x ys e=>by
      rw[ao (fun z=>by rw[z,T9.d.1] at e;cases e)]
      exact e
     generalize upd H9 a (NK.d2O P w a (NK.put2 (Mir.eV es) (Mir.cN c) tc (.ref l2)))=H10 at T10 s10 L10 R10 za r10 B8
     have nw':Mir.oM H (es++[(Mir.cN c,tc,l2)]):=fun e he=>by
      rcases List.mem_append.mp he with he | he
      ·exact nw e he
      ·rw[List.mem_singleton.mp he]
       exact s4.free n2
     have nr2:r≠l2:=fun z=>by rw[← z,r4] at n2;cases n2
     have B9:r ∉ (es++[(Mir.cN c,tc,l2)]).map (·.2.2):=fun z=>by
      rw[List.map_append] at z
      rcases List.mem_append.mp z with z | z
      ·exact rin z
      ·exact nr2 (List.mem_singleton.mp z)
     have ll:(ts++qs).length=(Mir.lnk kins c).length:=by
      obtain⟨xs,x1,x2,_⟩:=L10
      rw[za] at x1
      have:ts++qs=xs:=(List.map_inj_right (f:=V.ref) fun a b h=>by injection h).mp (by injection x1 with x1;injection x1)
      rw[this];exact x2
     have lnd:=KO.lnd c hc
     have mnd:∀ i,(Mir.az (Mir.kL kins ((Mir.chains kins).take j) c i)).Nodup:=fun i=>by
      rw[Mir.uH]
      have:=(Mir.gE (kins:=kins) (cs:=(Mir.chains kins).take j++[c]) ⟨KO.knd,by
       have:(Mir.chains kins).take j++[c]=(Mir.chains kins).take (j+1):=(Mir.take_snoc ec).symm
       rw[this]
       exact KO.cnd.sublist (List.take_sublist _ _),fun d hd=>KO.sub d (by
       rcases List.mem_append.mp hd with hd | hd
       ·exact List.mem_of_mem_take hd
       ·rw[List.mem_singleton.mp hd];exact hc),fun d hd=>KO.lnd d (by
       rcases List.mem_append.mp hd with hd | hd
       ·exact List.mem_of_mem_take hd
       ·rw[List.mem_singleton.mp hd];exact hc)⟩).nd
      rw[Mir.gu,List.map_append] at this
      exact this
     refine⟨_,rfl,l2,rfl,⟨_,SqL.of za⟩,bo (K:=K) (a:=l2) (xs:=(ts++qs).map V.ref) (fun i σ H11=>∃ (v2:Option V),σ=[some (.ref l),some (.ref a),v2,some (.ref tg),some (.ref tc),some (.ref l2)]∧aq H H11∧H11 l2=some (.lst ((ts++qs).map V.ref))∧Mir.TsT Mir.pr H11 l2 (Mir.lnk kins c)∧Mir.TsT Mir.iV H11 r (Mir.gn kins)∧H11 r=some (.lst (rs.map V.ref))∧NK.K2 H11 (Mir.cN c) tc∧Mir.WbT P w H11 a (es++[(Mir.cN c,tc,l2)]) (Mir.kL kins ((Mir.chains kins).take j) c i)) ⟨_,rfl,s10,za,L10,R10,r10,B8,T10⟩ (fun i σ H11 _ ⟨_,_,_,e,_⟩=>SqL.of e) ?_ ?_⟩
     ·rintro i x σ H11 hx ⟨v2,rfl,s11,Ba,L11,R11,r11,zc,T11⟩
      rw[List.getElem?_map] at hx
      obtain⟨t',et',rfl⟩:=Option.map_eq_some_iff.mp hx
      have hi:i<(Mir.lnk kins c).length:=by rw[← ll];exact(List.getElem?_eq_some_iff.mp et').1
      have ep:=List.getElem?_eq_getElem hi
      generalize (Mir.lnk kins c)[i]=q at ep
      have hq:=KO.sub c hc q (List.mem_of_getElem? ep)
      have ht':H11 t'=some (.tup (Mir.pr q)):=by
       obtain⟨xs,x1,x2,x3⟩:=L11
       rw[Ba] at x1
       have:ts++qs=xs:=(List.map_inj_right (f:=V.ref) fun a b h=>by injection h).mp (by injection x1 with x1;injection x1)
       subst this
       exact x3 i t' q et' ep
      obtain⟨t,tm,te,Dj⟩:=Mir.yN (cs:=(Mir.chains kins).take j) (c:=c) (i:=i) hq
      obtain⟨b3,l3,m3,v3',th3,_⟩:=T11.at (mnd i) tm
      rw[te] at m3 v3'
      obtain⟨vs,y1,y2,y3⟩:=th3.snoc zc
      have n32:l2≠l3:=fun z=>by
       obtain⟨x,hx,ex⟩:=List.getElem_of_mem m3
       have hz:x<es.length+1:=by rw[List.length_append] at hx;exact hx
       have e1:((es++[(Mir.cN c,tc,l2)]).map (·.2.2))[x]?=some l2:=by rw[List.getElem?_map,List.getElem?_eq_getElem hx,ex,z];rfl
       have e2:((es++[(Mir.cN c,tc,l2)]).map (·.2.2))[es.length]?=some l2:=by rw[List.getElem?_map,List.getElem?_append_right (Nat.le_refl _),Nat.sub_self];rfl
       have:=(List.getElem?_inj (List.getElem?_eq_some_iff.mp e1).1 T11.nd).mp (e1.trans e2.symm)
       subst this
       have e3:(es++[(Mir.cN c,tc,l2)])[es.length]?=some (Mir.cN c,tc,l2):=by rw[List.getElem?_append_right (Nat.le_refl _),Nat.sub_self];rfl
       rw[List.getElem?_eq_getElem hx,ex] at e3
       exact Mir.iL (congrArg Prod.fst (Option.some.inj e3))
      have n3r:r≠l3:=fun z=>B9 (List.mem_map.mpr ⟨_,m3,z.symm⟩)
      have h3n:H l3=none:=nw' _ m3
      refine⟨_,rfl,_,rfl,a,t',_,_,_,rfl,rfl,T11.d,NK.K2.pair ht',v3',.inl ⟨rfl,_,SqL.of y1⟩,_,rfl,l3,_,_,rfl,rfl,y1,lim _ (by rw[y2];have:=Dj;rw[List.length_take] at this;omega),?_⟩
      refine⟨_,rfl,s11.upd h3n,by rw[ao n32];exact Ba,L11.other y1 (Ne.symm n32),R11.other y1 (Ne.symm n3r),by rw[ao n3r];exact r11,zc.keep fun x ys e=>by rw[ao (fun z=>by rw[z,y1] at e;cases e)];exact e,?_⟩
      have T12:=T11.chg (mnd i) m3 y1 (o:=.lst (vs++[.ref tc])) (f:=fun ls=>ls++[Mir.cN c]) (fun ls hls=>by
       obtain⟨vs',z1,z2,z3⟩:=hls.snoc zc
       rw[y1] at z1
       obtain rfl:vs=vs':=by injection z1 with z1;injection z1
       exact z3)
      rw[Mir.uG lnd ep] at T12
      exact T12
     ·rintro σ H11 ⟨v2,rfl,s11,Ba,L11,R11,r11,zc,T11⟩
      rw[List.length_map,ll,Mir.wO,← Mir.take_snoc ec] at T11
      exact⟨_,_,_,_,_,rfl,s11,nw',R11,r11,B9,T11⟩
   ·rintro σ H4 ⟨es,v2,v3,v4,v5,rfl,s4,nw,hR4,r4,rin,T⟩
    rw[List.length_map,r2,show (Mir.gn kins).length=(Mir.chains kins).length by unfold Mir.chains;rw[List.length_map],List.take_length] at T
    exact⟨_,rfl,k a es H4 ha s4 nw T⟩
end
section
seal L2.PSs L2.PS L2.PE L2.PT L2.PA
variable {P:Program}{w:World}{K:PySem.W.Frag}{mg:Str→Option Value}{base:Heap}
theorem kQ {f:Addr}{fd:FuncData}(B:Bl mg)(F:Fn K mg "spare_things" cA ["web","knots"] f fd):aO P w K mg base CX0 1 f fd ["web","knots"] (Mir.tD P w):=by
 refine F.fn.ok kO (fun vs H Q E h=>?_) (fun cdv A outer s H vs Q E hr h=>?_)
 ·obtain⟨a,l,es,W,ks,rfl,_⟩:=h
  rfl
 ·obtain⟨a,l,es,W,ks,rfl,T,O,hn,hk,k⟩:=h
  refine⟨_,(au (aQ (NK.pO (P:=P) (w:=w) rfl rfl (cG (NC:=["thing","web","knots"]) rfl (sZ (pre:=["thing"]) (c:=s.heap.objs.size+1) (e:=s.heap.objs.size+2) (j:=0) (k:=1) rfl (by decide +kernel) (by decide +kernel) rfl rfl rfl rfl rfl rfl rfl rfl rfl) (NK.qY (P:=P) (w:=w) rfl rfl (pv 0)) (fun _ _ _ _=>(aC (i:=0) (show (["thing","web","knots"]:List Str).Nodup by decide +kernel) rfl (Or.inl rfl))) (fun _ _ _ _=>(b6 (PW.pt (fi (aE u7 (aG (dO (K:=K) rfl) rfl B.len bg (ab (NK.ly (P:=P) (w:=w) rfl rfl (hr.lt 1 (by decide)) (pv 1) (pv 0) (fun _ _=>rfl)) ai)) aj (aI _)) (eS (aE (NK.j3 (hr.lt 1 (by decide))) (pv 0) (pv 2) (by with_unfolding_all rfl))))))) (fun _ _ _ _=>(pv 0)))))),?_⟩
  have esl:es.length=W.length:=T.r.length
  have ev:(Mir.eV es).length=es.length:=by unfold Mir.eV;rw[List.length_map]
  refine⟨_,rfl,a,Mir.eV es,rfl,T.d,fun o D hD=>?_⟩
  have nDa:D≠a:=fun z=>by rw[z,ae] at hD;cases hD
  have hD0:H D=none:=by rwa[ao nDa] at hD
  have sF:∀ {c:Addr} {ho:HO},H c=some ho→c≠a→upd H a (NK.d2F P w a (Mir.eV es) o) c=some ho:=fun {c ho} e n=>by rw[ao n];exact e
  have DF:NK.D2f P w (upd H a (NK.d2F P w a (Mir.eV es) o)) a (Mir.eV es) o:=T.d.to
  have nl:∀ {c:Addr} {vs:List V},H c=some (.lst vs)→c≠a:=fun {c vs} e z=>by rw[z,T.d.1] at e;cases e
  have nt:∀ {c:Addr} {vs:List V},H c=some (.tup vs)→c≠a:=fun {c vs} e z=>by rw[z,T.d.1] at e;cases e
  have thF:∀ {c:Addr} {L:List Mir.Nd},NK.Ths H c L→NK.Ths (upd H a (NK.d2F P w a (Mir.eV es) o)) c L:=fun {c L} q=>by
   obtain⟨bs,h1,h2,h3⟩:=q
   exact⟨bs,sF h1 (nl h1),h2,fun i b k e1 e2=>(h3 i b k e1 e2).keep fun c ys e=>sF e (nt e)⟩
  have rF:=Paired.mn T.r (G:=Mir.RW (upd H a (NK.d2F P w a (Mir.eV es) o))) fun e t q=>⟨q.1,thF q.2⟩
  have kF:=thF hk.ths
  have back:∀ {H5:Hp},aq (upd H a (NK.d2F P w a (Mir.eV es) o)) H5→aq H (upd H5 a (NK.d2O P w a (Mir.eV es))):=fun {H5} s5 b o' e=>by
   by_cases z:b=a
   ·subst z
    rw[ae,← e,T.d.1]
   ·rw[ao z]
    exact s5 _ _ (sF e z)
  generalize upd H a (NK.d2F P w a (Mir.eV es) o)=H1 at hD DF rF kF back
  refine NK.sI (fun i σ H2=>∃ v:Option V,σ=[v,some (.ref a),some (.ref l)]∧aq H1 H2∧NK.Ths H2 D (Mir.aH (W.take i) ks)) ⟨none,rfl,ag hD,[],ae,rfl,fun i b k e=>by simp at e⟩ (fun i σ H2 _ ⟨_,_,s2,_⟩=>⟨s2 _ _ DF.1,fun p hp=>NK.K2.same (DF.2 p hp) s2⟩) ?_ ?_
  ·rintro i kk b v σ H2 hx ⟨v0,rfl,s2,hT⟩
   obtain⟨l',he,rfl⟩:=Mir.wN hx
   obtain⟨t,ht,q1,q2⟩:=Mir.j8 rF he
   have q1:kk=t.1:=q1
   subst q1
   have hm:=List.mem_of_getElem? he
   have hkb:NK.K2 H2 t.1 b:=NK.K2.same (DF.2 _ (List.mem_map.mpr ⟨_,hm,rfl⟩)) s2
   have vv:=Mir.lR (by rw[Mir.dk T.r];exact O.nd) hm
   obtain⟨vs,v1,v2⟩:=(NK.Ths.same q2 s2).len
   have hil:i<W.length:=(List.getElem?_eq_some_iff.mp ht).1
   have es1:=Mir.rC (ks:=ks) ht
   have hle:(Mir.aH (W.take i) ks).length≤i:=by
    unfold Mir.aH
    rw[List.length_map]
    exact Nat.le_trans (List.length_filter_le _ _) (by rw[List.length_take];omega)
   refine⟨_,rfl,_,rfl,a,b,_,o,t.1,_,rfl,rfl,⟨s2 _ _ DF.1,fun p hp=>NK.K2.same (DF.2 p hp) s2⟩,hkb,vv,l',vs,rfl,.inl (SqL.of v1),_,_,rfl,rfl,_,rfl,?_⟩
   have no:¬ (t.2.length≤1∧t.1 ∉ ks.map Mir.pN)→∃ v:Option V,[some (V.ref b),some (.ref a),some (.ref l)]=[v,some (.ref a),some (.ref l)]∧aq H1 H2∧NK.Ths H2 D (Mir.aH (W.take (i+1)) ks):=fun h=>by
    refine⟨_,rfl,s2,?_⟩
    rw[es1,if_neg h,List.append_nil]
    exact hT
   by_cases c1:t.2.length≤1
   ·rw[decide_eq_true (show ((vs.length:Nat):Int)≤1 by omega)]
    refine gw ⟨_,rfl,_,rfl,b,l,t.1,_,rfl,rfl,hkb,NK.Ths.same kF s2,_,rfl,?_⟩
    by_cases c2:t.1∈ks.map Mir.pN
    ·rw[decide_eq_true c2]
     exact cJ (no fun z=>z.2 c2)
    ·rw[decide_eq_false c2]
     obtain⟨ys,y1,y2,y3⟩:=hT.snoc hkb
     refine gw ⟨_,rfl,ys,y1,aw (by rw[y2];omega),_,rfl,s2.upd hD,?_⟩
     rw[es1,if_pos ⟨c1,c2⟩]
     exact y3
   ·rw[decide_eq_false (show ¬ ((vs.length:Nat):Int)≤1 by omega)]
    exact cJ (cJ (no fun z=>c1 z.1))
  ·rintro σ H2 ⟨v,rfl,s2,hT⟩
   rw[ev,esl,List.take_length] at hT
   refine⟨a,Mir.eV es,o,⟨s2 _ _ DF.1,fun p hp=>NK.K2.same (DF.2 p hp) s2⟩,?_⟩
   refine k D _ hD0 (back s2) ?_
   refine NK.Ths.keep hT (by rw[ao nDa]) fun c ys e=>?_
   rw[ao (fun z=>by rw[z,s2 _ _ DF.1] at e;cases e)]
   exact e
end
section
seal L2.PSs L2.PS L2.PE L2.PT L2.PA
variable {P:Program}{w:World}{K:PySem.W.Frag}{mg:Str→Option Value}{base:Heap}
theorem md {f f1 f2 f3 f4:Addr}{fd fd1 fd2 fd3 fd4:FuncData}(B:Bl mg)(F:Fn K mg "thinned_web" bX ["row"] f fd)(cC:Fn K mg "knots_in" dI ["row"] f1 fd1)(cS:aO P w K mg base CX0 4 f1 fd1 ["row"] Mir.kZ)
  (bh:Fn K mg "kin_spans" cz ["row"] f2 fd2) (cX:aO P w K mg base CX0 2 f2 fd2 ["row"] Mir.gC) (jM:Fn K mg "web_of" hZ ["kins"] f3 fd3) (me:aO P w K mg base CX0 2 f3 fd3 ["kins"] (Mir.oN P w)) (cD:Fn K mg "spare_things" cA ["web","knots"] f4 fd4):aO P w K mg base CX0 5 f fd ["row"] (Mir.oO P w):=by
 have h9:aO P w K mg base CX0 1 f4 fd4 ["web","knots"] (Mir.tD P w):=kQ B cD
 refine F.fn.ok bw (fun vs H Q E h=>?_) (fun cdv A outer s H vs Q E hr h=>?_)
 ·obtain⟨t,rs,rfl,_⟩:=h
  rfl
 ·obtain⟨t,rs,rfl,ht,fit,k⟩:=h
  have hu2:=hr.lt 1 (by decide)
  have small:=fit.small
  refine⟨_,(af (aB (i:=1) bw.nd rfl (Or.inl rfl) (aY cS cC (hr.mono (by decide)) (ab (pv 0) ai)))
   (af (bT (aE eP (aG aF rfl B.len bg (ab (pv 1) ai)) aj (aI _)) (au (aQ (NK.jo (P:=P) (w:=w) rfl rfl))) a8)
   (af (aB (i:=2) bw.nd rfl (Or.inl rfl) (aY me jM (hr.mono (by decide)) (ab (aY cX bh (hr.mono (by decide)) (ab (pv 0) ai)) ai)))
   (af (aB (i:=3) bw.nd rfl (Or.inl rfl) (aY h9 cD (hr.mono (by decide)) (ab (pv 2) (ab (pv 1) ai))))
   (af (jb PassesOwn.never (aE ki (aG aF rfl B.len bg (ab (pv 3) ai)) aj (aI _)) (af (bq PassesOwn.never rfl (aM (pv 3)) (aC (i:=4) bw.nd rfl (Or.inl rfl)) (af (bq PassesOwn.never rfl (aM (bN jg rfl B.list iq (ab (NK.cw (P:=P) (w:=w) rfl rfl hu2 (pv 2) (pv 4) (fun _ _=>rfl)) ai))) (aC (i:=5) bw.nd rfl (Or.inl rfl)) (au (b5 (fj PySem.F.plainAttrs_list PySem.F.slot_list_remove PySem.F.type_list_remove (NK.Ay hu2) (NK.cw (P:=P) (w:=w) rfl rfl hu2 (pv 2) (pv 5) (fun _ _=>rfl)) (ab (pv 4) ai)))))
   (au (b5 (NK.we (P:=P) (w:=w) rfl rfl hu2 (pv 2) (ab (pv 4) ai))))))
   (au (aB (i:=3) bw.nd rfl (Or.inl rfl) (aY h9 cD (hr.mono (by decide)) (ab (pv 2) (ab (pv 1) ai)))))))
   (au (aQ (pv 2)))))))),?_⟩
  have fl:=Mir.ba rs
  have kl:=Mir.gg (Mir.frm rs)
  refine⟨_,rfl,t,rs,rfl,ht,fit,fun lk H1 hlk s1 hK=>?_⟩
  have ewT:Mir.d4 rs=if Mir.di (Mir.frm rs) (Mir.opn (Mir.frm rs) (rs.length+1))=[] then [] else Mir.hU (Mir.dZ (Mir.b4 (Mir.frm rs)) (Mir.chains (Mir.b4 (Mir.frm rs)))) (Mir.di (Mir.frm rs) (Mir.opn (Mir.frm rs) (rs.length+1))):=rfl
  generalize Mir.di (Mir.frm rs) (Mir.opn (Mir.frm rs) (rs.length+1))=ks at hK ewT
  obtain⟨kv,k1,k2⟩:=hK.len
  refine⟨_,rfl,lk,_,rfl,.inl (SqL.of k1),rfl,_,rfl,?_⟩
  by_cases c0:ks=[]
  ·refine iF (yM (by rw[k2,c0];rfl)) ?_
   intro a ha
   refine k a [] _ (s1.free ha) (s1.trans (ag ha)) ?_
   rw[ewT,if_pos c0]
   exact⟨⟨ae,fun p hp=>absurd hp List.not_mem_nil⟩,.nil,List.nodup_nil⟩
  ·refine hV (tf (by rw[k2];intro z;exact c0 (List.length_eq_zero_iff.mp (by omega)))) ?_
   rw[if_neg c0] at ewT
   refine⟨_,rfl,t,rs,rfl,s1 _ _ ht,fit,fun lS H2 hlS s2 hS=>?_⟩
   have asc:=Mir.gj (Mir.frm rs)
   refine⟨lS,_,rfl,hS,asc,by omega,fun a es H3 ha s3 nw T=>?_⟩
   have O:=Mir.gE (Mir.iy asc)
   have cl:=Mir.fu (Mir.b4 (Mir.frm rs))
   have Wl:(Mir.dZ (Mir.b4 (Mir.frm rs)) (Mir.chains (Mir.b4 (Mir.frm rs)))).length≤500:=by
    unfold Mir.dZ
    rw[List.length_append,List.length_map,List.length_map]
    omega
   generalize Mir.dZ (Mir.b4 (Mir.frm rs)) (Mir.chains (Mir.b4 (Mir.frm rs)))=W0 at T O Wl ewT
   have hK2:=hK.same s2
   have s12:=s1.trans s2
   have lk2:=(s2 _ _ k1)
   refine⟨_,rfl,_,rfl,a,lk,es,W0,ks,rfl,T,O,Wl,hK2.same s3,fun sp H4 hsp s4 tsp=>?_⟩
   refine⟨fun m σ H5=>∃ (W:Mir.Web) (es:Mir.Es) (sp:Addr) (v4 v5:Option V),m=W.length∧σ=[some (.ref t),some (.ref lk),some (.ref a),some (.ref sp),v4,v5]∧aq H2 H5∧Mir.oM H2 es∧Mir.WbT P w H5 a es W∧Mir.WOk W∧W.length≤500∧NK.Ths H5 sp (Mir.aH W ks)∧sp ∉ es.map (·.2.2)∧H2 sp=none∧Mir.hU W ks=Mir.hU W0 ks,⟨_,W0,es,sp,_,_,rfl,rfl,s3.trans s4,nw,T.same s4,O,Wl,tsp,?_,s3.free hsp,rfl⟩,?_⟩
   ·intro z
    obtain⟨e,he,q0⟩:=List.mem_map.mp z
    obtain⟨y,_,_,bs,q,_⟩:=Mir.cy T.r he
    have q0:e.2.2=sp:=q0
    rw[q0,hsp] at q
    cases q
   clear T O Wl tsp nw hsp s4
   rintro m σ H5 ⟨W,es,sp,v4,v5,rfl,rfl,s5,nw,T,O,Wl,tsp,nsp,fsp,eth⟩
   obtain⟨bs,b1,b2,b3⟩:=id tsp
   refine⟨_,rfl,sp,_,rfl,.inl (SqL.of b1),_,_,rfl,rfl,_,rfl,?_⟩
   by_cases c1:Mir.aH W ks=[]
   ·refine hV (decide_eq_false (by rw[List.length_map,b2,c1];decide)) ?_
    refine⟨_,rfl,k a es H5 (s12.free ha) (s12.trans s5) ?_⟩
    rw[ewT,← eth,Mir.uC c1]
    exact T
   ·have cl:0<(Mir.aH W ks).length:=List.length_pos_iff.mpr c1
    refine iF (decide_eq_true (by rw[List.length_map,b2];omega)) ?_
    refine⟨fun σ' H'=>∃ m',m'<W.length∧∃ (W:Mir.Web) (es:Mir.Es) (sp:Addr) (v4 v5:Option V),m'=W.length∧σ'=[some (.ref t),some (.ref lk),some (.ref a),some (.ref sp),v4,v5]∧aq H2 H'∧Mir.oM H2 es∧Mir.WbT P w H' a es W∧Mir.WOk W∧W.length≤500∧NK.Ths H' sp (Mir.aH W ks)∧sp ∉ es.map (·.2.2)∧H2 sp=none∧Mir.hU W ks=Mir.hU W0 ks,fun _ _ q=>q,?_⟩
    have snd:=Mir.wX O ks
    have a2:H2 a=none:=ha
    have Dk:a≠sp:=fun z=>by have q:=T.d.1;rw[z,b1] at q;cases q
    refine⟨_,rfl,sp,rfl,⟨_,SqL.of b1⟩,bo (K:=K) (a:=sp) (xs:=bs.map V.ref) (fun i σ H6=>∃ (es:Mir.Es) (v4 v5:Option V),σ=[some (.ref t),some (.ref lk),some (.ref a),some (.ref sp),v4,v5]∧aq H2 H6∧Mir.oM H2 es∧Mir.WbT P w H6 a es (((Mir.aH W ks).take i).foldl Mir.dj W)∧H6 sp=some (.lst (bs.map V.ref))∧(∀ (i:Nat) (b:Addr) (k:Mir.Nd),bs[i]?=some b→(Mir.aH W ks)[i]?=some k→NK.K2 H6 k b)∧sp ∉ es.map (·.2.2)) ⟨es,_,_,rfl,s5,nw,T,b1,b3,nsp⟩ (fun i σ H6 _ ⟨_,_,_,_,_,_,_,e,_⟩=>SqL.of e) ?_ ?_⟩
    ·rintro i x σ H6 hx ⟨es,v4,v5,rfl,s6,nw,T,b1,b3,nsp⟩
     rw[List.getElem?_map] at hx
     obtain⟨bx,ebx,rfl⟩:=Option.map_eq_some_iff.mp hx
     have hi:i<(Mir.aH W ks).length:=by rw[← b2];exact(List.getElem?_eq_some_iff.mp ebx).1
     have ex:=List.getElem?_eq_getElem hi
     generalize (Mir.aH W ks)[i]=kx at ex
     have kb:=b3 i bx kx ebx ex
     have Oi:Mir.WOk (((Mir.aH W ks).take i).foldl Mir.dj W):=Mir.WOk.fold _ O
     have hkx:kx∈Mir.az (((Mir.aH W ks).take i).foldl Mir.dj W):=Mir.fold_keeps _ _ (Mir.nj (List.mem_of_getElem? ex)) (fun z=>by
      obtain⟨j,hj⟩:=List.getElem?_of_mem z
      rw[List.getElem?_take] at hj
      by_cases q:j<i
      ·rw[if_pos q] at hj
       have:=(List.getElem?_inj (List.getElem?_eq_some_iff.mp hj).1 snd).mp (hj.trans ex.symm)
       omega
      ·rw[if_neg q] at hj;cases hj)
     have Wil:(((Mir.aH W ks).take i).foldl Mir.dj W).length≤500:=Nat.le_trans (Mir.jy _ _) Wl
     rw[Mir.uI ex]
     generalize ((Mir.aH W ks).take i).foldl Mir.dj W=Wi at T Oi hkx Wil
     obtain⟨u,hu,rfl⟩:=Mir.mem_keys.mp hkx
     obtain⟨bk,lx,mx,vx,tx,_⟩:=T.at Oi.nd hu
     obtain⟨cs,c1,c2,c3⟩:=id tx
     have nlx:=Oi.nl u hu
     refine⟨_,rfl,_,rfl,a,bx,_,_,_,rfl,rfl,T.d,kb,vx,lx,_,rfl,.inl (SqL.of c1),fun lc hlc=>?_⟩
     have s7:aq H6 (upd H6 lc (.lst (cs.map V.ref))):=ag hlc
     have lc7:upd H6 lc (.lst (cs.map V.ref)) lc=some (.lst (cs.map V.ref)):=ae
     generalize upd H6 lc (.lst (cs.map V.ref))=H7 at s7 lc7
     have nlc:lc ∉ es.map (·.2.2):=fun z=>by
      obtain⟨e,he,q0⟩:=List.mem_map.mp z
      obtain⟨y,_,_,bs,q,_⟩:=Mir.cy T.r he
      have q0:e.2.2=lc:=q0
      rw[q0,hlc] at q
      cases q
     refine⟨lc,rfl,⟨_,SqL.of lc7⟩,bo (K:=K) (a:=lc) (xs:=cs.map V.ref) (fun j σ H8=>∃ v5:Option V,σ=[some (.ref t),some (.ref lk),some (.ref a),some (.ref sp),some (.ref bx),v5]∧aq H2 H8∧Mir.WbT P w H8 a es (Mir.kM Wi u.1 (u.2.take j))∧H8 sp=some (.lst (bs.map V.ref))∧H8 lc=some (.lst (cs.map V.ref))∧(∀ c ys,H7 c=some (.tup ys)→H8 c=some (.tup ys))) ⟨_,rfl,s6.trans s7,by rw[List.take_zero,Mir.yP];exact T.same s7,s7 _ _ b1,lc7,fun _ _ e=>e⟩ (fun i σ H8 _ ⟨_,_,_,_,_,e,_⟩=>SqL.of e) ?_ ?_⟩
     ·rintro j x σ H8 hx ⟨v5,rfl,s8,T8,b8,lc8,g8⟩
      rw[List.getElem?_map] at hx
      obtain⟨by',eby,rfl⟩:=Option.map_eq_some_iff.mp hx
      have hj:j<u.2.length:=by rw[← c2];exact(List.getElem?_eq_some_iff.mp eby).1
      have ey:=List.getElem?_eq_getElem hj
      generalize u.2[j]=y at ey
      have ky:NK.K2 H8 y by':=(NK.K2.same (c3 j by' y eby ey) s7).keep g8
      have kb8:NK.K2 H8 u.1 bx:=(NK.K2.same kb s7).keep g8
      have nyl:y ∉ u.2.take j:=fun z=>by
       obtain⟨i',hi'⟩:=List.getElem?_of_mem z
       rw[List.getElem?_take] at hi'
       by_cases q:i'<j
       ·rw[if_pos q] at hi'
        have:=(List.getElem?_inj (List.getElem?_eq_some_iff.mp hi').1 nlx).mp (hi'.trans ey.symm)
        omega
       ·rw[if_neg q] at hi';cases hi'
      obtain⟨v,hv,ev,hin⟩:=Oi.sym u hu y (List.mem_of_getElem? ey)
      subst ev
      have nd8:(Mir.az (Mir.kM Wi u.1 (u.2.take j))).Nodup:=by rw[Mir.wV];exact Oi.nd
      obtain⟨bv,lv,mv,vv,tv,_⟩:=T8.at nd8 (Mir.yQ (k:=u.1) nyl (ls:=v.2) hv)
      obtain⟨ds,d1,d2,d3⟩:=id tv
      have nlv:=Oi.nl v hv
      obtain⟨jj,hjj⟩:=List.getElem?_of_mem hin
      have nsv:sp≠lv:=fun z=>nsp (List.mem_map.mpr ⟨_,mv,z.symm⟩)
      have ncv:lc≠lv:=fun z=>nlc (List.mem_map.mpr ⟨_,mv,z.symm⟩)
      refine⟨_,rfl,_,rfl,a,by',_,_,_,rfl,rfl,T8.d,ky,vv,.inl ⟨rfl,_,SqL.of d1⟩,_,rfl,lv,bx,u.1,v.2,ds,jj,rfl,rfl,kb8,d1,d2,d3,hjj,Mir.wY nlv hjj,?_⟩
      have T9:=T8.chg nd8 mv d1 (o:=.lst ((ds.eraseIdx jj).map V.ref)) (f:=fun ls=>ls.filter fun l=>decide (l≠u.1)) (fun ls hls=>by
       rw[NK.Ths.inj hls tv]
       have:=NK.Ths.erase (j:=jj) d1 d2 d3
       rw[Mir.rE nlv hjj] at this
       exact this)
      rw[Mir.wW nyl,← Mir.take_snoc ey] at T9
      refine⟨_,rfl,s8.upd (nw _ mv),T9,by rw[ao nsv];exact b8,by rw[ao ncv];exact lc8,fun c ys e=>?_⟩
      have e:=g8 c ys e
      rw[ao (fun z=>by rw[z,d1] at e;cases e)]
      exact e
     ·rintro σ H8 ⟨v5,rfl,s8,T8,b8,lc8,g8⟩
      rw[List.length_map,c2,List.take_length] at T8
      have kb8:NK.K2 H8 u.1 bx:=(NK.K2.same kb s7).keep g8
      obtain⟨ix,hix⟩:=List.getElem?_of_mem mx
      refine⟨_,rfl,⟨a,_,rfl,T8.d⟩,_,rfl,a,bx,_,u.1,.ref lx,rfl,rfl,T8.d,kb8,⟨bk,ix,by unfold Mir.eV;rw[List.getElem?_map,hix];rfl⟩,?_⟩
      have T9:=T8.drop (k:=u.1)
      rw[Mir.yR Oi hu] at T9
      refine⟨_,_,_,rfl,s8.upd a2,fun e he=>nw e (List.mem_filter.mp he).1,T9,by rw[ao (Ne.symm Dk)];exact b8,fun i' b' k' e1 e2=>?_,fun z=>?_⟩
      ·refine((NK.K2.same (b3 i' b' k' e1 e2) s7).keep g8).keep fun c ys e=>?_
       rw[ao (fun z=>by rw[z,T8.d.1] at e;cases e)]
       exact e
      ·obtain⟨e,he,q0⟩:=List.mem_map.mp z
       exact nsp (List.mem_map.mpr ⟨e,(List.mem_filter.mp he).1,q0⟩)
    ·rintro σ H6 ⟨es,v4,v5,rfl,s6,nw,T,b1,b3,nsp⟩
     rw[List.length_map,b2,List.take_length] at T
     have T:Mir.WbT P w H6 a es (Mir.kE W ks):=T
     have lt:=Mir.k4 c1
     refine⟨_,rfl,_,rfl,a,lk,es,_,ks,rfl,T,Mir.WOk.fold _ O,by omega,hK2.same s6,fun sp' H7 Ca s7 Dl=>?_⟩
     refine⟨_,lt,_,es,sp',_,_,rfl,rfl,s6.trans s7,nw,T.same s7,Mir.WOk.fold _ O,by omega,Dl,fun z=>?_,s6.free Ca,?_⟩
     ·obtain⟨e,he,q0⟩:=List.mem_map.mp z
      obtain⟨y,_,_,bs,q,_⟩:=Mir.cy T.r he
      have q0:e.2.2=sp':=q0
      rw[q0,Ca] at q
      cases q
     ·rw[← Mir.uD c1]
      exact eth
end
section
seal L2.PSs L2.PS L2.PE L2.PT L2.PA
variable {P:Program}{w:World}{K:PySem.W.Frag}{mg:Str→Option Value}{base:Heap}
theorem mh {f:Addr}{fd:FuncData}(B:Bl mg)(F:Fn K mg "ends_of" fh ["web"] f fd):aO P w K mg base CX0 1 f fd ["web"] (Mir.rD P w):=by
 refine F.fn.ok rQ (fun vs H Q E h=>?_) (fun cdv A outer s H vs Q E hr h=>?_)
 ·obtain⟨a,es,W,ks,rfl,_⟩:=h
  rfl
 ·obtain⟨a,es,W,ks,rfl,T,O,hn,hsp,asc,kl,kr,k⟩:=h
  refine⟨_,(au (aQ (aG (hJ false) rfl B.sorted jX (ab (NK.pO (P:=P) (w:=w) rfl rfl (cG (NC:=["thing","web"]) rfl (bC (c:=s.heap.objs.size+1) (j:=0) rfl (by decide +kernel) (by decide +kernel) rfl rfl rfl rfl rfl) (NK.qY (P:=P) (w:=w) rfl rfl (pv 0)) (fun _ _ _ _=>(aC (i:=0) (show (["thing","web"]:List Str).Nodup by decide +kernel) rfl (Or.inl rfl))) (fun _ _ _ _=>(b6 (aE u7 (aG (dO (K:=K) rfl) rfl B.len bg (ab (NK.ly (P:=P) (w:=w) rfl rfl (hr.lt 1 (by decide)) (pv 1) (pv 0) (fun _ _=>rfl)) ai)) aj (aI _)))) (fun _ _ _ _=>(pv 0)))) ai)))),?_⟩
  have esl:es.length=W.length:=T.r.length
  have ev:(Mir.eV es).length=es.length:=by unfold Mir.eV;rw[List.length_map]
  refine⟨_,rfl,a,Mir.eV es,rfl,T.d,fun o D hD=>?_⟩
  have nDa:D≠a:=fun z=>by rw[z,ae] at hD;cases hD
  have hD0:H D=none:=by rwa[ao nDa] at hD
  have sF:∀ {c:Addr} {ho:HO},H c=some ho→c≠a→upd H a (NK.d2F P w a (Mir.eV es) o) c=some ho:=fun {c ho} e n=>by rw[ao n];exact e
  have DF:NK.D2f P w (upd H a (NK.d2F P w a (Mir.eV es) o)) a (Mir.eV es) o:=T.d.to
  have nl:∀ {c:Addr} {vs:List V},H c=some (.lst vs)→c≠a:=fun {c vs} e z=>by rw[z,T.d.1] at e;cases e
  have nt:∀ {c:Addr} {vs:List V},H c=some (.tup vs)→c≠a:=fun {c vs} e z=>by rw[z,T.d.1] at e;cases e
  have thF:∀ {c:Addr} {L:List Mir.Nd},NK.Ths H c L→NK.Ths (upd H a (NK.d2F P w a (Mir.eV es) o)) c L:=fun {c L} q=>by
   obtain⟨bs,h1,h2,h3⟩:=q
   exact⟨bs,sF h1 (nl h1),h2,fun i b k e1 e2=>(h3 i b k e1 e2).keep fun c ys e=>sF e (nt e)⟩
  have rF:=Paired.mn T.r (G:=Mir.RW (upd H a (NK.d2F P w a (Mir.eV es) o))) fun e t q=>⟨q.1,thF q.2⟩
  have back:∀ {H5:Hp},aq (upd H a (NK.d2F P w a (Mir.eV es) o)) H5→aq H (upd H5 a (NK.d2O P w a (Mir.eV es))):=fun {H5} s5 b o' e=>by
   by_cases z:b=a
   ·subst z
    rw[ae,← e,T.d.1]
   ·rw[ao z]
    exact s5 _ _ (sF e z)
  generalize upd H a (NK.d2F P w a (Mir.eV es) o)=H1 at hD DF rF back
  refine NK.sI (fun i σ H2=>∃ v:Option V,σ=[v,some (.ref a)]∧aq H1 H2∧NK.Ths H2 D (Mir.jA (W.take i))) ⟨none,rfl,ag hD,[],ae,rfl,fun i b k e=>by simp at e⟩ (fun i σ H2 _ ⟨_,_,s2,_⟩=>⟨s2 _ _ DF.1,fun p hp=>NK.K2.same (DF.2 p hp) s2⟩) ?_ ?_
  ·rintro i kk b v σ H2 hx ⟨v0,rfl,s2,hT⟩
   obtain⟨l',he,rfl⟩:=Mir.wN hx
   obtain⟨t,ht,q1,q2⟩:=Mir.j8 rF he
   have q1:kk=t.1:=q1
   subst q1
   have hm:=List.mem_of_getElem? he
   have hkb:NK.K2 H2 t.1 b:=NK.K2.same (DF.2 _ (List.mem_map.mpr ⟨_,hm,rfl⟩)) s2
   have vv:=Mir.lR (by rw[Mir.dk T.r];exact O.nd) hm
   obtain⟨vs,v1,v2⟩:=(NK.Ths.same q2 s2).len
   have hil:i<W.length:=(List.getElem?_eq_some_iff.mp ht).1
   have es1:=Mir.wZ ht
   have hle:=Mir.yS W i
   refine⟨_,rfl,_,rfl,a,b,_,o,t.1,_,rfl,rfl,⟨s2 _ _ DF.1,fun p hp=>NK.K2.same (DF.2 p hp) s2⟩,hkb,vv,l',vs,rfl,.inl (SqL.of v1),_,_,rfl,rfl,_,rfl,?_⟩
   by_cases c1:t.2.length≤1
   ·rw[decide_eq_true (show ((vs.length:Nat):Int)≤1 by omega)]
    obtain⟨ys,y1,y2,y3⟩:=hT.snoc hkb
    refine gw ⟨_,rfl,ys,y1,aw (by rw[y2];omega),_,rfl,s2.upd hD,?_⟩
    rw[es1,if_pos c1]
    exact y3
   ·rw[decide_eq_false (show ¬ ((vs.length:Nat):Int)≤1 by omega)]
    refine cJ ⟨_,rfl,s2,?_⟩
    rw[es1,if_neg c1,List.append_nil]
    exact hT
  ·rintro σ H2 ⟨v,rfl,s2,hT⟩
   rw[ev,esl,List.take_length] at hT
   refine⟨a,Mir.eV es,o,⟨s2 _ _ DF.1,fun p hp=>NK.K2.same (DF.2 p hp) s2⟩,?_⟩
   have hT3:NK.Ths (upd H2 a (NK.d2O P w a (Mir.eV es))) D (Mir.jA W):=NK.Ths.keep hT (by rw[ao nDa]) fun c ys e=>by
    rw[ao (fun z=>by rw[z,s2 _ _ DF.1] at e;cases e)]
    exact e
   have s3:=back s2
   generalize upd H2 a (NK.d2O P w a (Mir.eV es))=H3 at hT3 s3
   obtain⟨ps,e1,e2,e3⟩:=Mir.w4 O hsp asc
   rw[e1] at hT3
   have hT4:=hT3.tst
   obtain⟨ts,g,c1,c2,c3,c4⟩:=Mir.jw hT4 (fun p hp=>kr p (e3 p hp))
   have tl:ts.length<64:=by
    rw[c2,e2.length_eq]
    exact Nat.lt_of_le_of_lt (List.length_filter_le _ _) (by omega)
   refine⟨D,ts,g,rfl,SqL.of c1,tl,c3,fun us l hp hs hl7=>?_⟩
   obtain⟨M,m1,m2,m3⟩:=c4 us hp hs
   have eM:=Mir.w5 asc m1 e2 m2
   have s8:aq H3 (upd H3 l (.lst (us.map V.ref))):=ag hl7
   have hT8:=m3 _ l s8 ae
   rw[eM] at hT8
   exact k l _ (s3.free hl7) (s3.trans s8) hT8
end
section
seal L2.PSs L2.PS L2.PE L2.PT L2.PA
variable {P:Program}{w:World}{K:PySem.W.Frag}{mg:Str→Option Value}{base:Heap}
theorem qA {f:Addr}{fd:FuncData}(B:Bl mg)(F:Fn K mg "leg_from" fA ["end","web"] f fd):aO P w K mg base CX0 1 f fd ["end","web"] (Mir.zB P w):=by
 refine F.fn.ok eD (fun vs H Q E h=>?_) (fun cdv A outer s H vs Q E hr h=>?_)
 ·obtain⟨e,a,es,W,k,rfl,_⟩:=h
  rfl
 ·obtain⟨e,a,es,W,k,rfl,T,O,hn,hk,hkw,hd,kk⟩:=h
  have hu2:=hr.lt 1 (by decide)
  refine⟨_,(af (aB (i:=2) eD.nd rfl (Or.inr rfl) (bc (ab (pv 0) ai)))
   (af (aB (i:=3) eD.nd rfl (Or.inl rfl) (NK.cw (P:=P) (w:=w) rfl rfl hu2 (pv 1) (pv 0) (fun _ _=>rfl)))
   (af (jb PassesOwn.never (PW.pt (fi (aE ki (aG aF rfl B.len bg (ab (pv 3) ai)) aj (aI _)) (eS (aE u7 (aG aF rfl B.len bg (ab (NK.cw (P:=P) (w:=w) rfl rfl hu2 (pv 1) (aR a9 (pv 3) aj (fun _ _=>rfl)) (fun _ _=>rfl)) ai)) aj (aI _))))) (af (aB (i:=4) eD.nd rfl (Or.inl rfl) (aR a9 (pv 3) aj (fun _ _=>rfl)))
   (af (b7 (ix:=3) (NC:=["linked","leg"]) eD.nd rfl (Or.inl rfl) rfl (bC (c:=s.heap.objs.size+1) (j:=2) rfl (by decide +kernel) (by decide +kernel) rfl rfl rfl rfl rfl) (aM (NK.cw (P:=P) (w:=w) rfl rfl hu2 (pv 1) (pv 4) (fun _ _=>rfl))) (fun _ _ _ _=>(aC (i:=0) (show (["linked","leg"]:List Str).Nodup by decide +kernel) rfl (Or.inl rfl))) (fun _ _ _ _=>(b6 (aE (NK.wb (hr.lt 0 (by decide))) (pv 0) (aR (gX (K:=K) rfl) (pv 1) (mO jS aj) (fun _ _=>rfl)) (aI _)))) (fun _ _ _ _=>(pv 0)))
   (au (b5 (fj PySem.F.plainAttrs_list PySem.F.slot_list_append PySem.F.type_list_append bE (pv 2) (ab (pv 4) ai)))))))
   (au (aQ (pv 2)))))),?_⟩
  refine⟨_,rfl,by show 1≤sizeLine;decide,fun lg hlg=>?_⟩
  have s1:aq H (upd H lg (.lst [.ref e])):=ag hlg
  have g1:upd H lg (.lst [.ref e]) lg=some (.lst [.ref e]):=ae
  generalize upd H lg (.lst [.ref e])=H1 at s1 g1
  have lka:∀ {x:Mir.Nd} {H':Hp},x∈Mir.az W→aq H H'→∃ lx,NK.iE (Mir.eV es) x=some (.ref lx)∧NK.Ths H' lx (Mir.lkW W x)∧H lx≠none:=fun {x H'} hx s'=>by
   obtain⟨u,hu,rfl⟩:=Mir.mem_keys.mp hx
   obtain⟨b,lx,_,v,t,_⟩:=T.at O.nd hu
   rw[O.lk hu]
   exact⟨lx,v,NK.Ths.same t s',fun z=>by obtain⟨bs,q,_⟩:=t;rw[z] at q;cases q⟩
  obtain⟨l0,v0,t0,f0⟩:=lka hkw s1
  refine⟨_,rfl,_,rfl,a,e,_,k,_,rfl,rfl,(T.same s1).d,NK.K2.same hk s1,v0,?_⟩
  have P0:Mir.Path W [k]:=⟨by simp,fun v hv=>by rw[List.mem_singleton.mp hv];exact hkw,fun i a b e1 e2=>by simp at e2,fun v hv=>by rw[List.mem_singleton.mp hv];omega,fun a e1=>by cases e1;exact hd⟩
  have lp:=P0.len
  refine⟨fun m σ H2=>∃ (acc:List Mir.Nd) (p:Mir.Nd) (on:List Mir.Nd) (lon:Addr) (v4:Option V),m=W.length+1-acc.length∧σ=[some (.ref e),some (.ref a),some (.ref lg),some (.ref lon),v4]∧aq H H2∧NK.Ths H2 lg acc∧acc.getLast?=some p∧NK.Ths H2 lon on∧lon≠lg∧Mir.Path W acc∧(∀ x∈on,x∈Mir.lkW W p)∧(∀ q,2≤acc.length→acc[acc.length-2]?=some q→∀ x∈on,x≠q)∧Mir.qd W (W.length+1-acc.length) p on acc=Mir.dB W k,⟨_,[k],k,Mir.lkW W k,l0,_,rfl,rfl,s1,?_,rfl,t0,fun z=>f0 (by rw[z];exact hlg),P0,fun x h=>h,fun q h=>absurd h (by show ¬ 2≤1;decide),rfl⟩,?_⟩
  ·exact⟨[e],g1,rfl,fun i b x e1 e2=>by
    cases i with
    | zero=>cases e1;cases e2;exact NK.K2.same hk s1
    | succ i=>cases e1⟩
  ·rintro m σ H2 ⟨acc,p,on,lon,v4,rfl,rfl,s2,tg,hp,ton,Ek,PP,hon,hq,xF⟩
   have T2:=T.same s2
   obtain⟨os,o1,o2,o3⟩:=id ton
   have al:=PP.len
   have out:∀ {D:Ends},(∀ H3,aq H H3→NK.Ths H3 lg (Mir.dB W k)→D.nx [some (.ref e),some (.ref a),some (.ref lg),some (.ref lon),v4] H3)→acc=Mir.dB W k→D.nx [some (.ref e),some (.ref a),some (.ref lg),some (.ref lon),v4] H2:=fun {D} hD hc=>hD H2 s2 (by rw[← hc];exact tg)
   have fin:∀ H3,aq H H3→NK.Ths H3 lg (Mir.dB W k)→Q (.ref lg) H3:=fun H3 s3 t3=>kk lg H3 hlg s3 t3
   obtain⟨n,en⟩:∃ n,W.length+1-acc.length=n+1:=⟨W.length-acc.length,by omega⟩
   rw[en] at xF
   refine⟨_,rfl,lon,_,rfl,.inl (SqL.of o1),_,_,rfl,rfl,_,rfl,?_⟩
   cases on with
   | nil =>
    refine hV (decide_eq_false (by rw[List.length_map,o2];decide)) ?_
    refine cJ ⟨_,rfl,fin H2 s2 ?_⟩
    rw[← xF]
    exact tg
   | cons x r =>
    refine iF (decide_eq_true (by rw[List.length_map,o2];show (0:Int)<((r.length+1:Nat):Int);omega)) ?_
    have e0:os[0]?=some (os[0]'(by rw[o2];exact Nat.succ_pos _)):=List.getElem?_eq_getElem _
    generalize os[0]'(by rw[o2];exact Nat.succ_pos _)=bx at e0
    have kx:=o3 0 bx x e0 rfl
    have hxp:=hon x List.mem_cons_self
    have hxk:=(O.lkk hxp).2.1
    obtain⟨lx,vx,tx,fx⟩:=lka hxk s2
    obtain⟨xs,x1,x2,x3⟩:=id tx
    have a0:atI (os.map V.ref) 0=some (.ref bx):=aW (j:=0) (by rw[List.getElem?_map,e0];rfl)
    refine⟨_,rfl,_,rfl,lon,_,_,_,rfl,rfl,SqL.of o1,a0,a,bx,_,x,_,rfl,rfl,T2.d,kx,vx,lx,_,rfl,.inl (SqL.of x1),_,_,rfl,rfl,_,rfl,?_⟩
    by_cases c2:(Mir.lkW W x).length≤2
    ·refine iF (decide_eq_true (by rw[List.length_map,x2];omega)) ?_
     refine⟨_,fun _ _ q=>q,?_⟩
     refine⟨_,rfl,lon,_,_,_,rfl,rfl,SqL.of o1,a0,?_⟩
     obtain⟨gs,y1,y2,y3⟩:=id tg
     have ane:acc.length≠0:=fun z=>by
      rw[List.length_eq_zero_iff.mp z] at hp
      cases hp
     obtain⟨bp,eg⟩:∃ bp,gs[gs.length-1]?=some bp:=⟨_,List.getElem?_eq_getElem (show gs.length-1<gs.length by omega)⟩
     have kp:NK.K2 H2 p bp:=y3 _ bp p eg (by rw[y2,← List.getLast?_eq_getElem?];exact hp)
     have agl:atI (gs.map V.ref) (-1)=some (.ref bp):=Mir.oK (by rw[List.getLast?_map,List.getLast?_eq_getElem?,eg];rfl)
     refine⟨_,rfl,_,rfl,a,bx,_,x,_,rfl,rfl,T2.d,kx,vx,lx,rfl,⟨_,SqL.of x1⟩,fun D hD=>?_⟩
     have nDg:D≠lg:=fun z=>by rw[z,y1] at hD;cases hD
     refine a5 (K:=K) (a:=lx) (xs:=xs.map V.ref) (fun i σ H3=>∃ v:Option V,σ=[v,some (.ref lg)]∧aq H2 H3∧NK.Ths H3 D (((Mir.lkW W x).take i).filter fun l=>decide (l≠p))) ⟨none,rfl,ag hD,[],ae,rfl,fun i b k e=>by simp at e⟩ (fun i σ H3 _ ⟨_,_,s3,_⟩=>SqL.of (s3 _ _ x1)) ?_ ?_
     ·rintro i z σ H3 hz ⟨v,rfl,s3,t3⟩
      rw[List.getElem?_map] at hz
      obtain⟨b,eb,rfl⟩:=Option.map_eq_some_iff.mp hz
      have hi:i<(Mir.lkW W x).length:=by rw[← x2];exact(List.getElem?_eq_some_iff.mp eb).1
      have ey:=List.getElem?_eq_getElem hi
      generalize (Mir.lkW W x)[i]=y at ey
      have ky:=NK.K2.same (x3 i b y eb ey) s3
      have e3:((Mir.lkW W x).take (i+1)).filter (fun l=>decide (l≠p))=((Mir.lkW W x).take i).filter (fun l=>decide (l≠p))++(if y≠p then [y] else []):=by
       rw[Mir.take_snoc ey,List.filter_append,List.filter_cons,List.filter_nil]
       by_cases c:y=p
       ·rw[if_neg (by simp[c]),if_neg (fun z=>z c)]
       ·rw[if_pos (by simp[c]),if_pos c]
      refine⟨_,rfl,_,rfl,_,rfl,lg,_,_,_,rfl,rfl,SqL.of (s3 _ _ y1),agl,b,bp,y,p,rfl,rfl,ky,NK.K2.same kp s3,_,rfl,?_⟩
      by_cases c:y=p
      ·rw[decide_eq_true c]
       refine cJ ⟨_,rfl,s3,?_⟩
       rw[e3,if_neg (fun z=>z c),List.append_nil]
       exact t3
      ·rw[decide_eq_false c]
       obtain⟨ys,w1,w2,w3⟩:=t3.snoc ky
       refine gw ⟨_,rfl,ys,w1,aw (by rw[w2];exact Nat.le_trans (List.length_filter_le _ _) (by rw[List.length_take];omega)),_,rfl,s3.upd hD,?_⟩
       rw[e3,if_pos c]
       exact w3
     ·rintro σ H3 ⟨v,rfl,s3,t3⟩
      rw[List.length_map,x2,List.take_length] at t3
      obtain⟨ys,w1,w2,w3⟩:=(NK.Ths.same tg s3).snoc (NK.K2.same kx s3)
      refine⟨_,rfl,.inl ⟨rfl,_,SqL.of w1⟩,_,rfl,lg,_,_,rfl,rfl,w1,aw (by rw[w2];omega),?_⟩
      have P2:=PP.snoc O hp hxp (fun q h1 h2=>hq q h1 h2 x List.mem_cons_self) c2
      have pl:=P2.len
      rw[List.length_append,List.length_singleton] at pl
      refine⟨W.length+1-(acc++[x]).length,by rw[List.length_append,List.length_singleton];omega,acc++[x],x,_,D,_,rfl,rfl,(s2.trans s3).upd hlg,w3,List.getLast?_concat,NK.Ths.keep t3 (by rw[ao nDg]) (fun c ys e=>by rw[ao (fun z=>by rw[z,w1] at e;cases e)];exact e),nDg,P2,fun y hy=>(List.mem_filter.mp hy).1,fun q h1 h2 y hy=>?_,?_⟩
      ·rw[List.length_append,List.length_singleton,show acc.length+1-2=acc.length-1 by omega,List.getElem?_append_left (by omega),← List.getLast?_eq_getElem?,hp] at h2
       cases h2
       exact of_decide_eq_true (List.mem_filter.mp hy).2
      ·rw[← xF,List.length_append,List.length_singleton,show W.length+1-(acc.length+1)=n by omega]
       show _=(if (Mir.lkW W x).length≤2 then _ else acc)
       rw[if_pos c2]
    ·refine hV (decide_eq_false (by rw[List.length_map,x2];omega)) ⟨_,rfl,fin H2 s2 ?_⟩
     have:Mir.qd W (n+1) p (x::r) acc=acc:=by
      show (if (Mir.lkW W x).length≤2 then _ else acc)=acc
      rw[if_neg c2]
     rw[this] at xF
     rw[← xF]
     exact tg
end
section
seal L2.PSs L2.PS L2.PE L2.PT L2.PA
variable {P:Program}{w:World}{K:PySem.W.Frag}{mg:Str→Option Value}{base:Heap}
theorem oY {f f1 f2 f3 f4:Addr}{fd fd1 fd2 fd3 fd4:FuncData}(B:Bl mg)(F:Fn K mg "knot_legs" cT ["row"] f fd)(cC:Fn K mg "knots_in" dI ["row"] f1 fd1)(cS:aO P w K mg base CX0 4 f1 fd1 ["row"] Mir.kZ)
  (bK:Fn K mg "thinned_web" bX ["row"] f2 fd2) (bY:aO P w K mg base CX0 5 f2 fd2 ["row"] (Mir.oO P w)) (cY:Fn K mg "ends_of" fh ["web"] f3 fd3) (gM:Fn K mg "leg_from" fA ["end","web"] f4 fd4):aO P w K mg base CX0 6 f fd ["row"] Mir.oP:=by
 have kh:aO P w K mg base CX0 1 f3 fd3 ["web"] (Mir.rD P w):=mh B cY
 have rT:aO P w K mg base CX0 1 f4 fd4 ["end","web"] (Mir.zB P w):=qA B gM
 refine F.fn.ok eX (fun vs H Q E h=>?_) (fun cdv A outer s H vs Q E hr h=>?_)
 ·obtain⟨t,rs,rfl,_⟩:=h
  rfl
 ·obtain⟨t,rs,rfl,ht,fit,k⟩:=h
  have hu2:=hr.lt 1 (by decide)
  refine⟨_,(af (aB (i:=1) eX.nd rfl (Or.inr rfl) (aY cS cC (hr.mono (by decide)) (ab (pv 0) ai)))
   (af (aB (i:=2) eX.nd rfl (Or.inr rfl) (aY bY bK (hr.mono (by decide)) (ab (pv 0) ai)))
   (af (b7 (ix:=3) (NC:=["end","web"]) eX.nd rfl (Or.inl rfl) rfl (bC (c:=s.heap.objs.size+2) (j:=2) rfl (by decide +kernel) (by decide +kernel) rfl rfl rfl rfl rfl) (aM (aY kh cY (hr.mono (by decide)) (ab (pv 2) ai))) (fun _ _ _ _=>(aC (i:=0) (show (["end","web"]:List Str).Nodup by decide +kernel) rfl (Or.inl rfl))) (fun _ _ _ _=>cF) (fun _ _ _ _=>(aY rT gM (hr.mono (by decide)) (ab (pv 0) (ab (pv 1) ai)))))
   (au (aQ (cG (NC:=["leg","knots"]) rfl (bC (c:=s.heap.objs.size+1) (j:=1) rfl (by decide +kernel) (by decide +kernel) rfl rfl rfl rfl rfl) (aM (pv 3)) (fun _ _ _ _=>(aC (i:=0) (show (["leg","knots"]:List Str).Nodup by decide +kernel) rfl (Or.inl rfl))) (fun _ _ _ _=>cF) (fun _ _ _ _=>(aG (dO (K:=K) rfl) rfl B.len bg (ab (by exact(cG (NC:=["thing","knots"]) rfl (bC (c:=s.heap.objs.size+1) (j:=1) rfl (by decide +kernel) (by decide +kernel) rfl rfl rfl rfl rfl) (wI (K:=K) rfl (pv 0)) (fun _ _ _ _=>(aC (i:=0) (show (["thing","knots"]:List Str).Nodup by decide +kernel) rfl (Or.inl rfl))) (fun _ _ _ _=>(b6 (aE (NK.oC (hr.lt 1 (by decide))) (pv 0) (pv 1) (by with_unfolding_all rfl)))) (fun _ _ _ _=>(pv 0)))) ai))))))))),?_⟩
  obtain⟨O,Wl,hsp⟩:=Mir.k5 fit
  obtain⟨asc,kl,kr⟩:=Mir.dE fit
  refine⟨_,rfl,t,rs,rfl,ht,fit,fun lk H1 hlk s1 hK=>?_⟩
  refine⟨_,rfl,t,rs,rfl,s1 _ _ ht,fit,fun a es H2 ha s2 T=>?_⟩
  have eL:Mir.aS rs=(Mir.bP (Mir.d4 rs) (Mir.di (Mir.frm rs) (Mir.opn (Mir.frm rs) (rs.length+1)))).map fun e=>((((Mir.dB (Mir.d4 rs) (Mir.pN e)).filter fun k=>decide (k∈(Mir.di (Mir.frm rs) (Mir.opn (Mir.frm rs) (rs.length+1))).map Mir.pN)).length:Nat):Int):=rfl
  generalize Mir.di (Mir.frm rs) (Mir.opn (Mir.frm rs) (rs.length+1))=ks at hK hsp asc kl kr eL
  generalize Mir.d4 rs=W at T O Wl hsp eL
  refine⟨_,rfl,a,es,W,ks,rfl,T,O,Wl,hsp,asc,kl,kr,fun lE H3 hlE s3 tE=>?_⟩
  obtain⟨us,u1,u2,u3⟩:=id tE
  have s03:=(s1.trans s2).trans s3
  have el:(Mir.bP W ks).length≤60:=Nat.le_trans (List.length_filter_le _ _) kl
  refine⟨lE,rfl,⟨_,SqL.of u1⟩,fun D hD=>?_⟩
  refine a5 (K:=K) (a:=lE) (xs:=us.map V.ref) (fun i σ H4=>∃ (v:Option V) (ls:List Addr),σ=[v,some (.ref a)]∧aq H3 H4∧H4 D=some (.lst (ls.map V.ref))∧ls.length=i∧∀ (j:Nat) (l:Addr) (p:Int×Int),ls[j]?=some l→(Mir.bP W ks)[j]?=some p→NK.Ths H4 l (Mir.dB W (Mir.pN p))∧l≠D) ⟨none,[],rfl,ag hD,ae,rfl,fun j l p e=>by simp at e⟩ (fun i σ H4 _ ⟨_,_,_,s4,_⟩=>SqL.of (s4 _ _ u1)) ?_ ?_
  ·rintro i x σ H4 hx ⟨v,ls,rfl,s4,hD4,hl,hls⟩
   rw[List.getElem?_map] at hx
   obtain⟨b,eb,rfl⟩:=Option.map_eq_some_iff.mp hx
   have hi:i<(Mir.bP W ks).length:=by rw[← u2];exact(List.getElem?_eq_some_iff.mp eb).1
   have ep:=List.getElem?_eq_getElem hi
   generalize (Mir.bP W ks)[i]=p at ep
   have hp:=s4 _ _ (u3 i b p eb ep)
   have hpm:=List.mem_of_getElem? ep
   have hpe:Mir.pN p∈Mir.az W∧(Mir.lkW W (Mir.pN p)).length≤1:=by
    have:=(List.mem_filter.mp hpm).2
    rw[Bool.and_eq_true,decide_eq_true_iff,decide_eq_true_iff] at this
    exact this
   refine jW ?_
   refine⟨_,rfl,_,rfl,b,a,es,W,Mir.pN p,rfl,T.same (s3.trans s4),O,Wl,NK.K2.pair hp,hpe.1,hpe.2,fun r H5 hr5 s5 tl=>?_⟩
   have nrD:r≠D:=fun z=>by rw[z,hD4] at hr5;cases hr5
   have gk:∀ c ys,H5 c=some (.tup ys)→upd H5 D (.lst (ls.map V.ref++[.ref r])) c=some (.tup ys):=fun c ys e=>by
    rw[ao (fun z=>by rw[z,s5 _ _ hD4] at e;cases e)]
    exact e
   refine⟨_,s5 _ _ hD4,aw (by rw[List.length_map];omega),_,ls++[r],rfl,(s4.trans s5).upd hD,by rw[ae,List.map_append];rfl,by rw[List.length_append,hl];rfl,fun j l q e1 e2=>?_⟩
   by_cases c:j<ls.length
   ·rw[List.getElem?_append_left c] at e1
    obtain⟨t1,t2⟩:=hls j l q e1 e2
    exact⟨NK.Ths.keep (NK.Ths.same t1 s5) (by rw[ao t2]) gk,t2⟩
   ·have hj:=(List.getElem?_eq_some_iff.mp e1).1
    rw[List.length_append,List.length_singleton] at hj
    have ej:j=ls.length:=by omega
    subst ej
    rw[List.getElem?_append_right (Nat.le_refl _),Nat.sub_self] at e1
    rw[hl,ep] at e2
    cases e1
    cases e2
    exact⟨NK.Ths.keep tl (by rw[ao nrD]) gk,nrD⟩
  ·rintro σ H4 ⟨v,ls,rfl,s4,hD4,hl,hls⟩
   rw[List.length_map,u2] at hl
   have hK4:=hK.same ((s2.trans s3).trans s4)
   refine⟨_,rfl,D,rfl,⟨_,SqL.of hD4⟩,fun R hR=>?_⟩
   refine a5 (K:=K) (a:=D) (xs:=ls.map V.ref) (fun i σ H5=>∃ v:Option V,σ=[v,some (.ref lk)]∧aq H4 H5∧H5 R=some (.lst (Mir.iV ((Mir.aS rs).take i)))) ⟨none,rfl,ag hR,ae⟩ (fun i σ H5 _ ⟨_,_,s5,_⟩=>SqL.of (s5 _ _ hD4)) ?_ ?_
   ·rintro i x σ H5 hx ⟨v,rfl,s5,hR5⟩
    rw[List.getElem?_map] at hx
    obtain⟨l,el',rfl⟩:=Option.map_eq_some_iff.mp hx
    have hi:i<(Mir.bP W ks).length:=by rw[← hl];exact(List.getElem?_eq_some_iff.mp el').1
    have ep:=List.getElem?_eq_getElem hi
    generalize (Mir.bP W ks)[i]=p at ep
    have tl:=NK.Ths.same (hls i l p el' ep).1 s5
    obtain⟨bs,b1,b2,b3⟩:=id tl
    refine jW ?_
    refine⟨_,rfl,l,rfl,⟨_,SqL.of b1⟩,fun D2 hD2=>?_⟩
    refine a5 (K:=K) (a:=l) (xs:=bs.map V.ref) (fun j σ H6=>∃ v:Option V,σ=[v,some (.ref lk)]∧aq H5 H6∧NK.Ths H6 D2 (((Mir.dB W (Mir.pN p)).take j).filter fun k=>decide (k∈ks.map Mir.pN))) ⟨none,rfl,ag hD2,[],ae,rfl,fun i b k e=>by simp at e⟩ (fun j σ H6 _ ⟨_,_,s6,_⟩=>SqL.of (s6 _ _ b1)) ?_ ?_
    ·rintro j y σ H6 hy ⟨v,rfl,s6,t6⟩
     rw[List.getElem?_map] at hy
     obtain⟨b,eb,rfl⟩:=Option.map_eq_some_iff.mp hy
     have hj:j<(Mir.dB W (Mir.pN p)).length:=by rw[← b2];exact(List.getElem?_eq_some_iff.mp eb).1
     have ez:=List.getElem?_eq_getElem hj
     generalize (Mir.dB W (Mir.pN p))[j]=z at ez
     have kz:=NK.K2.same (b3 j b z eb ez) s6
     have bl:=Mir.uJ W (Mir.pN p)
     have e3:((Mir.dB W (Mir.pN p)).take (j+1)).filter (fun k=>decide (k∈ks.map Mir.pN))=((Mir.dB W (Mir.pN p)).take j).filter (fun k=>decide (k∈ks.map Mir.pN))++(if z∈ks.map Mir.pN then [z] else []):=by
      rw[Mir.take_snoc ez,List.filter_append,List.filter_cons,List.filter_nil]
      by_cases c:z∈ks.map Mir.pN
      ·rw[if_pos (decide_eq_true c),if_pos c]
      ·rw[if_neg (by rw[decide_eq_false c];decide),if_neg c]
     refine⟨_,rfl,_,rfl,b,lk,z,_,rfl,rfl,kz,NK.Ths.same (hK4.same s5).ths s6,_,rfl,?_⟩
     by_cases c:z∈ks.map Mir.pN
     ·rw[decide_eq_true c]
      obtain⟨ys,w1,w2,w3⟩:=t6.snoc kz
      refine gw ⟨_,rfl,ys,w1,aw (by rw[w2];exact Nat.le_trans (List.length_filter_le _ _) (by rw[List.length_take];omega)),_,rfl,s6.upd hD2,?_⟩
      rw[e3,if_pos c]
      exact w3
     ·rw[decide_eq_false c]
      refine cJ ⟨_,rfl,s6,?_⟩
      rw[e3,if_neg c,List.append_nil]
      exact t6
    ·rintro σ H6 ⟨v,rfl,s6,t6⟩
     rw[List.length_map,b2,List.take_length] at t6
     obtain⟨vs,v1,v2⟩:=t6.len
     have ll:(Mir.aS rs).length=(Mir.bP W ks).length:=by rw[eL,List.length_map]
     refine⟨D2,_,rfl,.inl (SqL.of v1),_,s6 _ _ hR5,aw (by rw[Mir.aK,List.length_take];omega),_,rfl,(s5.trans s6).upd hR,?_⟩
     have e9:(Mir.aS rs)[i]?=some ((((Mir.dB W (Mir.pN p)).filter fun k=>decide (k∈ks.map Mir.pN)).length:Nat):Int):=by rw[eL,List.getElem?_map,ep];rfl
     rw[ae,Mir.take_snoc e9,v2]
     unfold Mir.iV
     rw[List.map_append]
     rfl
   ·rintro σ H5 ⟨v,rfl,s5,hR5⟩
    have ll:(Mir.aS rs).length=(Mir.bP W ks).length:=by rw[eL,List.length_map]
    rw[List.length_map,hl,← ll,List.take_length] at hR5
    exact k R H5 ((s03.trans s4).free hR) ((s03.trans s4).trans s5) hR5
end
section
variable {P:Program}{w:World}{K:PySem.W.Frag}{mg:Str→Option Value}{base:Heap}
theorem ic {f:Addr}{fd:FuncData}(B:Bl mg)(F:Fn K mg "_law_cell_at" cM ["script","k"] f fd):aO P w K mg base CX0 1 f fd ["script","k"] (Mir.lu K):=by
 refine F.fn.ok ma (fun vs H Q E h=>?_) (fun cdv A outer s H vs Q E hr h=>?_)
 ·obtain⟨a,ns,k,rfl,_⟩:=h
  rfl
 ·obtain⟨a,ns,k,rfl,hS,q⟩:=h
  refine⟨_,af (bT (aE fW (pv 1) (aG aF rfl B.len bg (ab (pv 0) ai)) (aI _)) (au (aQ (aR a9 (pv 0) (pv 1) (fun _ _=>rfl)))) a8) (au (aQ aj)),?_⟩
  refine⟨_,rfl,_,rfl,a,_,rfl,.inl hS,_,_,rfl,rfl,_,rfl,?_⟩
  refine fR (fun h1=>?_) (fun h1=>?_)
  ·have h1:=of_decide_eq_true h1
   rw[List.length_map] at h1
   have hk:k<ns.length:=by omega
   have e:(ns.map V.int)[k]?=some (.int ns[k]):=by rw[List.getElem?_map,List.getElem?_eq_getElem hk];rfl
   exact⟨_,rfl,_,rfl,a,_,_,_,rfl,rfl,hS,aW e,q _⟩
  ·exact q 0
end
section
variable {P:Program}{w:World}{K:PySem.W.Frag}{mg:Str→Option Value}{base:Heap}
theorem i7 {f fC:Addr}{fd fdC:FuncData}(B:Bl mg)(F:Fn K mg "_law_row_of_kins" b9 ["script","at","many"] f fd)(bZ:Fn K mg "_law_cell_at" cM ["script","k"] fC fdC):aO P w K mg base CX0 2 f fd ["script","at","many"] (Mir.kD K):=by
 have fU:aO P w K mg base CX0 1 fC fdC ["script","k"] (Mir.lu K):=ic B bZ
 refine F.fn.ok aL (fun vs H Q E h=>?_) (fun cdv A outer s H vs Q E hr h=>?_)
 ·obtain⟨a,ns,at',many,rfl,_⟩:=h
  rfl
 ·obtain⟨a,ns,at',many,rfl,hS,hm,k⟩:=h
  let Pv:Nat→St→Hp→Prop:=fun i σ H2=>∃ (l:Addr) (rs:List Int) (v4 v5 v6 v7:Option V),σ=[some (.ref a),some (.int at'),some (.int many),some (.ref l),v4,v5,v6,v7]∧aq H H2∧H l=none∧H2 l=some (.lst (Mir.iV rs))∧rs.length=i∧Mir.Rw rs
  let R1:TS:=fun D σ H2=>∃ (i:Nat) (l:Addr) (rs:List Int) (c:Int) (v6 v7:Option V),σ=[some (.ref a),some (.int at'),some (.int many),some (.ref l),some (.int i),some (.int c),v6,v7]∧i<many∧aq H H2∧H l=none∧H2 l=some (.lst (Mir.iV rs))∧rs.length=i∧Mir.Rw rs∧∀ σ' H',Pv (i+1) σ' H'→D.nx σ' H'
  let R2:TS:=fun D σ H2=>∃ (i f:Nat) (l q:Addr) (rs ss:List Int) (c:Int),σ=[some (.ref a),some (.int at'),some (.int many),some (.ref l),some (.int i),some (.int c),some (.int f),some (.ref q)]∧i<many∧aq H H2∧H2 l=some (.lst (Mir.iV rs))∧H2 q=some (.lst (Mir.iV ss))∧rs.length=i+1∧f≤i+1∧(Mir.a6 ss).Perm (Mir.a6 (rs.drop f))∧Mir.Rw rs∧∀ σ' H',Pv (i+1) σ' H'→D.nx σ' H'
  have inj:∀ {x y:Int},decide (V.int x=V.int y)=true→x=y:=fun h=>by injection of_decide_eq_true h
  refine⟨_,(af (aB (i:=3) aL.nd rfl (Or.inl rfl) (bc ai))
   (af (bq PassesOwn.never rfl (fV rfl B.range (ab (pv 2) ai)) (aC (i:=4) aL.nd rfl (Or.inl rfl)) (af (aB (i:=5) aL.nd rfl (Or.inl rfl) (aD bM (aY fU bZ (hr.mono (by decide)) (ab (pv 0) (ab (aD aX (pv 1) (pv 4)) ai))) (aD uZ aj aj)))
   (af (bT (PW.pt (fi (aE eP (aD bM (aD dM (pv 5) aj) aj) aj (aI _)) (eS (aE ki (aG aF rfl B.len bg (ab (pv 3) ai)) aj (aI _))))) (au (aB (i:=3) aL.nd rfl (Or.inl rfl) (aD eG (cq c9 (pv 3) (c8 aj) c7) (bc (ab (aR a9 (pv 3) aj (fun _ _=>rfl)) ai))))) a8)
   (eI (R:=R1) fun D σ H2 hR=>?rest))))
   (au (aQ (bN cu rfl B.tuple gW (ab (pv 3) ai)))))),?_⟩
  case rest =>
   obtain⟨i,l,rs,c,v6,v7,rfl,hi,s2,hln,hl,hrl,hw,hD⟩:=hR
   refine⟨_,(af (b5 (fj PySem.F.plainAttrs_list PySem.F.slot_list_append PySem.F.type_list_append bE (pv 3) (ab (aD aX (pv 4) aj) ai)))
   (au (bT (aE ki (aD bM (pv 5) aj) aj (aI _)) (af (aB (i:=6) aL.nd rfl (Or.inl rfl) (aG (mP rfl) rfl B.max vW (ab aj (ab (aD iO (aD iO (aG aF rfl B.len bg (ab (pv 3) ai)) aj) (aD bM (aD dM (pv 5) aj) aj)) ai))))
   (af (aB (i:=7) aL.nd rfl (Or.inl rfl) (cq c9 (pv 3) (c8 (pv 6)) c7))
   (eI (R:=R2) fun D σ H2 hR=>?rest2))) a8))),?_⟩
   case rest2 =>
    obtain⟨i,f,l,q,rs,ss,c,rfl,hi,s2,hl,hq,hrl,hf,hp,hw,hD⟩:=hR
    refine⟨_,(af (bT (aE eP (aD bM (pv 5) aj) aj (aI _)) (au (aB (i:=7) aL.nd rfl (Or.inl rfl) (ou rfl rfl B.list rfl B.reversed (ab (pv 7) ai)))) a8)
   (eI (R:=R2) fun D σ H2 hR=>?rest3)),?_⟩
    case rest3 =>
     obtain⟨i,f,l,q,rs,ss,c,rfl,hi,s2,hl,hq,hrl,hf,hp,hw,hD⟩:=hR
     refine⟨_,(af (bT (aE eP (aD bM (pv 5) aj) aj (aI _)) (au (b7 (ix:=7) (NC:=["number"]) aL.nd rfl (Or.inl rfl) rfl (gz rfl (by decide +kernel) (by decide +kernel)) (Ao rfl B.reversed (ab (pv 7) ai)) (fun _ _ _ _=>(aC (i:=0) (show (["number"]:List Str).Nodup by decide +kernel) rfl (Or.inl rfl))) (fun _ _ _ _=>cF) (fun _ _ _ _=>(aD iO aj (pv 0))))) a8)
   (eI (R:=R2) fun D σ H2 hR=>?rest4)),?_⟩
     case rest4 =>
      obtain⟨i,f,l,q,rs,ss,c,rfl,hi,s2,hl,hq,hrl,hf,hp,hw,hD⟩:=hR
      refine⟨_,(au (aB (i:=3) aL.nd rfl (Or.inl rfl) (aD eG (cq c9 (pv 3) c7 (c8 (pv 6))) (pv 7)))),?_⟩
      have ivl:(Mir.iV rs).length=rs.length:=Mir.aK rs
      refine⟨_,rfl,_,rfl,_,rfl,l,_,rfl,SqL.of hl,fun p hp1=>?_⟩
      rw[Mir.jZ (by rw[ivl];omega)]
      have s3:aq H2 (upd H2 p (.lst ((Mir.iV rs).take f))):=ag hp1
      have hlen:ss.length=i+1-f:=by
       have:=hp.length_eq
       rw[Mir.de,Mir.de,List.length_drop] at this
       omega
      refine⟨_,rfl,p,q,_,_,rfl,rfl,ae,s3 _ _ hq,Nat.le_of_lt (aw (by rw[List.length_take,Mir.aK,Mir.aK];omega)),fun p2 hp2=>?_⟩
      have e:(Mir.iV rs).take f++Mir.iV ss=Mir.iV (rs.take f++ss):=by rw[Mir.eQ];unfold Mir.iV;rw[List.map_take]
      refine hD _ _ ⟨p2,rs.take f++ss,_,_,_,_,rfl,(s2.trans s3).trans (ag hp2),(s2.trans s3).free hp2,by rw[ae,e],?_,hw.tail f hp⟩
      rw[List.length_append,List.length_take,hlen]
      omega
     refine⟨_,rfl,_,_,rfl,rfl,(by show (0:Int)<4;decide),rfl,_,rfl,?_⟩
     refine fR (fun h1=>?_) (fun h1=>?_)
     ·refine⟨_,rfl,q,_,rfl,SqL.of hq,fun D2 hD2=>vE (K:=K) (a:=q) (xs:=Mir.iV ss) (fun j σ H3=>∃ v:Option V,σ=[v]∧aq H2 H3∧H3 D2=some (.lst (Mir.iV ((ss.reverse.take j).map fun x=>0-x)))) ⟨none,rfl,ag hD2,ae⟩ (fun j σ H3 _ ⟨_,_,s3,_⟩=>SqL.of (s3 _ _ hq)) ?_ ?_⟩
      ·rintro j y σ H3 hy ⟨v,rfl,s3,h3⟩
       have e:(Mir.iV ss).reverse=Mir.iV ss.reverse:=by unfold Mir.iV;rw[List.map_reverse]
       rw[e] at hy
       obtain⟨x,hx,rfl⟩:=Mir.gA hy
       have hlen:ss.length=i+1-f:=by
        have:=hp.length_eq
        rw[Mir.de,Mir.de,List.length_drop] at this
        omega
       refine jW ?_
       refine⟨_,rfl,_,_,rfl,rfl,_,h3,aw (by rw[Mir.aK,List.length_map,List.length_take,List.length_reverse];omega),_,rfl,s3.upd hD2,?_⟩
       rw[ae,Mir.take_snoc hx,List.map_append,Mir.eQ]
       rfl
      ·rintro σ H3 ⟨v,rfl,s3,h3⟩
       have e:ss.reverse.take (Mir.iV ss).length=ss.reverse:=List.take_of_length_le (by rw[Mir.aK,List.length_reverse];exact Nat.le_refl _)
       rw[e] at h3
       exact⟨i,f,l,D2,rs,_,c,rfl,hi,s2.trans s3,s3 _ _ hl,h3,hrl,hf,(Mir.pS ss).trans hp,hw,hD⟩
     ·exact⟨i,f,l,q,rs,ss,c,rfl,hi,s2,hl,hq,hrl,hf,hp,hw,hD⟩
    refine⟨_,rfl,_,_,rfl,rfl,(by show (0:Int)<4;decide),rfl,_,rfl,?_⟩
    refine fR (fun h1=>?_) (fun h1=>?_)
    ·refine⟨_,rfl,q,_,rfl,SqL.of hq,fun r hr2=>?_⟩
     have s3:aq H2 (upd H2 r (.lst (Mir.iV ss).reverse)):=ag hr2
     refine⟨i,f,l,r,rs,ss.reverse,c,rfl,hi,s2.trans s3,s3 _ _ hl,by rw[ae];unfold Mir.iV;rw[List.map_reverse],hrl,hf,(Mir.pR ss).trans hp,hw,hD⟩
    ·exact⟨i,f,l,q,rs,ss,c,rfl,hi,s2,hl,hq,hrl,hf,hp,hw,hD⟩
   have hw2:=hw.snoc
   rw[hrl] at hw2
   have e1:Mir.iV rs++[V.int ((i:Int)+1)]=Mir.iV (rs++[(i:Int)+1]):=by rw[Mir.eQ];rfl
   refine⟨_,rfl,.inl ⟨rfl,_,SqL.of hl⟩,_,rfl,_,_,rfl,rfl,l,_,_,rfl,rfl,hl,aw (by rw[Mir.aK];omega),?_⟩
   rw[e1]
   have s3:aq H (upd H2 l (.lst (Mir.iV (rs++[(i:Int)+1])))):=s2.upd hln
   have hl3:upd H2 l (.lst (Mir.iV (rs++[(i:Int)+1]))) l=some (.lst (Mir.iV (rs++[(i:Int)+1]))):=ae
   generalize upd H2 l (.lst (Mir.iV (rs++[(i:Int)+1])))=H3 at s3 hl3 ⊢
   have rl:(rs++[(i:Int)+1]).length=i+1:=by rw[List.length_append,hrl];rfl
   generalize rs++[(i:Int)+1]=rs2 at hw2 hl3 rl
   have ivl:(((Mir.iV rs2).length:Nat):Int)=(i:Int)+1:=by rw[Mir.aK,rl];omega
   refine⟨_,rfl,_,_,rfl,rfl,(by show (0:Int)<4;decide),_,_,rfl,rfl,_,rfl,?_⟩
   refine fR (fun h1=>?_) (fun h1=>?_)
   ·have g0:0≤c/12%4:=Int.emod_nonneg _ (by decide)
    obtain⟨f,hf,hf2⟩:∃ f:Nat,(if ((Mir.iV rs2).length:Int)-1-c/12%4>0 then ((Mir.iV rs2).length:Int)-1-c/12%4 else 0)=f∧f≤i+1:=by
     refine⟨(if ((Mir.iV rs2).length:Int)-1-c/12%4>0 then ((Mir.iV rs2).length:Int)-1-c/12%4 else 0).toNat,?_,?_⟩ <;> rw[ivl] <;> split <;> omega
    refine⟨_,rfl,l,_,rfl,.inl (SqL.of hl3),_,_,rfl,rfl,_,rfl,_,_,rfl,rfl,⟨by decide,by decide⟩,_,_,rfl,rfl,(by show (0:Int)<4;decide),_,_,rfl,rfl,_,_,rfl,?_⟩
    dsimp only
    rw[hf]
    refine⟨_,rfl,_,rfl,_,rfl,l,_,rfl,SqL.of hl3,fun q hq=>?_⟩
    rw[Mir.jm (by rw[Mir.aK];omega)]
    have s4:aq H3 (upd H3 q (.lst ((Mir.iV rs2).drop f))):=ag hq
    exact⟨i,f,l,q,rs2,rs2.drop f,c,rfl,hi,s3.trans s4,s4 _ _ hl3,by rw[ae];unfold Mir.iV;rw[List.map_drop],rl,hf2,List.Perm.refl _,hw2,hD⟩
   ·exact hD _ _ ⟨l,rs2,_,_,_,_,rfl,s3,hln,hl3,rl,hw2⟩
  refine⟨by show 0≤sizeLine;decide,fun l0 hl0=>?_⟩
  have s0:aq H (upd H l0 (.lst [])):=ag hl0
  refine⟨_,rfl,_,rfl,by omega,by omega,eZ (lo:=0) (n:=((many:Nat):Int).toNat) Pv ⟨l0,[],none,none,none,none,rfl,s0,hl0,ae,rfl,List.Perm.refl _⟩ ?_ ?_⟩
  ·rintro i σ H2 hi ⟨l,rs,v4,v5,v6,v7,rfl,s2,hln,hl,hrl,hw⟩
   have hi':i<many:=by omega
   rw[Int.zero_add]
   have p12:(0:Int)<10 ^ (12:Int).toNat:=by decide +kernel
   have Cb:(((Mir.iV rs).length:Nat):Int)=i:=by rw[Mir.aK,hrl]
   have ea:(at':Int)+(i:Int)=((at'+i:Nat):Int):=by omega
   refine⟨_,rfl,_,rfl,_,rfl,_,_,rfl,rfl,a,ns,at'+i,(by show [V.ref a,V.int ((at':Int)+(i:Int))]=_;rw[ea]),s2.seq hS,fun c=>?_⟩
   refine⟨_,_,rfl,rfl,⟨by decide,by decide,by decide⟩,_,_,rfl,rfl,p12,?_⟩
   dsimp only
   generalize c%10 ^ (12:Int).toNat=d
   refine⟨_,rfl,_,_,rfl,rfl,⟨by decide,by decide⟩,_,_,rfl,rfl,(by show (0:Int)<3;decide),rfl,_,rfl,?_⟩
   refine fR (fun h1=>?_) (fun h1=>?_)
   ·refine⟨_,rfl,l,_,rfl,.inl (SqL.of hl),_,_,rfl,rfl,_,rfl,?_⟩
    refine fR (fun h2=>?_) (fun h2=>?_)
    ·have h2:=of_decide_eq_true h2
     rw[Cb] at h2
     have r0:rs[0]?=some (rs.getD 0 0):=Mir.getD_get (by omega)
     refine⟨_,rfl,_,rfl,l,_,rfl,SqL.of hl,fun p hp=>?_⟩
     have ec:jd (Mir.iV rs) (some 1) none=(Mir.iV rs).drop 1:=Mir.jm (k:=1) (by rw[Mir.aK];omega)
     rw[ec]
     have s3:aq H2 (upd H2 p (.lst ((Mir.iV rs).drop 1))):=ag hp
     have hp3:upd H2 p (.lst ((Mir.iV rs).drop 1)) p=some (.lst ((Mir.iV rs).drop 1)):=ae
     generalize upd H2 p (.lst ((Mir.iV rs).drop 1))=H3 at s3 hp3 ⊢
     refine⟨_,rfl,l,_,_,_,rfl,rfl,SqL.of (s3 _ _ hl),(show atI (Mir.iV rs) 0=some (.int (rs.getD 0 0)) from aW (j:=0) (Mir.dg (by omega))),by show 1≤sizeLine;decide,fun q hq=>?_⟩
     have s4:aq H3 (upd H3 q (.lst [.int (rs.getD 0 0)])):=ag hq
     refine⟨p,q,_,_,rfl,rfl,s4 _ _ hp3,ae,Nat.le_of_lt (aw (by rw[List.length_drop,Mir.aK];show _+1≤1000;omega)),fun r hr2=>?_⟩
     have e:(Mir.iV rs).drop 1++[V.int (rs.getD 0 0)]=Mir.iV (rs.drop 1++[rs.getD 0 0]):=by rw[Mir.eQ];unfold Mir.iV;rw[List.map_drop];rfl
     have s24:=(s2.trans s3).trans s4
     refine⟨i,r,rs.drop 1++[rs.getD 0 0],d,_,_,rfl,hi',s24.trans (ag hr2),s24.free hr2,by rw[ae,e],?_,hw.rot r0,fun σ' H' h=>h⟩
     rw[List.length_append,List.length_drop]
     show _+1=_
     omega
    ·exact⟨i,l,rs,d,_,_,rfl,hi',s2,hln,hl,hrl,hw,fun σ' H' h=>h⟩
   ·exact cJ ⟨i,l,rs,d,_,_,rfl,hi',s2,hln,hl,hrl,hw,fun σ' H' h=>h⟩
  ·rintro σ H2 ⟨l,rs,v4,v5,v6,v7,rfl,s2,hln,hl,hrl,hw⟩
   have hrl:rs.length=many:=by omega
   exact⟨_,rfl,l,_,rfl,.inl hl,fun t H3 s3 ht=>k t H3 rs (s2.trans s3) ht hrl (hw.fit (by omega))⟩
end
section
variable {P:Program}{w:World}{K:PySem.W.Frag}{mg:Str→Option Value}{base:Heap}
theorem kR {f:Addr}{fd:FuncData}(B:Bl mg)(F:Fn K mg "_law_inflated" dm ["script","at","room"] f fd):aO P w K mg base CX0 1 f fd ["script","at","room"] (Mir.lH K):=by
 refine F.fn.ok aJ (fun vs H Q E h=>?_) (fun cdv A outer s H vs Q E hr h=>?_)
 ·obtain⟨a,ns,at',room,rfl,_⟩:=h
  rfl
 ·obtain⟨a,ns,at',room,rfl,hS,hlen,hat,hm,k⟩:=h
  let Pv:Nat→St→Hp→Prop:=fun i σ H2=>∃ (l:Addr) (rs:List Int) (v4 v5 v6 v7 v8:Option V),σ=[some (.ref a),some (.int at'),some (.int room),some (.ref l),v4,v5,v6,v7,v8,none]∧aq H H2∧H2 l=some (.lst (Mir.iV rs))∧rs.Perm (Mir.df rs.length)∧4≤rs.length∧rs.length<max room 5
  let R2:TS:=fun D σ H2=>∃ (l q:Addr) (rs inner:List Int) (spot:Nat) (low c:Int) (v4:Option V),σ=[some (.ref a),some (.int at'),some (.int room),some (.ref l),v4,some (.int c),some (.int spot),some (.int low),some (.ref q),none]∧aq H H2∧H2 l=some (.lst (Mir.iV (rs.map (Mir.shf low))))∧H2 q=some (.lst (Mir.iV inner))∧inner.length=4∧inner.Perm [low,low+1,low+2,low+3]∧rs[spot]?=some low∧rs.Perm (Mir.df rs.length)∧4≤rs.length∧rs.length+3<room∧∀ i σ' H',Pv i σ' H'→D.nx σ' H'
  have ivn:(ns.map V.int).length=ns.length:=List.length_map _
  have gS:∀ i:Nat,i<((ns.length:Int)-(at':Int)).toNat→(ns.map V.int)[at'+i]?=some (.int (ns.getD (at'+i) 0)):=fun i hi=>Mir.dg (rs:=ns) (by omega)
  refine⟨_,(af (aB (i:=3) aJ.nd rfl (Or.inl rfl) (bc (ab aj (ab aj (ab aj (ab aj ai))))))
   (af (bq PassesOwn.never rfl (ij rfl B.range (ab (pv 1) (ab (aG aF rfl B.len bg (ab (pv 0) ai)) ai))) (aC (i:=4) aJ.nd rfl (Or.inl rfl)) (af (aB (i:=5) aJ.nd rfl (Or.inl rfl) (aD bM (aR a9 (pv 0) (pv 4) (fun _ _=>rfl)) (aD uZ aj aj)))
   (au (bT (aE fW (aD aX (aG aF rfl B.len bg (ab (pv 3) ai)) aj) (pv 2) (aI _)) (af (aB (i:=6) aJ.nd rfl (Or.inl rfl) (aD bM (aD dM (pv 5) aj) (aG aF rfl B.len bg (ab (pv 3) ai))))
   (af (aB (i:=7) aJ.nd rfl (Or.inr rfl) (aR a9 (pv 3) (pv 6) (fun _ _=>rfl)))
   (af (b7 (ix:=3) (NC:=["number","low"]) aJ.nd rfl (Or.inl rfl) rfl (bC (c:=s.heap.objs.size+1) (j:=7) rfl (by decide +kernel) (by decide +kernel) rfl rfl rfl rfl rfl) (aM (pv 3)) (fun _ _ _ _=>(aC (i:=0) (show (["number","low"]:List Str).Nodup by decide +kernel) rfl (Or.inl rfl))) (fun _ _ _ _=>cF) (fun _ _ _ _=>(aD aX (pv 0) (aD qJ aj (bN jT rfl B.int om (ab (il ki (pv 0) (pv 1) (aI _)) ai))))))
   (af (aB (i:=8) aJ.nd rfl (Or.inl rfl) (bc (ab (pv 7) (ab (aD aX (pv 7) aj) (ab (aD aX (pv 7) aj) (ab (aD aX (pv 7) aj) ai))))))
   (eI (R:=R2) fun D σ H2 hR=>?rest))))) a8))))
   (af (b7 (ix:=9) (NC:=["number"]) aJ.nd rfl (Or.inl rfl) rfl (gz rfl (by decide +kernel) (by decide +kernel)) (aM (pv 3)) (fun _ _ _ _=>(aC (i:=0) (show (["number"]:List Str).Nodup by decide +kernel) rfl (Or.inl rfl))) (fun _ _ _ _=>cF) (fun _ _ _ _=>(aD aX (pv 0) aj)))
   (af (bq PassesOwn.never rfl (ij rfl B.range (ab (pv 1) (ab (aG aF rfl B.len bg (ab (pv 0) ai)) ai))) (aC (i:=4) aJ.nd rfl (Or.inl rfl)) (af (aB (i:=6) aJ.nd rfl (Or.inl rfl) (aD bM (aD dM (aR a9 (pv 0) (pv 4) (fun _ _=>rfl)) aj) aj))
   (au (bT (PW.pt (fi (aE eP (aD bM (aR a9 (pv 0) (pv 4) (fun _ _=>rfl)) aj) aj (aI _)) (eS (aE fW (pv 6) (aG aF rfl B.len bg (ab (pv 3) ai)) (aI _))))) (au (zR (aD iO aj (aR a9 (pv 9) (pv 6) (fun _ _=>rfl))) (zP (pv 9) (pv 6) set_list))) a8))))
   (au (aQ (bN cu rfl B.tuple gW (ab (pv 9) ai)))))))),?_⟩
  case rest =>
   obtain⟨l,q,rs,inner,spot,low,c,v4,rfl,s2,hl,hq,hil,hip,hsp,hp,h4,hrm,hD⟩:=hR
   refine⟨_,(af (bT (aE eP (aD bM (pv 5) aj) aj (aI _)) (au (aB (i:=8) aJ.nd rfl (Or.inl rfl) (bc (ab (pv 7) (ab (aD aX (pv 7) aj) (ab (aD aX (pv 7) aj) (ab (aD aX (pv 7) aj) ai))))))) a8)
   (eI (R:=R2) fun D σ H2 hR=>?rest2)),?_⟩
   case rest2 =>
    obtain⟨l,q,rs,inner,spot,low,c,v4,rfl,s2,hl,hq,hil,hip,hsp,hp,h4,hrm,hD⟩:=hR
    refine⟨_,(au (aB (i:=3) aJ.nd rfl (Or.inl rfl) (aD eG (aD eG (cq c9 (pv 3) c7 (c8 (pv 6))) (pv 8)) (cq c9 (pv 3) (c8 (aD aX (pv 6) aj)) c7)))),?_⟩
    have hsl:=(List.getElem?_eq_some_iff.mp hsp).1
    have P4:=Mir.BX hp hsp hip
    have ml:(rs.map (Mir.shf low)).length=rs.length:=List.length_map _
    generalize rs.map (Mir.shf low)=ms at hl P4 ml
    have ivl:(Mir.iV ms).length=rs.length:=by rw[Mir.aK,ml]
    refine⟨_,rfl,_,rfl,_,rfl,l,_,rfl,SqL.of hl,fun p1 hp1=>?_⟩
    rw[Mir.jZ (by rw[ivl];omega)]
    have s3:aq H2 (upd H2 p1 (.lst ((Mir.iV ms).take spot))):=ag hp1
    have h3:upd H2 p1 (.lst ((Mir.iV ms).take spot)) p1=some (.lst ((Mir.iV ms).take spot)):=ae
    generalize upd H2 p1 (.lst ((Mir.iV ms).take spot))=H3 at s3 h3 ⊢
    have tl:((Mir.iV ms).take spot).length≤41:=by rw[List.length_take,ivl];omega
    refine⟨_,rfl,p1,q,_,_,rfl,rfl,h3,s3 _ _ hq,Nat.le_of_lt (aw (by rw[Mir.aK];omega)),fun p2 hp2=>?_⟩
    have s4:aq H3 (upd H3 p2 (.lst ((Mir.iV ms).take spot++Mir.iV inner))):=ag hp2
    have h4':upd H3 p2 (.lst ((Mir.iV ms).take spot++Mir.iV inner)) p2=some (.lst ((Mir.iV ms).take spot++Mir.iV inner)):=ae
    generalize upd H3 p2 (.lst ((Mir.iV ms).take spot++Mir.iV inner))=H4 at s4 h4' ⊢
    have s24:=s3.trans s4
    have e1:(spot:Int)+1=((spot+1:Nat):Int):=by omega
    refine⟨_,rfl,_,rfl,_,_,rfl,rfl,_,rfl,l,_,rfl,SqL.of (s24 _ _ hl),fun p3 hp3=>?_⟩
    dsimp only
    rw[e1,Mir.jm (by rw[ivl];omega)]
    have s5:aq H4 (upd H4 p3 (.lst ((Mir.iV ms).drop (spot+1)))):=ag hp3
    refine⟨p2,p3,_,_,rfl,rfl,s5 _ _ h4',ae,Nat.le_of_lt (aw (by rw[List.length_append,List.length_drop,Mir.aK inner,ivl];omega)),fun p4 hp4=>?_⟩
    have e2:(Mir.iV ms).take spot++Mir.iV inner++(Mir.iV ms).drop (spot+1)=Mir.iV (ms.take spot++inner++ms.drop (spot+1)):=by
     rw[Mir.eQ,Mir.eQ]
     unfold Mir.iV
     rw[List.map_take,List.map_drop]
    have el:(ms.take spot++inner++ms.drop (spot+1)).length=rs.length+3:=by rw[List.length_append,List.length_append,List.length_take,List.length_drop,ml,hil];omega
    refine hD 0 _ _ ⟨p4,ms.take spot++inner++ms.drop (spot+1),_,_,_,_,_,rfl,(((s2.trans s24).trans s5)).trans (ag hp4),by rw[ae,e2],by rw[el];exact P4,by omega,by omega⟩
   refine⟨_,rfl,_,_,rfl,rfl,(by show (0:Int)<4;decide),rfl,_,rfl,?_⟩
   refine fR (fun h1=>?_) (fun h1=>?_)
   ·refine⟨_,rfl,_,rfl,_,_,rfl,rfl,_,rfl,_,_,rfl,rfl,_,rfl,_,_,rfl,rfl,by show 4≤sizeLine;decide,fun q2 hq2=>?_⟩
    have s3:aq H2 (upd H2 q2 (.lst [.int low,.int (low+1),.int (low+2),.int (low+3)])):=ag hq2
    exact⟨l,q2,rs,[low,low+1,low+2,low+3],spot,low,c,v4,rfl,s2.trans s3,s3 _ _ hl,ae,rfl,List.Perm.refl _,hsp,hp,h4,hrm,hD⟩
   ·exact⟨l,q,rs,inner,spot,low,c,v4,rfl,s2,hl,hq,hil,hip,hsp,hp,h4,hrm,hD⟩
  refine⟨by show 4≤sizeLine;decide,fun l0 hl0=>?_⟩
  have s0:aq H (upd H l0 (.lst [.int 0,.int 2,.int 1,.int 3])):=ag hl0
  refine⟨_,rfl,_,rfl,a,_,rfl,.inl (s0.seq hS),_,_,rfl,⟨by omega,by omega,by omega,by omega⟩,eZ (lo:=(at':Int)) (n:=(((ns.map V.int).length:Nat)-(at':Int):Int).toNat) Pv ⟨l0,[0,2,1,3],none,none,none,none,none,rfl,s0,ae,?_,Nat.le_refl 4,by show 4<max room 5;omega⟩ ?_ ?_⟩
  ·show ([0,2,1,3]:List Int).Perm (Mir.df 4)
   decide
  ·rintro i σ H2 hi ⟨l,rs,v4,v5,v6,v7,v8,rfl,s2,hl,hp,h4,hrm⟩
   rw[ivn] at hi
   have p9:(0:Int)<10 ^ (9:Int).toNat:=by decide +kernel
   have ea:(at':Int)+(i:Int)=((at'+i:Nat):Int):=by omega
   rw[ea]
   refine⟨_,rfl,_,rfl,a,_,_,_,rfl,rfl,s2.seq hS,aW (gS i hi),_,_,rfl,rfl,⟨by decide,by decide,by decide⟩,_,_,rfl,rfl,p9,?_⟩
   dsimp only
   generalize ns.getD (at'+i) 0%10 ^ (9:Int).toNat=c
   have ivl:(((Mir.iV rs).length:Nat):Int)=rs.length:=by rw[Mir.aK]
   refine⟨_,rfl,l,_,rfl,.inl (SqL.of hl),_,_,rfl,rfl,_,rfl,_,_,rfl,rfl,_,rfl,?_⟩
   refine fR (fun h1=>?_) (fun h1=>?_)
   ·have h1:=of_decide_eq_true h1
    rw[ivl] at h1
    have Dm:rs.length+3<room:=by omega
    have g0:0≤c/8%(rs.length:Int):=Int.emod_nonneg _ (by omega)
    have g1:c/8%(rs.length:Int)<rs.length:=Int.emod_lt_of_pos _ (by omega)
    obtain⟨spot,xG⟩:∃ spot:Nat,c/8%(rs.length:Int)=spot:=⟨(c/8%(rs.length:Int)).toNat,by omega⟩
    have hsl:spot<rs.length:=by omega
    refine⟨_,rfl,_,_,rfl,rfl,⟨by decide,by decide⟩,_,rfl,l,_,rfl,.inl (SqL.of hl),_,_,rfl,rfl,(by rw[ivl];omega),?_⟩
    dsimp only
    rw[ivl,xG]
    refine⟨_,rfl,_,rfl,l,_,_,_,rfl,rfl,SqL.of hl,aW (Mir.dg hsl),?_⟩
    generalize Dp:rs.getD spot 0=low
    have hsp:rs[spot]?=some low:=by rw[Mir.getD_get hsl,Dp]
    refine⟨_,rfl,l,rfl,⟨_,SqL.of hl⟩,fun D hD=>a5 (K:=K) (a:=l) (xs:=Mir.iV rs) (fun j σ H3=>∃ v:Option V,σ=[v,some (.int low)]∧aq H2 H3∧H3 D=some (.lst (Mir.iV ((rs.take j).map (Mir.shf low))))) ⟨none,rfl,ag hD,ae⟩ (fun j σ H3 _ ⟨_,_,s3,_⟩=>SqL.of (s3 _ _ hl)) ?_ ?_⟩
    ·rintro j y σ H3 hy ⟨v,rfl,s3,h3⟩
     obtain⟨x,hx,rfl⟩:=Mir.gA hy
     refine jW ?_
     refine⟨_,rfl,_,rfl,_,rfl,_,_,rfl,rfl,.inr ⟨_,rfl,_,_,rfl,rfl,.inl ⟨by decide,by decide⟩,_,_,rfl,rfl,?_⟩⟩
     refine⟨_,h3,aw (by rw[Mir.aK,List.length_map,List.length_take];omega),_,rfl,s3.upd hD,?_⟩
     rw[ae,Mir.take_snoc hx,List.map_append,Mir.eQ]
     congr 4
     show V.int _=V.int _
     congr 1
     unfold Mir.shf
     by_cases cc:x>low
     ·rw[if_pos cc,if_pos (decide_eq_true cc)]
     ·rw[if_neg cc,if_neg (by rw[decide_eq_false cc];decide)]
    ·rintro σ H3 ⟨v,rfl,s3,h3⟩
     rw[Mir.aK,List.take_length] at h3
     refine⟨_,rfl,_,rfl,_,_,rfl,rfl,_,rfl,_,_,rfl,rfl,_,rfl,_,_,rfl,rfl,by show 4≤sizeLine;decide,fun q hq=>?_⟩
     have s4:aq H3 (upd H3 q (.lst [.int low,.int (low+2),.int (low+1),.int (low+3)])):=ag hq
     exact⟨D,q,rs,[low,low+2,low+1,low+3],spot,low,c,_,rfl,(s2.trans s3).trans s4,s4 _ _ h3,ae,rfl,List.Perm.cons _ (List.Perm.swap _ _ _),hsp,hp,h4,Dm,fun j σ' H' h=>h⟩
   ·exact⟨l,rs,_,_,_,_,_,rfl,s2,hl,hp,h4,hrm⟩
  ·rintro σ H2 ⟨l,rs,v4,v5,v6,v7,v8,rfl,s2,hl,hp,h4,hrm⟩
   refine⟨_,rfl,l,rfl,⟨_,SqL.of hl⟩,fun D hD=>a5 (K:=K) (a:=l) (xs:=Mir.iV rs) (fun j σ H3=>∃ v:Option V,σ=[v]∧aq H2 H3∧H3 D=some (.lst (Mir.iV ((rs.take j).map fun x=>x+1)))) ⟨none,rfl,ag hD,ae⟩ (fun j σ H3 _ ⟨_,_,s3,_⟩=>SqL.of (s3 _ _ hl)) ?_ ?_⟩
   ·rintro j y σ H3 hy ⟨v,rfl,s3,h3⟩
    obtain⟨x,hx,rfl⟩:=Mir.gA hy
    refine jW ?_
    refine⟨_,rfl,_,_,rfl,rfl,_,h3,aw (by rw[Mir.aK,List.length_map,List.length_take];omega),_,rfl,s3.upd hD,?_⟩
    rw[ae,Mir.take_snoc hx,List.map_append,Mir.eQ]
    rfl
   rintro σ H3 ⟨v,rfl,s3,h3⟩
   rw[Mir.aK,List.take_length] at h3
   have s23:=s2.trans s3
   have hD0:H D=none:=s2.free hD
   refine⟨_,rfl,_,rfl,a,_,rfl,.inl (s23.seq hS),_,_,rfl,⟨by omega,by omega,by omega,by omega⟩,eZ (lo:=(at':Int)) (n:=(((ns.map V.int).length:Nat)-(at':Int):Int).toNat) (fun i σ H4=>∃ (fl:List Int) (v4 v5 v6 v7 v8:Option V),σ=[some (.ref a),some (.int at'),some (.int room),some (.ref l),v4,v5,v6,v7,v8,some (.ref D)]∧aq H H4∧H4 l=some (.lst (Mir.iV rs))∧H4 D=some (.lst (Mir.iV fl))∧fl.length=rs.length∧Mir.Rw fl)
    ⟨_,_,_,_,_,_,rfl,s23,s3 _ _ hl,h3,List.length_map _,Mir.zw hp⟩ ?_ ?_⟩
   ·rintro i σ H4 hi ⟨fl,v4',v5',v6',v7',v8',rfl,s4,hl4,hD4,hfl,hw⟩
    rw[ivn] at hi
    have ea:(at':Int)+(i:Int)=((at'+i:Nat):Int):=by omega
    rw[ea]
    generalize hc:ns.getD (at'+i) 0=c
    have gi:=gS i hi
    rw[hc] at gi
    refine⟨_,rfl,_,rfl,a,_,_,_,rfl,rfl,s4.seq hS,aW gi,_,_,rfl,rfl,⟨by decide,by decide⟩,_,_,rfl,rfl,(by show (0:Int)<40;decide),?_⟩
    dsimp only
    have g0:0≤c/1009%40:=Int.emod_nonneg _ (by decide)
    obtain⟨spot,xG⟩:∃ spot:Nat,c/1009%40=spot:=⟨(c/1009%40).toNat,by omega⟩
    rw[xG]
    refine⟨_,rfl,_,rfl,a,_,_,_,rfl,rfl,s4.seq hS,aW gi,_,_,rfl,rfl,(by show (0:Int)<16;decide),rfl,_,rfl,?_⟩
    refine fR (fun h1=>?_) (fun h1=>?_)
    ·refine⟨_,rfl,_,rfl,l,_,rfl,.inl (SqL.of hl4),_,_,rfl,rfl,_,rfl,?_⟩
     refine fR (fun h2=>?_) (fun h2=>?_)
     ·have h2:=of_decide_eq_true h2
      rw[Mir.aK] at h2
      have hsl:spot<fl.length:=by omega
      have gx:fl[spot]?=some (fl.getD spot 0):=Mir.getD_get hsl
      refine⟨_,rfl,_,rfl,D,_,_,_,rfl,rfl,SqL.of hD4,aW (Mir.dg hsl),_,_,rfl,rfl,_,rfl,_,rfl,D,_,_,spot,rfl,rfl,hD4,?_,?_⟩
      ·rw[Mir.aK]
       unfold ixN
       rw[if_pos (by omega),if_pos (by omega),Int.toNat_natCast]
      ·have nl:l≠D:=fun e=>by
        have z:=s2.free hD
        have:H2 l=some (.lst (Mir.iV rs)):=hl
        rw[e,hD] at this
        cases this
       refine⟨fl.set spot (0-fl.getD spot 0),_,_,_,_,_,rfl,s4.upd hD0,by rw[ao nl];exact hl4,?_,by rw[List.length_set];exact hfl,hw.flip gx⟩
       rw[ae]
       unfold Mir.iV
       rw[List.map_set]
     ·exact⟨fl,_,_,_,_,_,rfl,s4,hl4,hD4,hfl,hw⟩
    ·exact cJ ⟨fl,_,_,_,_,_,rfl,s4,hl4,hD4,hfl,hw⟩
   ·rintro σ H4 ⟨fl,v4',v5',v6',v7',v8',rfl,s4,hl4,hD4,hfl,hw⟩
    exact⟨_,rfl,D,_,rfl,.inl hD4,fun t H5 s5 ht=>k t H5 fl (s4.trans s5) ht (by omega) (hw.fit (by omega))⟩
end
section
variable {P:Program}{w:World}{K:PySem.W.Frag}{mg:Str→Option Value}{base:Heap}
theorem iI {f:Addr}{fd:FuncData}(B:Bl mg)(F:Fn K mg "_law_whole_number" bu ["found"] f fd):aO P w K mg base CX0 1 f fd ["found"] Mir.sC:=by
 refine F.fn.ok iH (fun vs H Q E h=>?_) (fun cdv A outer s H vs Q E hr h=>?_)
 ·obtain⟨e,rfl,_⟩:=h
  rfl
 ·obtain⟨e,rfl,q⟩:=h
  refine⟨_,au (aQ (uX (aG jk rfl B.isinstance dN (ab (pv 0) (ab (kT (v:=.ty "int") rfl B.int om rfl) ai)))
   (uW (zN (aG jk rfl B.isinstance dN (ab (pv 0) (ab (kT (v:=.ty "bool") rfl B.bool xZ rfl) ai))))))),?_⟩
  refine⟨_,rfl,_,_,_,_,rfl,.int e,pJ _,_,rfl,gw ?_⟩
  exact⟨_,rfl,_,_,_,_,rfl,.int e,oh _,_,rfl,q⟩
end
section
seal L2.PSs L2.PS L2.PE L2.PT L2.PA
variable {P:Program}{w:World}{K:PySem.W.Frag}{mg:Str→Option Value}{base:Heap}
theorem mH {f:Addr}{fd:FuncData}(B:Bl mg)(F:Fn K mg "_law_put_in" dq ["row","spot"] f fd):aO P w K mg base CX0 1 f fd ["row","spot"] Mir.tM:=by
 refine F.fn.ok fT (fun vs H Q E h=>?_) (fun cdv A outer s H vs Q E hr h=>?_)
 ·obtain⟨l,rs,spot,low,rfl,_⟩:=h
  rfl
 ·obtain⟨l,rs,spot,low,rfl,hl,hp,hsp,hrl,k⟩:=h
  refine⟨_,(af (aB (i:=2) fT.nd rfl (Or.inr rfl) (aR a9 (pv 0) (pv 1) (fun _ _=>rfl)))
   (af (b7 (ix:=0) (NC:=["number","low"]) fT.nd rfl (Or.inl rfl) rfl (bC (c:=s.heap.objs.size+1) (j:=2) rfl (by decide +kernel) (by decide +kernel) rfl rfl rfl rfl rfl) (aM (pv 0)) (fun _ _ _ _=>(aC (i:=0) (show (["number","low"]:List Str).Nodup by decide +kernel) rfl (Or.inl rfl))) (fun _ _ _ _=>cF) (fun _ _ _ _=>(aD aX (pv 0) (aD qJ aj (bN jT rfl B.int om (ab (il ki (pv 0) (pv 1) (aI _)) ai))))))
   (au (aQ (aD eG (aD eG (cq c9 (pv 0) c7 (c8 (pv 1))) (bc (ab (pv 2) (ab (aD aX (pv 2) aj) (ab (aD aX (pv 2) aj) (ab (aD aX (pv 2) aj) ai)))))) (cq c9 (pv 0) (c8 (aD aX (pv 1) aj)) c7)))))),?_⟩
  have hsl:spot<rs.length:=(List.getElem?_eq_some_iff.mp hsp).1
  have P4:=Mir.BX (inner:=[low,low+2,low+1,low+3]) hp hsp (List.Perm.cons _ (List.Perm.swap _ _ _))
  refine⟨_,rfl,_,rfl,l,_,_,_,rfl,rfl,SqL.of hl,aW (show (Mir.iV rs)[spot]?=some (.int low) by unfold Mir.iV;rw[List.getElem?_map,hsp];rfl),?_⟩
  refine⟨_,rfl,l,rfl,⟨_,SqL.of hl⟩,fun D hD=>a5 (K:=K) (a:=l) (xs:=Mir.iV rs) (fun j σ H3=>∃ v:Option V,σ=[v,some (.int low)]∧aq H H3∧H3 D=some (.lst (Mir.iV ((rs.take j).map (Mir.shf low))))) ⟨none,rfl,ag hD,ae⟩ (fun j σ H3 _ ⟨_,_,s3,_⟩=>SqL.of (s3 _ _ hl)) ?_ ?_⟩
  ·rintro j y σ H3 hy ⟨v,rfl,s3,h3⟩
   obtain⟨x,hx,rfl⟩:=Mir.gA hy
   refine jW ?_
   refine⟨_,rfl,_,rfl,_,rfl,_,_,rfl,rfl,.inr ⟨_,rfl,_,_,rfl,rfl,.inl ⟨by decide,by decide⟩,_,_,rfl,rfl,?_⟩⟩
   refine⟨_,h3,aw (by rw[Mir.aK,List.length_map,List.length_take];omega),_,rfl,s3.upd hD,?_⟩
   rw[ae,Mir.take_snoc hx,List.map_append,Mir.eQ]
   congr 4
   show V.int _=V.int _
   congr 1
   unfold Mir.shf
   by_cases cc:x>low
   ·rw[if_pos cc,if_pos (decide_eq_true cc)]
   ·rw[if_neg cc,if_neg (by rw[decide_eq_false cc];decide)]
  ·rintro σ H3 ⟨v,rfl,s3,h3⟩
   rw[Mir.aK,List.take_length] at h3
   have ml:(rs.map (Mir.shf low)).length=rs.length:=List.length_map _
   generalize rs.map (Mir.shf low)=ms at h3 P4 ml
   have ivl:(Mir.iV ms).length=rs.length:=by rw[Mir.aK,ml]
   refine⟨_,rfl,_,rfl,_,rfl,D,_,rfl,SqL.of h3,fun p1 hp1=>?_⟩
   rw[Mir.jZ (by rw[ivl];omega)]
   have s4:aq H3 (upd H3 p1 (.lst ((Mir.iV ms).take spot))):=ag hp1
   have h4:upd H3 p1 (.lst ((Mir.iV ms).take spot)) p1=some (.lst ((Mir.iV ms).take spot)):=ae
   generalize upd H3 p1 (.lst ((Mir.iV ms).take spot))=H4 at s4 h4 ⊢
   refine⟨_,rfl,_,rfl,_,_,rfl,rfl,_,rfl,_,_,rfl,rfl,_,rfl,_,_,rfl,rfl,by show 4≤sizeLine;decide,fun q hq=>?_⟩
   have s5:aq H4 (upd H4 q (.lst (Mir.iV [low,low+2,low+1,low+3]))):=ag hq
   have h5:upd H4 q (.lst (Mir.iV [low,low+2,low+1,low+3])) q=some (.lst (Mir.iV [low,low+2,low+1,low+3])):=ae
   refine⟨p1,q,(Mir.iV ms).take spot,Mir.iV [low,low+2,low+1,low+3],rfl,rfl,s5 _ _ h4,h5,Nat.le_of_lt (aw (by rw[List.length_take,ivl,Mir.aK];show _+4≤_;omega)),fun p2 hp2=>?_⟩
   have hp2:upd H4 q (.lst (Mir.iV [low,low+2,low+1,low+3])) p2=none:=hp2
   change ∃ _,_
   generalize hH5:upd H4 q (.lst (Mir.iV [low,low+2,low+1,low+3]))=H5 at s5 h5 hp2
   have Dq:upd H4 q (.lst [.int low,.int (low+2),.int (low+1),.int (low+3)])=H5:=hH5
   rw[Dq]
   have s6:aq H5 (upd H5 p2 (.lst ((Mir.iV ms).take spot++Mir.iV [low,low+2,low+1,low+3]))):=ag hp2
   have h6:upd H5 p2 (.lst ((Mir.iV ms).take spot++Mir.iV [low,low+2,low+1,low+3])) p2=some (.lst ((Mir.iV ms).take spot++Mir.iV [low,low+2,low+1,low+3])):=ae
   generalize upd H5 p2 (.lst ((Mir.iV ms).take spot++Mir.iV [low,low+2,low+1,low+3]))=H6 at s6 h6 ⊢
   have s36:=(s4.trans s5).trans s6
   have e1:(spot:Int)+1=((spot+1:Nat):Int):=by omega
   refine⟨_,rfl,_,rfl,_,_,rfl,rfl,_,rfl,D,_,rfl,SqL.of (s36 _ _ h3),fun p3 hp3=>?_⟩
   dsimp only
   rw[e1,Mir.jm (by rw[ivl];omega)]
   have s7:aq H6 (upd H6 p3 (.lst ((Mir.iV ms).drop (spot+1)))):=ag hp3
   refine⟨p2,p3,_,_,rfl,rfl,s7 _ _ h6,ae,Nat.le_of_lt (aw (by rw[List.length_append,List.length_drop,List.length_take,Mir.aK [low,low+2,low+1,low+3],ivl];show _+4+_≤_;omega)),fun p4 hp4=>?_⟩
   have e2:(Mir.iV ms).take spot++Mir.iV [low,low+2,low+1,low+3]++(Mir.iV ms).drop (spot+1)=Mir.iV (ms.take spot++[low,low+2,low+1,low+3]++ms.drop (spot+1)):=by
    rw[Mir.eQ,Mir.eQ]
    unfold Mir.iV
    rw[List.map_take,List.map_drop]
   have el:(ms.take spot++[low,low+2,low+1,low+3]++ms.drop (spot+1)).length=rs.length+3:=by rw[List.length_append,List.length_append,List.length_take,List.length_drop,ml];show _+4+_=_;omega
   exact k p4 _ (ms.take spot++[low,low+2,low+1,low+3]++ms.drop (spot+1)) ((((s3.trans s36).trans s7)).trans (ag hp4)) (by rw[ae,e2]) (by rw[el];exact P4) el
end
section
seal L2.PSs L2.PS L2.PE L2.PT L2.PA
variable {P:Program}{w:World}{K:PySem.W.Frag}{mg:Str→Option Value}{base:Heap}
theorem oZ {f f1:Addr}{fd fd1:FuncData}(B:Bl mg)(F:Fn K mg "_law_nests" fJ ["cell"] f fd)(dw:Fn K mg "_law_put_in" dq ["row","spot"] f1 fd1):aO P w K mg base CX0 2 f fd ["cell"] Mir.tO:=by
 have jN:aO P w K mg base CX0 1 f1 fd1 ["row","spot"] Mir.tM:=mH B dw
 refine F.fn.ok bR (fun vs H Q E h=>?_) (fun cdv A outer s H vs Q E hr h=>?_)
 ·obtain⟨c,rfl,_⟩:=h
  rfl
 ·obtain⟨c,rfl,k⟩:=h
  have g0:0≤c%4:=Int.emod_nonneg _ (by decide)
  have g1:c%4<4:=Int.emod_lt_of_pos _ (by decide)
  obtain⟨n,hn⟩:∃ n:Nat,1+c%4=n:=⟨(1+c%4).toNat,by omega⟩
  let xs:List Int:=([4,3,2,1]:List Int).take n
  have xsl:xs.length≤4:=by show (([4,3,2,1]:List Int).take n).length≤4;rw[List.length_take];exact Nat.min_le_right _ _
  have xsb:∀ x∈xs,0≤x∧x≤4:=fun x hx=>by
   have:=List.mem_of_mem_take hx
   simp only[List.mem_cons,List.not_mem_nil,or_false] at this
   omega
  let Pv:Addr→Nat→St→Hp→Prop:=fun p i σ H2=>∃ (l:Addr) (rs:List Int) (d:Int) (v:Option V),σ=[some (.int c),some (.ref l),some (.int d),v]∧aq H H2∧H2 p=some (.lst (Mir.iV xs))∧H2 l=some (.lst (Mir.iV rs))∧rs.Perm (Mir.df rs.length)∧6≤rs.length∧rs.length≤6+6*i
  let R1:TS:=fun D σ H2=>∃ (i:Nat) (p l:Addr) (rs:List Int) (d:Int) (v:Option V),σ=[some (.int c),some (.ref l),some (.int d),v]∧aq H H2∧H2 p=some (.lst (Mir.iV xs))∧H2 l=some (.lst (Mir.iV rs))∧rs.Perm (Mir.df rs.length)∧6≤rs.length∧rs.length≤12+6*i∧∀ σ' H',Pv p (i+1) σ' H'→D.nx σ' H'
  refine⟨_,(af (aB (i:=1) bR.nd rfl (Or.inl rfl) (bc (ab aj (ab aj (ab aj (ab aj (ab aj (ab aj ai))))))))
   (af (aB (i:=2) bR.nd rfl (Or.inl rfl) (aD bM (aD dM (pv 0) aj) aj))
   (af (bq PassesOwn.never rfl (aM (cq c9 (bc (ab aj (ab aj (ab aj (ab aj ai))))) c7 (c8 (aD aX aj (aD bM (pv 0) aj))))) (aC (i:=3) bR.nd rfl (Or.inl rfl)) (af (aB (i:=1) bR.nd rfl (Or.inl rfl) (aY jN dw (hr.mono (by decide)) (ab (pv 1) (ab (pv 3) ai))))
   (af (bT (aE eP (aD bM (pv 2) aj) aj (aI _)) (au (aB (i:=1) bR.nd rfl (Or.inl rfl) (aY jN dw (hr.mono (by decide)) (ab (pv 1) (ab (aD aX (pv 3) aj) ai))))) a8)
   (eI (R:=R1) fun D σ H2 hR=>?rest))))
   (au (aQ (bN cu rfl B.tuple gW (ab (cG (NC:=["number"]) rfl (gz rfl (by decide +kernel) (by decide +kernel)) (aM (pv 1)) (fun _ _ _ _=>(aC (i:=0) (show (["number"]:List Str).Nodup by decide +kernel) rfl (Or.inl rfl))) (fun _ _ _ _=>cF) (fun _ _ _ _=>(aD aX (pv 0) aj))) ai))))))),?_⟩
  case rest =>
   obtain⟨i,p,l,rs,d,v,rfl,s2,hp,hl,pm,h6,hle,hD⟩:=hR
   refine⟨_,(au (aB (i:=2) bR.nd rfl (Or.inl rfl) (aD dM (pv 2) aj))),?_⟩
   refine⟨_,rfl,_,_,rfl,rfl,⟨by decide,by decide⟩,hD _ _ ⟨l,rs,_,v,rfl,s2,hp,hl,pm,h6,by omega⟩⟩
  refine⟨by show 6≤sizeLine;decide,fun l0 hl0=>?_⟩
  have s0:aq H (upd H l0 (.lst (Mir.iV [0,2,4,1,3,5]))):=ag hl0
  have h0:upd H l0 (.lst (Mir.iV [0,2,4,1,3,5])) l0=some (.lst (Mir.iV [0,2,4,1,3,5])):=ae
  have ec:∀ H5:Hp,H5=upd H l0 (.lst [.int 0,.int 2,.int 4,.int 1,.int 3,.int 5])→aq H H5∧H5 l0=some (.lst (Mir.iV [0,2,4,1,3,5])):=fun H5 e=>by rw[e];exact⟨s0,h0⟩
  generalize eH:upd H l0 (.lst [.int 0,.int 2,.int 4,.int 1,.int 3,.int 5])=H1
  obtain⟨s1,h1⟩:=ec H1 eH.symm
  refine⟨_,rfl,_,_,rfl,rfl,⟨by decide,by decide⟩,_,_,rfl,rfl,(by show (0:Int)<16;decide),?_⟩
  dsimp only
  generalize c/4%16=d0
  refine⟨by show 4≤sizeLine;decide,fun p0 hp0=>?_⟩
  have s2:aq H1 (upd H1 p0 (.lst (Mir.iV [4,3,2,1]))):=ag hp0
  have u2:upd H1 p0 (.lst (Mir.iV [4,3,2,1])) p0=some (.lst (Mir.iV [4,3,2,1])):=ae
  generalize eH2:upd H1 p0 (.lst (Mir.iV [4,3,2,1]))=H2 at s2 u2
  have Dr:upd H1 p0 (.lst [.int 4,.int 3,.int 2,.int 1])=H2:=eH2
  rw[Dr]
  have Ds:jd (Mir.iV [4,3,2,1]) none (some (1+c%4))=Mir.iV xs:=by
   rw[hn,Mir.jZ (by rw[Mir.aK];show n≤4;omega)]
   show _=Mir.iV (List.take n _)
   unfold Mir.iV
   rw[List.map_take]
  refine⟨_,rfl,_,_,rfl,rfl,(by show (0:Int)<4;decide),_,_,rfl,rfl,1+c%4,rfl,p0,Mir.iV [4,3,2,1],rfl,SqL.of u2,fun p hp=>?_⟩
  rw[Ds]
  have s3:aq H2 (upd H2 p (.lst (Mir.iV xs))):=ag hp
  have u3:upd H2 p (.lst (Mir.iV xs)) p=some (.lst (Mir.iV xs)):=ae
  generalize upd H2 p (.lst (Mir.iV xs))=H3 at s3 u3
  have s03:=(s1.trans s2).trans s3
  refine⟨p,rfl,⟨_,SqL.of u3⟩,bo (K:=K) (a:=p) (xs:=Mir.iV xs) (Pv p) ⟨l0,[0,2,4,1,3,5],d0,none,rfl,s03,u3,(s2.trans s3) _ _ h1,by decide,Nat.le_refl _,Nat.le_refl _⟩ (fun i σ H4 _ ⟨_,_,_,_,_,_,e,_⟩=>SqL.of e) ?_ ?_⟩
  ·rintro i x σ H4 hx ⟨l,rs,d,v,rfl,s4,hp4,hl4,pm,h6,hle⟩
   obtain⟨y,hy,rfl⟩:=Mir.gA hx
   have hil:i<xs.length:=(List.getElem?_eq_some_iff.mp hy).1
   have hb:=xsb y (List.mem_of_getElem? hy)
   obtain⟨sp,rfl⟩:∃ sp:Nat,y=sp:=⟨y.toNat,by omega⟩
   have gs:rs[sp]?=some (rs.getD sp 0):=Mir.getD_get (by omega)
   refine⟨_,rfl,_,rfl,l,rs,sp,_,rfl,hl4,pm,gs,by omega,fun r H5 ss s5 h5 pm5 l5=>?_⟩
   refine⟨_,rfl,_,_,rfl,rfl,(by show (0:Int)<2;decide),rfl,_,rfl,?_⟩
   refine fR (fun h1=>?_) (fun h1=>?_)
   ·have gs5:ss[sp+1]?=some (ss.getD (sp+1) 0):=Mir.getD_get (by omega)
    have e1:(sp:Int)+1=((sp+1:Nat):Int):=by omega
    refine⟨_,rfl,_,rfl,_,_,rfl,rfl,?_⟩
    dsimp only
    rw[e1]
    refine⟨r,ss,sp+1,_,rfl,h5,pm5,gs5,by omega,fun r6 H6 s's s6 h6' pm6 l6=>?_⟩
    exact⟨i,p,r6,s's,d,_,rfl,(s4.trans s5).trans s6,(s5.trans s6) _ _ hp4,h6',pm6,by omega,by omega,fun σ' H' h=>h⟩
   ·exact⟨i,p,r,ss,d,_,rfl,s4.trans s5,s5 _ _ hp4,h5,pm5,by omega,by omega,fun σ' H' h=>h⟩
  ·rintro σ H4 ⟨l,rs,d,v,rfl,s4,hp4,hl,pm,h6,hle⟩
   rw[Mir.aK] at hle
   refine⟨_,rfl,l,rfl,⟨_,SqL.of hl⟩,fun D hD=>a5 (K:=K) (a:=l) (xs:=Mir.iV rs) (fun j σ H3=>∃ v:Option V,σ=[v]∧aq H4 H3∧H3 D=some (.lst (Mir.iV ((rs.take j).map fun x=>x+1)))) ⟨none,rfl,ag hD,ae⟩ (fun j σ H3 _ ⟨_,_,s3,_⟩=>SqL.of (s3 _ _ hl)) ?_ ?_⟩
   ·rintro j y σ H3 hy ⟨v,rfl,s3,h3⟩
    obtain⟨x,hx,rfl⟩:=Mir.gA hy
    refine jW ?_
    refine⟨_,rfl,_,_,rfl,rfl,_,h3,aw (by rw[Mir.aK,List.length_map,List.length_take];omega),_,rfl,s3.upd hD,?_⟩
    rw[ae,Mir.take_snoc hx,List.map_append,Mir.eQ]
    rfl
   ·rintro σ H3 ⟨v,rfl,s3,h3⟩
    rw[Mir.aK,List.take_length] at h3
    refine⟨D,_,rfl,.inl h3,fun t H5 s5 ht=>?_⟩
    exact k t H5 _ ((s4.trans s3).trans s5) ht ((Mir.zw pm).fit (by rw[List.length_map];omega)) (by rw[List.length_map];omega)
end
section
seal L2.PSs L2.PS L2.PE L2.PT L2.PA
variable {P:Program}{w:World}{K:PySem.W.Frag}{mg:Str→Option Value}{base:Heap}
theorem mI {f:Addr}{fd:FuncData}(B:Bl mg)(F:Fn K mg "_law_chains" dt ["kins"] f fd):aO P w K mg base CX0 1 f fd ["kins"] Mir.tP:=by
 refine F.fn.ok dP (fun vs H Q E h=>?_) (fun cdv A outer s H vs Q E hr h=>?_)
 ·obtain⟨l,kins,rfl,_⟩:=h
  rfl
 ·obtain⟨l,kins,rfl,hk,hn,LP,k⟩:=h
  have hu2:=hr.lt 1 (by decide)
  refine⟨_,(af (aB (i:=1) dP.nd rfl (Or.inl rfl) (bc ai))
   (af (bq PassesOwn.never rfl (aM (pv 0)) (aC (i:=2) dP.nd rfl (Or.inr rfl)) (af (b7 (ix:=3) (NC:=["chain","kin"]) dP.nd rfl (Or.inl rfl) rfl (bC (c:=s.heap.objs.size+1) (j:=2) rfl (by decide +kernel) (by decide +kernel) rfl rfl rfl rfl rfl) (aM (pv 1)) (fun _ _ _ _=>(aC (i:=0) (show (["chain","kin"]:List Str).Nodup by decide +kernel) rfl (Or.inl rfl))) (fun _ _ _ _=>(b6 (aE eP (aR (bH (K:=K) rfl) (aR (gX (K:=K) rfl) (pv 0) (mO jS aj) (fun _ _=>rfl)) aj (fun _ _=>rfl)) (aR (bH (K:=K) rfl) (pv 1) aj (fun _ _=>rfl)) (aI _)))) (fun _ _ _ _=>(pv 0)))
   (au (bT (aE (iX (K:=K) rfl (Nat.lt_of_succ_lt (Nat.lt_of_succ_lt hu2))) (pv 3) (bc ai) (aI _)) (au (b5 (fj PySem.F.plainAttrs_list PySem.F.slot_list_append PySem.F.type_list_append bE (pv 1) (ab (bc (ab (pv 2) ai)) ai)))) (au (b5 (fj PySem.F.plainAttrs_list PySem.F.slot_list_append PySem.F.type_list_append bE (aR a9 (pv 3) aj (fun _ _=>rfl)) (ab (pv 2) ai))))))))
   (au (aQ (pv 1))))),?_⟩
  obtain⟨us,h1,h2,h3⟩:=id hk
  refine⟨by show 0≤sizeLine;decide,fun lc hlc=>?_⟩
  have s0:aq H (upd H lc (.lst [])):=ag hlc
  have c0:upd H lc (.lst []) lc=some (.lst []):=ae
  generalize upd H lc (.lst [])=H0 at s0 c0
  refine⟨_,rfl,l,rfl,⟨_,SqL.of (s0 _ _ h1)⟩,bo (K:=K) (a:=l) (xs:=us.map V.ref) (fun i σ H2=>∃ (ls:List Addr) (v2 v3:Option V),σ=[some (.ref l),some (.ref lc),v2,v3]∧aq H H2∧Mir.LcT H H2 lc ls (Mir.fH (kins.take i))∧∀ a∈ls,a≠lc) ⟨[],none,none,rfl,s0,⟨c0,rfl,List.nodup_nil,fun a h=>absurd h List.not_mem_nil,fun i a c e=>by simp at e⟩,fun a h=>absurd h List.not_mem_nil⟩ (fun i σ H2 _ ⟨_,_,_,_,s2,_⟩=>SqL.of (s2 _ _ h1)) ?_ ?_⟩
  ·rintro i x σ H2 hx ⟨ls,v2,v3,rfl,s2,T,hne⟩
   rw[List.getElem?_map] at hx
   obtain⟨t,et,rfl⟩:=Option.map_eq_some_iff.mp hx
   have hi:i<kins.length:=by rw[← h2];exact(List.getElem?_eq_some_iff.mp et).1
   have ek:=List.getElem?_eq_getElem hi
   have hp:=s2 _ _ (h3 i t _ et ek)
   have el:=Mir.take_snoc ek
   generalize kins[i]=p at ek hp el
   rw[el,Mir.iZ]
   obtain⟨fl,fc⟩:=Mir.kH (kins.take i)
   rw[List.length_take] at fl
   have fc:∀ c∈Mir.fH (kins.take i),c≠[]∧c.length≤100:=fun c hc=>⟨(fc c hc).1,by have:=(fc c hc).2;rw[List.length_take] at this;omega⟩
   generalize Mir.fH (kins.take i)=cs at T fl fc
   have lsl:ls.length=cs.length:=T.len
   refine⟨_,rfl,lc,rfl,⟨_,SqL.of T.at'⟩,fun D hD=>?_⟩
   refine a5 (K:=K) (a:=lc) (xs:=ls.map V.ref) (fun j σ H3=>∃ (v:Option V) (fs:List Addr),σ=[v,some (.ref t)]∧aq H2 H3∧H3 D=some (.lst (fs.map V.ref))∧fs.length≤j∧((fs=[]∧∀ m,m<j→∀ c,cs[m]?=some c→(Mir.bL c).2≠p.1)∨∃ (m:Nat) (a:Addr) (c:List Mir.Pr2),fs.head?=some a∧m<j∧ls[m]?=some a∧cs[m]?=some c∧(Mir.bL c).2=p.1∧∀ m',m'<m→∀ d,cs[m']?=some d→(Mir.bL d).2≠p.1)) ⟨none,[],rfl,ag hD,ae,Nat.le_refl _,.inl ⟨rfl,fun m hm=>absurd hm (Nat.not_lt_zero _)⟩⟩ (fun j σ H3 _ ⟨_,_,_,s3,_⟩=>SqL.of (s3 _ _ T.at')) ?_ ?_
   ·rintro j x σ H3 hx ⟨v,fs,rfl,s3,hD3,fl3,alt⟩
    rw[List.getElem?_map] at hx
    obtain⟨a,ea,rfl⟩:=Option.map_eq_some_iff.mp hx
    have hj:j<ls.length:=(List.getElem?_eq_some_iff.mp ea).1
    have ec:=List.getElem?_eq_getElem (l:=cs) (i:=j) (by omega)
    have hcm:=List.getElem_mem (l:=cs) (n:=j) (by omega)
    generalize cs[j]'(by omega)=c at ec hcm
    obtain⟨cv,ct,q1,q2,q3⟩:=(T.it j a c ea ec).last (fc c hcm).1
    refine⟨_,rfl,_,rfl,a,_,_,_,rfl,rfl,SqL.of (s3 _ _ q1),q2,ct,_,_,_,rfl,rfl,SqT.of (s3 _ _ q3),rfl,_,rfl,t,_,_,_,rfl,rfl,SqT.of (s3 _ _ hp),rfl,rfl,_,rfl,?_⟩
    by_cases cc:(Mir.bL c).2=p.1
    ·refine iF (yM cc) ?_
     refine⟨_,rfl,_,hD3,aw (by rw[List.length_map];omega),_,fs++[a],rfl,s3.upd hD,by rw[ae,List.map_append];rfl,by rw[List.length_append,List.length_singleton];omega,.inr ?_⟩
     rcases alt with ⟨rfl,no⟩ | ⟨m,b,d,g1,g2,g3⟩
     ·exact⟨j,a,c,rfl,Nat.lt_succ_self _,ea,ec,cc,no⟩
     ·refine⟨m,b,d,?_,Nat.lt_succ_of_lt g2,g3⟩
      cases fs with
      | nil=>cases g1
      | cons y r=>exact g1
    ·refine hV (tf cc) ⟨_,fs,rfl,s3,hD3,by omega,?_⟩
     rcases alt with ⟨rfl,no⟩ | ⟨m,b,d,g1,g2,g3⟩
     ·refine .inl ⟨rfl,fun m hm d hd=>?_⟩
      by_cases z:m=j
      ·subst z;rw[ec] at hd;cases hd;exact cc
      ·exact no m (by omega) d hd
     ·exact .inr ⟨m,b,d,g1,Nat.lt_succ_of_lt g2,g3⟩
   ·rintro σ H3 ⟨v,fs,rfl,s3,hD3,fl3,alt⟩
    rw[List.length_map] at fl3 alt
    have T3:=T.same s3
    have hp3:=s3 _ _ hp
    refine⟨_,rfl,by show 0≤sizeLine;decide,fun em hem=>?_⟩
    have s4:aq H3 (upd H3 em (.lst [])):=ag hem
    have u4:upd H3 em (.lst []) em=some (.lst []):=ae
    generalize upd H3 em (.lst [])=H4 at s4 u4
    have T4:=T3.same s4
    have hp4:=s4 _ _ hp3
    have hD4:=s4 _ _ hD3
    have s24:=s3.trans s4
    have lcn:H lc=none:=hlc
    refine⟨D,em,_,rfl,rfl,SqL.of hD4,SqL.of u4,_,rfl,?_⟩
    rw[List.length_map]
    rcases alt with ⟨rfl,no⟩ | ⟨m,a,c,g1,g2,g3,g4,g5,g6⟩
    ·refine iF (decide_eq_true rfl) ?_
     refine⟨_,rfl,.inl ⟨rfl,_,SqL.of T4.at'⟩,_,rfl,by show 1≤sizeLine;decide,fun n hnn=>?_⟩
     have s5:aq H4 (upd H4 n (.lst [.ref t])):=ag hnn
     have u5:upd H4 n (.lst [.ref t]) n=some (.lst [.ref t]):=ae
     generalize upd H4 n (.lst [.ref t])=H5 at s5 u5
     have T5:=T4.same s5
     have nl:n≠lc:=fun z=>by have q:=T4.at';rw[← z,hnn] at q;cases q
     have nn:n ∉ ls:=fun z=>by
      obtain⟨m,hm,e⟩:=List.getElem_of_mem z
      have e1:=List.getElem?_eq_getElem hm
      rw[e] at e1
      obtain⟨_,q,_⟩:=T4.it m n _ e1 (List.getElem?_eq_getElem (by omega))
      rw[hnn] at q
      cases q
     refine⟨lc,_,_,rfl,rfl,T5.at',aw (by rw[List.length_map];omega),?_⟩
     refine⟨ls++[n],_,_,rfl,((s2.trans s24).trans s5).upd lcn,?_,fun a ha=>?_⟩
     ·rw[Mir.l8 (fun c hc=>by
       obtain⟨m,hm,e⟩:=List.getElem_of_mem hc
       exact no m (by omega) c (by rw[List.getElem?_eq_getElem hm,e]))]
      exact T5.more ((s2.trans s24).free hnn) u5 (s5 _ _ hp4) hne nl nn
     ·rcases List.mem_append.mp ha with ha | ha
      ·exact hne a ha
      ·rw[List.mem_singleton.mp ha];exact nl
    ·cases fs with
     | nil=>cases g1
     | cons y r =>
      cases g1
      refine hV (decide_eq_false (by simp)) ?_
      have hc:=List.mem_of_getElem? g4
      obtain⟨cv,w1,w2,w3⟩:=(T4.it m a c g3 g4).snoc hp4
      refine⟨_,rfl,D,_,_,_,rfl,rfl,SqL.of hD4,aW (j:=0) rfl,.inl ⟨rfl,_,SqL.of w1⟩,_,rfl,a,_,_,rfl,rfl,w1,aw (by rw[w2];have:=(fc c hc).2;omega),?_⟩
      refine⟨ls,_,_,rfl,(s2.trans s24).upd (T.new a (List.mem_of_getElem? g3)),?_,hne⟩
      rw[Mir.qt g4 g5 g6]
      exact T4.put hne g3 g4 w1 w3
  ·rintro σ H2 ⟨ls,v2,v3,rfl,s2,T,hne⟩
   rw[List.length_map,h2,List.take_length] at T
   exact⟨_,rfl,k lc H2 hlc s2 T.llt⟩
end
section
seal L2.PSs L2.PS L2.PE L2.PT L2.PA
variable {P:Program}{w:World}{K:PySem.W.Frag}{mg:Str→Option Value}{base:Heap}
theorem o4 {f:Addr}{fd:FuncData}(B:Bl mg)(F:Fn K mg "_law_above" cU ["kins","chain"] f fd):aO P w K mg base CX0 1 f fd ["kins","chain"] Mir.tQ:=by
 refine F.fn.ok jJ (fun vs H Q E h=>?_) (fun cdv A outer s H vs Q E hr h=>?_)
 ·obtain⟨l,a,kins,c,rfl,_⟩:=h
  rfl
 ·obtain⟨l,a,kins,c,rfl,hk,hn,LP,hc,hne,hwd,k⟩:=h
  have hu2:=hr.lt 1 (by decide)
  refine⟨_,(af (b7 (ix:=2) (NC:=["kin","chain"]) jJ.nd rfl (Or.inl rfl) rfl (bC (c:=s.heap.objs.size+1) (j:=1) rfl (by decide +kernel) (by decide +kernel) rfl rfl rfl rfl rfl) (aM (pv 0)) (fun _ _ _ _=>(aC (i:=0) (show (["kin","chain"]:List Str).Nodup by decide +kernel) rfl (Or.inl rfl))) (fun _ _ _ _=>(b6 (PW.pt (fi (aE fW (aR (bH (K:=K) rfl) (pv 0) aj (fun _ _=>rfl)) (aR (bH (K:=K) rfl) (aR (gX (K:=K) rfl) (pv 1) aj (fun _ _=>rfl)) aj (fun _ _=>rfl)) (aI _)) (eS (aE fW (aR (bH (K:=K) rfl) (aR (gX (K:=K) rfl) (pv 1) (mO jS aj) (fun _ _=>rfl)) aj (fun _ _=>rfl)) (aR (bH (K:=K) rfl) (pv 0) aj (fun _ _=>rfl)) (aI _))))))) (fun _ _ _ _=>(pv 0)))
   (af (bT (aE (iX (K:=K) rfl (Nat.lt_of_succ_lt (Nat.lt_of_succ_lt hu2))) (pv 2) (bc ai) (aI _)) (au (aQ iN)) a8)
   (au (aQ (aR gT (aR a9 (aG oT rfl B.sorted jX (ab (cG (NC:=["kin"]) rfl (gz rfl (by decide +kernel) (by decide +kernel)) (aM (pv 2)) (fun _ _ _ _=>(aC (i:=0) (show (["kin"]:List Str).Nodup by decide +kernel) rfl (Or.inl rfl))) (fun _ _ _ _=>cF) (fun _ _ _ _=>(iP (ab (aD iO (aR (bH (K:=K) rfl) (pv 0) aj (fun _ _=>rfl)) (aR (bH (K:=K) rfl) (pv 0) aj (fun _ _=>rfl))) (ab (pv 0) ai))))) ai)) aj (fun _ _=>rfl)) aj (fun _ _=>rfl)))))),?_⟩
  obtain⟨us,h1,h2,h3⟩:=id hk
  obtain⟨vs0,u0,q1,a0,t0⟩:=hc.first hne
  obtain⟨vs',ul,q1',al,tl⟩:=hc.last hne
  rw[q1] at q1'
  cases q1'
  refine⟨_,rfl,l,rfl,⟨_,SqL.of h1⟩,fun D hD=>?_⟩
  refine a5 (K:=K) (a:=l) (xs:=us.map V.ref) (fun i σ H2=>∃ v:Option V,σ=[v,some (.ref a)]∧aq H H2∧Mir.TsT Mir.pr H2 D ((kins.take i).filter (Mir.eU c))) ⟨none,rfl,ag hD,Mir.TsT.nil ae⟩ (fun i σ H2 _ ⟨_,_,s2,_⟩=>SqL.of (s2 _ _ h1)) ?_ ?_
  ·rintro i x σ H2 hx ⟨v,rfl,s2,hT⟩
   rw[List.getElem?_map] at hx
   obtain⟨t,et,rfl⟩:=Option.map_eq_some_iff.mp hx
   have hi:i<kins.length:=by rw[← h2];exact(List.getElem?_eq_some_iff.mp et).1
   have ek:=List.getElem?_eq_getElem hi
   generalize kins[i]=p at ek
   have hp:=s2 _ _ (h3 i t p et ek)
   have hl:((kins.take i).filter (Mir.eU c)).length≤100:=Nat.le_trans (List.length_filter_le _ _) (by rw[List.length_take];omega)
   refine⟨_,rfl,t,_,_,_,rfl,rfl,SqT.of hp,rfl,_,rfl,a,_,_,_,rfl,rfl,SqL.of (s2 _ _ q1),a0,u0,_,_,_,rfl,rfl,SqT.of (s2 _ _ t0),rfl,_,_,rfl,rfl,_,rfl,?_⟩
   have e3:(kins.take (i+1)).filter (Mir.eU c)=(kins.take i).filter (Mir.eU c)++(if Mir.eU c p=true then [p] else []):=by
    rw[Mir.take_snoc ek,List.filter_append,List.filter_cons,List.filter_nil]
   have yes:Mir.eU c p=true→∃ ys,H2 D=some (.lst ys)∧ys.length<sizeLine∧∃ v:Option V,[some (.ref t),some (.ref a)]=[v,some (.ref a)]∧aq H (upd H2 D (.lst (ys++[.ref t])))∧Mir.TsT Mir.pr (upd H2 D (.lst (ys++[.ref t]))) D ((kins.take (i+1)).filter (Mir.eU c)):=fun h=>by
    obtain⟨ys,y1,y2,y3⟩:=hT.snoc hp
    refine⟨ys,y1,aw (by rw[y2];omega),_,rfl,s2.upd hD,?_⟩
    rw[e3,if_pos h]
    exact y3
   have no:¬ Mir.eU c p=true→∃ v:Option V,[some (V.ref t),some (.ref a)]=[v,some (.ref a)]∧aq H H2∧Mir.TsT Mir.pr H2 D ((kins.take (i+1)).filter (Mir.eU c)):=fun h=>by
    refine⟨_,rfl,s2,?_⟩
    rw[e3,if_neg h,List.append_nil]
    exact hT
   have ar:=Mir.hX (c:=c) (k:=p)
   by_cases c1:p.1<(Mir.hd2 c).1
   ·rw[decide_eq_true c1]
    refine gw ?_
    refine⟨_,rfl,_,rfl,a,_,_,_,rfl,rfl,SqL.of (s2 _ _ q1),al,ul,_,_,_,rfl,rfl,SqT.of (s2 _ _ tl),rfl,_,rfl,t,_,_,_,rfl,rfl,SqT.of hp,rfl,_,_,rfl,rfl,_,rfl,?_⟩
    by_cases c2:(Mir.bL c).2<p.2
    ·rw[decide_eq_true c2]
     exact gw ⟨_,rfl,yes (ar.mpr ⟨c1,c2⟩)⟩
    ·rw[decide_eq_false c2]
     exact cJ (no fun z=>c2 (ar.mp z).2)
   ·rw[decide_eq_false c1]
    exact cJ (cJ (no fun z=>c1 (ar.mp z).1))
  ·rintro σ H2 ⟨v,rfl,s2,hT⟩
   rw[List.length_map,h2,List.take_length] at hT
   have hT:Mir.TsT Mir.pr H2 D (Mir.dz kins c):=hT
   have arl:(Mir.dz kins c).length≤60:=Nat.le_trans (List.length_filter_le _ _) hn
   obtain⟨vs,w1,w2,w3⟩:=id hT
   refine⟨_,rfl,by show 0≤sizeLine;decide,fun em hem=>?_⟩
   have s3:aq H2 (upd H2 em (.lst [])):=ag hem
   have u3:upd H2 em (.lst []) em=some (.lst []):=ae
   generalize upd H2 em (.lst [])=H3 at s3 u3
   have w13:=s3 _ _ w1
   refine⟨D,em,_,rfl,rfl,SqL.of w13,SqL.of u3,_,rfl,?_⟩
   rw[List.length_map,w2]
   by_cases c0:Mir.dz kins c=[]
   ·refine iF (decide_eq_true (by rw[c0];rfl)) ?_
    exact(k H3 (s2.trans s3)).1 (Mir.xt c0)
   ·have apos:=List.length_pos_iff.mpr c0
    refine hV (decide_eq_false (by omega)) ?_
    refine⟨_,rfl,D,rfl,⟨_,SqL.of w13⟩,fun D2 hD2=>?_⟩
    refine a5 (K:=K) (a:=D) (xs:=vs.map V.ref) (fun i σ H4=>∃ (v:Option V) (ts:List Addr),σ=[v]∧aq H3 H4∧Mir.WdT H4 D2 ts ((Mir.dz kins c).take i)) ⟨none,[],rfl,ag hD2,ae,rfl,fun i t p e=>by simp at e⟩ (fun i σ H4 _ ⟨_,_,_,s4,_⟩=>SqL.of (s4 _ _ w13)) ?_ ?_
    ·rintro i x σ H4 hx ⟨v,ts,rfl,s4,d1,d2,d3⟩
     rw[List.getElem?_map] at hx
     obtain⟨t,et,rfl⟩:=Option.map_eq_some_iff.mp hx
     have hi:i<(Mir.dz kins c).length:=by rw[← w2];exact(List.getElem?_eq_some_iff.mp et).1
     have ek:=List.getElem?_eq_getElem hi
     generalize (Mir.dz kins c)[i]=p at ek
     have hp:=s4 _ _ (s3 _ _ (w3 i t p et ek))
     rw[List.length_take] at d2
     refine jW ?_
     refine⟨_,rfl,t,_,_,_,rfl,rfl,SqT.of hp,rfl,_,rfl,t,_,_,_,rfl,rfl,SqT.of hp,rfl,_,_,rfl,rfl,_,rfl,by show 2≤sizeLine;decide,fun n hnn=>?_⟩
     have s5:aq H4 (upd H4 n (.tup [.int (p.2-p.1),.ref t])):=ag hnn
     have u5:upd H4 n (.tup [.int (p.2-p.1),.ref t]) n=some (.tup [.int (p.2-p.1),.ref t]):=ae
     refine⟨_,s5 _ _ d1,aw (by rw[List.length_map];omega),_,ts++[n],rfl,(s4.trans s5).upd hD2,by rw[ae,List.map_append];rfl,by rw[List.length_append,List.length_take,d2];show _+1=_;omega,fun j u q e1 e2=>?_⟩
     have nD:∀ {b:Addr} {ys:List V},upd H4 n (.tup [.int (p.2-p.1),.ref t]) b=some (.tup ys)→b≠D2:=fun {b ys} e z=>by
      rw[z,s5 _ _ d1] at e;cases e
     have keep:∀ {b:Addr} {ys:List V},upd H4 n (.tup [.int (p.2-p.1),.ref t]) b=some (.tup ys)→upd (upd H4 n (.tup [.int (p.2-p.1),.ref t])) D2 (.lst (ts.map V.ref++[.ref n])) b=some (.tup ys):=fun e=>by rw[ao (nD e)];exact e
     by_cases z:j<ts.length
     ·rw[List.getElem?_append_left z] at e1
      rw[Mir.take_snoc ek,List.getElem?_append_left (by rw[List.length_take];omega)] at e2
      obtain⟨u',g1,g2⟩:=d3 j u q e1 e2
      exact⟨u',keep (s5 _ _ g1),keep (s5 _ _ g2)⟩
     ·have hj:=(List.getElem?_eq_some_iff.mp e1).1
      rw[List.length_append,List.length_singleton] at hj
      have:j=ts.length:=by omega
      subst this
      rw[List.getElem?_append_right (Nat.le_refl _),Nat.sub_self] at e1
      rw[Mir.take_snoc ek,List.getElem?_append_right (by rw[List.length_take];omega),d2,List.length_take,Nat.sub_self] at e2
      cases e1
      cases e2
      exact⟨t,keep u5,keep (s5 _ _ hp)⟩
    ·rintro σ H4 ⟨v,ts,rfl,s4,hW⟩
     rw[List.length_map,w2,List.take_length] at hW
     obtain⟨ds,dh⟩:=hW.dist LP hwd
     refine⟨D2,ts,Mir.hdI H4,rfl,SqL.of hW.1,by rw[hW.2.1];omega,ds,dh,fun us' l' xH Dt hl'=>?_⟩
     have us0:=List.getElem?_eq_getElem (l:=us') (i:=0) (by rw[xH.length_eq,hW.2.1];omega)
     obtain⟨p,u,g1,g2,g3⟩:=Mir.y0 LP hwd hW xH Dt us0
     generalize us'[0]'(by rw[xH.length_eq,hW.2.1];omega)=t0 at us0 g2
     have s5:aq H4 (upd H4 l' (.lst (us'.map V.ref))):=ag hl'
     refine⟨l',_,_,_,rfl,rfl,SqL.of ae,aW (j:=0) (by rw[List.getElem?_map,us0];rfl),t0,_,_,_,rfl,rfl,SqT.of (s5 _ _ g2),rfl,?_⟩
     exact(k _ ((s2.trans s3).trans (s4.trans s5))).2 u p g1 (s5 _ _ g3)
end
section
seal L2.PSs L2.PS L2.PE L2.PT L2.PA
variable {P:Program}{w:World}{K:PySem.W.Frag}{mg:Str→Option Value}{base:Heap}
theorem mJ {f f1:Addr}{fd fd1:FuncData}(B:Bl mg)(F:Fn K mg "_law_way_up" dv ["kins","chains","kin"] f fd)(cZ:Fn K mg "_law_above" cU ["kins","chain"] f1 fd1):aO P w K mg base CX0 2 f fd ["kins","chains","kin"] Mir.tR:=by
 have qB:aO P w K mg base CX0 1 f1 fd1 ["kins","chain"] Mir.tQ:=o4 B cZ
 refine F.fn.ok dQ (fun vs H Q E h=>?_) (fun cdv A outer s H vs Q E hr h=>?_)
 ·obtain⟨l,lc,t,kins,cs,k,rk,M,root,rfl,_⟩:=h
  rfl
 ·obtain⟨l,lc,t,kins,cs,k,rk,M,root,rfl,hk,hn,LP,hl,hcn,C,hcl,ht,Cc,T,hM,kk⟩:=h
  have hu2:=hr.lt 1 (by decide)
  refine⟨_,(af (aB (i:=3) dQ.nd rfl (Or.inl rfl) (bc ai))
   (af (jb PassesOwn.never (aE nX (pv 2) iN (aI _)) (af (aB (i:=4) dQ.nd rfl (Or.inl rfl) (aR a9 (cG (NC:=["chain","kin"]) rfl (bC (c:=s.heap.objs.size+1) (j:=2) rfl (by decide +kernel) (by decide +kernel) rfl rfl rfl rfl rfl) (aM (pv 1)) (fun _ _ _ _=>(aC (i:=0) (show (["chain","kin"]:List Str).Nodup by decide +kernel) rfl (Or.inl rfl))) (fun _ _ _ _=>(b6 (aE (NK.oC (hr.lt 1 (by decide))) (pv 1) (pv 0) (by with_unfolding_all rfl)))) (fun _ _ _ _=>(pv 0))) aj (fun _ _=>rfl)))
   (af (b5 (fj PySem.F.plainAttrs_list PySem.F.slot_list_extend PySem.F.type_list_extend m5 (pv 3) (ab (bc (ab (pv 2) (ab (iP (ab zM (ab (aR a9 (pv 4) aj (fun _ _=>rfl)) ai))) ai))) ai)))
   (au (aB (i:=2) dQ.nd rfl (Or.inr rfl) (aY qB cZ (hr.mono (by decide)) (ab (pv 0) (ab (pv 4) ai))))))))
   (au (aQ (pv 3))))),?_⟩
  refine⟨by show 0≤sizeLine;decide,fun lw hlw=>?_⟩
  have s0:aq H (upd H lw (.lst [])):=ag hlw
  have w0:upd H lw (.lst []) lw=some (.lst []):=ae
  generalize upd H lw (.lst [])=H0 at s0 w0
  have rk0:rk (.inl k)≤M:=T.mx _ (Mir.br.mpr (.inl ⟨k,Cc,rfl⟩))
  have wl0:=Mir.iz (up:=Mir.upK kins cs) 200 (.inl k)
  refine⟨fun m σ H2=>∃ (dn:List Mir.Nod) (cv:V) (v4:Option V),σ=[some (.ref l),some (.ref lc),some cv,some (.ref lw),v4]∧aq H H2∧NK.Ths H2 lw (dn.map Mir.lI)∧((cv=.non∧dn=Mir.cL (Mir.upK kins cs) 200 (.inl k))∨∃ (u:Addr) (p:Mir.Pr2),cv=.ref u∧H2 u=some (.tup (Mir.pr p))∧p∈kins∧rk (.inl p)<m∧dn++Mir.cL (Mir.upK kins cs) m (.inl p)=Mir.cL (Mir.upK kins cs) 200 (.inl k)),⟨200,[],_,_,rfl,s0,⟨[],w0,rfl,fun i b x e=>by simp at e⟩,.inr ⟨t,k,rfl,s0 _ _ ht,Cc,by omega,rfl⟩⟩,?_⟩
  rintro m σ H2 ⟨dn,cv,v4,rfl,s2,tw,alt⟩
  refine⟨_,rfl,rfl,_,rfl,?_⟩
  rcases alt with ⟨rfl,edn⟩ | ⟨u,p,rfl,hu,hp,hrk,edn⟩
  ·refine hV rfl ?_
   refine⟨_,rfl,kk lw H2 hlw s2 ?_⟩
   rw[← edn]
   exact tw
  ·refine iF rfl ?_
   refine⟨_,fun _ _ q=>q,?_⟩
   obtain⟨ls,L1,l2,L3⟩:=id hl
   have l1:=s2 _ _ L1
   have l3:=fun (i:Nat) (a:Addr) (c:List Mir.Pr2) e1 e2=>(L3 i a c e1 e2).same s2
   have D3:=hk.same s2
   have nlw:∀ {b:Addr} {o:HO},H b=some o→b≠lw:=fun {b o} e z=>by rw[z,hlw] at e;cases e
   obtain⟨c,hc,hpc⟩:=C.all p hp
   obtain⟨j0,hj0,ej0⟩:=List.getElem_of_mem hc
   have ec0:cs[j0]?=some c:=by rw[List.getElem?_eq_getElem hj0,ej0]
   refine⟨_,rfl,lc,rfl,⟨_,SqL.of l1⟩,fun D hD=>?_⟩
   refine a5 (K:=K) (a:=lc) (xs:=ls.map V.ref) (fun j σ H3=>∃ (v:Option V) (fs:List Addr),σ=[v,some (.ref u)]∧aq H2 H3∧H3 D=some (.lst (fs.map V.ref))∧fs.length≤j∧((fs=[]∧∀ m,m<j→∀ c,cs[m]?=some c→p ∉ c)∨∃ (m:Nat) (a:Addr) (c:List Mir.Pr2),fs.head?=some a∧ls[m]?=some a∧cs[m]?=some c∧p∈c)) ⟨none,[],rfl,ag hD,ae,Nat.le_refl _,.inl ⟨rfl,fun m hm=>absurd hm (Nat.not_lt_zero _)⟩⟩ (fun j σ H3 _ ⟨_,_,_,s3,_⟩=>SqL.of (s3 _ _ l1)) ?_ ?_
   ·rintro j x σ H3 hx ⟨v,fs,rfl,s3,hD3,fl3,alt⟩
    rw[List.getElem?_map] at hx
    obtain⟨a,ea,rfl⟩:=Option.map_eq_some_iff.mp hx
    have hj:j<ls.length:=(List.getElem?_eq_some_iff.mp ea).1
    have ec:=List.getElem?_eq_getElem (l:=cs) (i:=j) (by omega)
    generalize cs[j]'(by omega)=d at ec
    have td:=(l3 j a d ea ec).same s3
    refine⟨_,rfl,_,rfl,u,a,Mir.pN p,_,rfl,rfl,NK.K2.pair (s3 _ _ hu),td.ths,_,rfl,?_⟩
    by_cases cc:p∈d
    ·rw[decide_eq_true (Mir.xw.mpr cc)]
     refine gw ⟨_,rfl,_,hD3,aw (by rw[List.length_map];omega),_,fs++[a],rfl,s3.upd hD,by rw[ae,List.map_append];rfl,by rw[List.length_append,List.length_singleton];omega,.inr ?_⟩
     rcases alt with ⟨rfl,no⟩ | ⟨m,b,e,g1,g2,g3⟩
     ·exact⟨j,a,d,rfl,ea,ec,cc⟩
     ·refine⟨m,b,e,?_,g2,g3⟩
      cases fs with
      | nil=>cases g1
      | cons y r=>exact g1
    ·rw[decide_eq_false (fun z=>cc (Mir.xw.mp z))]
     refine cJ ⟨_,fs,rfl,s3,hD3,by omega,?_⟩
     rcases alt with ⟨rfl,no⟩ | ⟨m,b,e,g1,g2,g3⟩
     ·refine .inl ⟨rfl,fun m hm e he=>?_⟩
      by_cases z:m=j
      ·subst z;rw[ec] at he;cases he;exact cc
      ·exact no m (by omega) e he
     ·exact .inr ⟨m,b,e,g1,g2,g3⟩
   ·rintro σ H3 ⟨v,fs,rfl,s3,hD3,fl3,alt⟩
    rw[List.length_map] at fl3 alt
    rcases alt with ⟨rfl,no⟩ | ⟨m1,a,d,g1,g2,g3,g4⟩
    ·exact absurd hpc (no j0 (by omega) c ec0)
    ·have edc:d=c:=C.uq d (List.mem_of_getElem? g3) c hc p g4 hpc
     subst edc
     cases fs with
     | nil=>cases g1
     | cons y r =>
      cases g1
      have ta:=(l3 m1 a d g2 g3).same s3
      have dne:=C.ne d hc
      obtain⟨av,t0,a1,a2,a3⟩:=ta.first dne
      refine⟨D,_,_,_,rfl,rfl,SqL.of hD3,aW (j:=0) rfl,?_⟩
      have tw3:=NK.Ths.same tw s3
      obtain⟨wv,w1,w2⟩:=tw3.len
      refine⟨_,rfl,.inl ⟨rfl,_,SqL.of w1⟩,_,rfl,_,rfl,a,_,_,_,rfl,rfl,SqL.of a1,a2,by show 2≤sizeLine;decide,fun n hnn=>?_⟩
      have s4:aq H3 (upd H3 n (.tup [.str "chain",.ref t0])):=ag hnn
      have u4:upd H3 n (.tup [.str "chain",.ref t0]) n=some (.tup [.str "chain",.ref t0]):=ae
      generalize upd H3 n (.tup [.str "chain",.ref t0])=H4 at s4 u4
      refine⟨by show 2≤sizeLine;decide,fun q hq=>?_⟩
      have s5:aq H4 (upd H4 q (.lst [.ref u,.ref n])):=ag hq
      have u5:upd H4 q (.lst [.ref u,.ref n]) q=some (.lst [.ref u,.ref n]):=ae
      generalize upd H4 q (.lst [.ref u,.ref n])=H5 at s5 u5
      have s35:=s4.trans s5
      have tw5:=NK.Ths.same tw3 s35
      obtain⟨xs,x1,x2,x3⟩:=tw5.two (NK.K2.pair ((s3.trans s35) _ _ hu)) (Mir.A4 (s5 _ _ u4) (s35 _ _ a3))
      obtain⟨m',rfl⟩:∃ m',m=m'+2:=⟨m-2,by have:=T.lt _ _ (C.upC hc g4);omega⟩
      have est:=Mir.xu C hc g4 m'
      have dl:dn.length≤200:=by
       have:=congrArg List.length edn
       rw[List.length_append] at this
       omega
      refine⟨lw,q,_,_,rfl,rfl,x1,u5,Nat.le_of_lt (aw (by rw[x2,List.length_map];show _+2≤_;omega)),?_⟩
      have s2':aq H (upd H5 lw (.lst (xs++[.ref u,.ref n]))):=((s2.trans s3).trans s35).upd hlw
      have nql:∀ {b:Addr} {o:HO},H3 b=some o→b≠lw→upd H5 lw (.lst (xs++[.ref u,.ref n])) b=some o:=fun {b o} e z=>by rw[ao z];exact s35 _ _ e
      have nal:a≠lw:=by
       obtain⟨_,q,_⟩:=L3 m1 a d g2 g3
       exact nlw q
      have ta6:Mir.TsT Mir.pr (upd H5 lw (.lst (xs++[.ref u,.ref n]))) a d:=(ta.same s35).other x1 (Ne.symm nal)
      generalize upd H5 lw (.lst (xs++[.ref u,.ref n]))=H6 at x3 s2' ta6
      have e2:(dn++[Sum.inl p,Sum.inr (Mir.hd2 d)]).map Mir.lI=dn.map Mir.lI++[Mir.pN p,Mir.chN (Mir.hd2 d)]:=by rw[List.map_append];rfl
      have x3':NK.Ths H6 lw ((dn++[Sum.inl p,Sum.inr (Mir.hd2 d)]).map Mir.lI):=by rw[e2];exact x3
      have wd:(Mir.hd2 d).1<(Mir.bL d).2:=by
       have h1:=Mir.fI dne
       have h2:=LP.pos _ (C.sub d hc _ h1)
       have h3:=C.hi d hc _ h1
       omega
      refine⟨_,rfl,_,rfl,l,a,kins,d,rfl,hk.same s2',hn,LP,ta6,dne,wd,fun H7 s7=>⟨fun hs=>?_,fun t' k' hs ht'=>?_⟩⟩
      ·refine⟨m',by omega,_,_,_,rfl,s2'.trans s7,NK.Ths.same x3' s7,.inl ⟨rfl,?_⟩⟩
       rw[est,hs] at edn
       rw[← edn]
       rfl
      ·refine⟨m',by omega,_,_,_,rfl,s2'.trans s7,NK.Ths.same x3' s7,.inr ⟨t',k',rfl,ht',?_,?_,?_⟩⟩
       ·exact(Mir.ft (by rw[hs];exact List.mem_singleton.mpr rfl)).1
       ·have h1:=T.lt _ _ (C.upC hc g4)
        have h2:=T.lt (.inr (Mir.hd2 d)) (.inl k') (by rw[C.upS hc,hs];rfl)
        omega
       ·rw[est,hs] at edn
        rw[← edn,List.append_assoc]
        rfl
end
section
seal L2.PSs L2.PS L2.PE L2.PT L2.PA
variable {P:Program}{w:World}{K:PySem.W.Frag}{mg:Str→Option Value}{base:Heap}
theorem mi {f:Addr}{fd:FuncData}(B:Bl mg)(F:Fn K mg "_law_between" cO ["one","two"] f fd):aO P w K mg base CX0 1 f fd ["one","two"] Mir.zE:=by
 refine F.fn.ok fD (fun vs H Q E h=>?_) (fun cdv A outer s H vs Q E hr h=>?_)
 ·obtain⟨a,b,one,two,rfl,_⟩:=h
  rfl
 ·obtain⟨a,b,one,two,rfl,h1,h2,l1,l2,k⟩:=h
  have hu2:=hr.lt 1 (by decide)
  refine⟨_,(af (b7 (ix:=2) (NC:=["thing","two"]) fD.nd rfl (Or.inl rfl) rfl (bC (c:=s.heap.objs.size+1) (j:=1) rfl (by decide +kernel) (by decide +kernel) rfl rfl rfl rfl rfl) (aM (pv 0)) (fun _ _ _ _=>(aC (i:=0) (show (["thing","two"]:List Str).Nodup by decide +kernel) rfl (Or.inl rfl))) (fun _ _ _ _=>(b6 (aE (NK.oC (hr.lt 1 (by decide))) (pv 0) (pv 1) (by with_unfolding_all rfl)))) (fun _ _ _ _=>(pv 0)))
   (af (bT (aE (iX (K:=K) rfl (Nat.lt_of_succ_lt (Nat.lt_of_succ_lt hu2))) (pv 2) (bc ai) (aI _)) (au (aQ (aD eG (pv 0) (ou rfl rfl B.list rfl B.reversed (ab (pv 1) ai))))) a8)
   (af (aB (i:=3) fD.nd rfl (Or.inl rfl) (aR a9 (pv 2) aj (fun _ _=>rfl)))
   (au (aQ (aD eG (cq c9 (pv 0) c7 (c8 (aD aX (fj PySem.F.plainAttrs_list PySem.F.slot_list_index PySem.F.type_list_index (NK.nH hu2) (pv 0) (ab (pv 3) ai)) aj))) (ou rfl rfl B.list rfl B.reversed (ab (cq c9 (pv 1) c7 (c8 (fj PySem.F.plainAttrs_list PySem.F.slot_list_index PySem.F.type_list_index (NK.nH hu2) (pv 1) (ab (pv 3) ai)))) ai)))))))),?_⟩
  obtain⟨os,o1,o2⟩:=h1.thv
  obtain⟨ts,t1,t2⟩:=h2.thv
  have ol:=o2.1
  have tl:=t2.1
  refine⟨_,rfl,a,rfl,⟨_,SqL.of o1⟩,fun D hD=>?_⟩
  refine a5 (K:=K) (a:=a) (xs:=os.map V.ref) (fun i σ H2=>∃ v:Option V,σ=[v,some (.ref b)]∧aq H H2∧NK.Ths H2 D ((one.take i).filter (Mir.inB two))) ⟨none,rfl,ag hD,[],ae,rfl,fun i b k e=>by simp at e⟩ (fun i σ H2 _ ⟨_,_,s2,_⟩=>SqL.of (s2 _ _ o1)) ?_ ?_
  ·rintro i x σ H2 hx ⟨v,rfl,s2,hT⟩
   rw[List.getElem?_map] at hx
   obtain⟨t,et,rfl⟩:=Option.map_eq_some_iff.mp hx
   have hi:i<one.length:=by rw[← ol];exact(List.getElem?_eq_some_iff.mp et).1
   have ek:=List.getElem?_eq_getElem hi
   generalize one[i]=p at ek
   have kp:=NK.K2.same (o2.2 i t p et ek) s2
   have e3:(one.take (i+1)).filter (Mir.inB two)=(one.take i).filter (Mir.inB two)++(if p∈two then [p] else []):=by
    rw[Mir.take_snoc ek,List.filter_append,List.filter_cons,List.filter_nil]
    by_cases c:p∈two
    ·rw[if_pos (Mir.bI.mpr c),if_pos c]
    ·rw[if_neg (fun z=>c (Mir.bI.mp z)),if_neg c]
   have hl:((one.take i).filter (Mir.inB two)).length≤200:=Nat.le_trans (List.length_filter_le _ _) (by rw[List.length_take];omega)
   refine⟨_,rfl,_,rfl,t,b,p,two,rfl,rfl,kp,NK.Ths.same h2 s2,_,rfl,?_⟩
   by_cases c:p∈two
   ·rw[decide_eq_true c]
    obtain⟨ys,y1,y2,y3⟩:=hT.snoc kp
    refine gw ⟨_,rfl,ys,y1,aw (by rw[y2];omega),_,rfl,s2.upd hD,?_⟩
    rw[e3,if_pos c]
    exact y3
   ·rw[decide_eq_false c]
    refine cJ ⟨_,rfl,s2,?_⟩
    rw[e3,if_neg c,List.append_nil]
    exact hT
  ·rintro σ H2 ⟨v,rfl,s2,hT⟩
   rw[List.length_map,ol,List.take_length] at hT
   obtain⟨sv,v1,v2⟩:=hT.thv
   have sl:=v2.1
   refine⟨_,rfl,by show 0≤sizeLine;decide,fun em hem=>?_⟩
   have s3:aq H2 (upd H2 em (.lst [])):=ag hem
   have u3:upd H2 em (.lst []) em=some (.lst []):=ae
   generalize upd H2 em (.lst [])=H3 at s3 u3
   have s03:=s2.trans s3
   refine⟨D,em,_,rfl,rfl,SqL.of (s3 _ _ v1),SqL.of u3,_,rfl,?_⟩
   rw[List.length_map,sl]
   cases ef:one.filter (Mir.inB two) with
   | nil =>
    rw[Mir.y4 ef] at k
    refine iF (decide_eq_true rfl) ?_
    refine⟨_,rfl,_,rfl,b,_,rfl,SqL.of (s03 _ _ t1),fun r hr3=>?_⟩
    have s4:aq H3 (upd H3 r (.lst (ts.map V.ref).reverse)):=ag hr3
    refine⟨a,r,_,_,rfl,rfl,(s03.trans s4) _ _ o1,ae,Nat.le_of_lt (aw (by rw[List.length_map,List.length_reverse,List.length_map];omega)),fun q hq=>?_⟩
    have s5:=ag hq (o:=.lst (os.map V.ref++(ts.map V.ref).reverse))
    refine k q _ ((s03.trans s4).free hq) ((s03.trans s4).trans s5) ?_
    refine((o2.same ((s03.trans s4).trans s5)).app (t2.same ((s03.trans s4).trans s5)).rev).ths ?_
    rw[ae,List.map_append,List.map_reverse]
   | cons top rest =>
    rw[ef] at hT sl v2
    rw[Mir.xx ef] at k
    refine hV (decide_eq_false (by show ¬ rest.length+1=0;omega)) ?_
    have e0:=List.getElem?_eq_getElem (l:=sv) (i:=0) (by rw[sl];exact Nat.succ_pos _)
    generalize sv[0]'(by rw[sl];exact Nat.succ_pos _)=bt at e0
    have kt:=NK.K2.same (v2.2 0 bt top e0 rfl) s3
    have mt:top∈one.filter (Mir.inB two):=by rw[ef];exact List.mem_cons_self
    obtain⟨m1,m2⟩:=List.mem_filter.mp mt
    have m2:=Mir.bI.mp m2
    obtain⟨g1,g2⟩:=Mir.rH m1
    obtain⟨g3,g4⟩:=Mir.rH m2
    have i1:=Mir.xa m1
    have i2:=Mir.xa m2
    refine⟨_,rfl,D,_,_,_,rfl,rfl,SqL.of (s3 _ _ v1),aW (j:=0) (by rw[List.getElem?_map,e0];rfl),?_⟩
    have ec1:jd (os.map V.ref) none (some ((Mir.cH top one:Nat)+1:Int))=(os.take (Mir.cH top one+1)).map V.ref:=by
     rw[show ((Mir.cH top one:Nat)+1:Int)=((Mir.cH top one+1:Nat):Int) by omega,Mir.jZ (by rw[List.length_map];omega),List.map_take]
    have ec2:jd (ts.map V.ref) none (some ((Mir.cH top two:Nat):Int))=(ts.take (Mir.cH top two)).map V.ref:=by
     rw[Mir.jZ (by rw[List.length_map];omega),List.map_take]
    refine⟨_,rfl,_,rfl,.inl ⟨rfl,_,SqL.of (s03 _ _ o1)⟩,_,rfl,a,bt,top,one,_,rfl,rfl,kt,NK.Ths.same h1 s03,g1,g2,_,_,rfl,rfl,((Mir.cH top one:Nat)+1:Int),rfl,a,os.map V.ref,rfl,SqL.of (s03 _ _ o1),fun p1 hp1=>?_⟩
    rw[ec1]
    have s4:aq H3 (upd H3 p1 (.lst ((os.take (Mir.cH top one+1)).map V.ref))):=ag hp1
    have u4:upd H3 p1 (.lst ((os.take (Mir.cH top one+1)).map V.ref)) p1=some (.lst ((os.take (Mir.cH top one+1)).map V.ref)):=ae
    generalize upd H3 p1 (.lst ((os.take (Mir.cH top one+1)).map V.ref))=H4 at s4 u4
    have s04:=s03.trans s4
    refine⟨_,rfl,_,rfl,.inl ⟨rfl,_,SqL.of (s04 _ _ t1)⟩,_,rfl,b,bt,top,two,_,rfl,rfl,NK.K2.same kt s4,NK.Ths.same h2 s04,g3,g4,((Mir.cH top two:Nat):Int),rfl,b,ts.map V.ref,rfl,SqL.of (s04 _ _ t1),fun p2 hp2=>?_⟩
    rw[ec2]
    have s5:aq H4 (upd H4 p2 (.lst ((ts.take (Mir.cH top two)).map V.ref))):=ag hp2
    have u5:upd H4 p2 (.lst ((ts.take (Mir.cH top two)).map V.ref)) p2=some (.lst ((ts.take (Mir.cH top two)).map V.ref)):=ae
    generalize upd H4 p2 (.lst ((ts.take (Mir.cH top two)).map V.ref))=H5 at s5 u5
    have s05:=s04.trans s5
    refine⟨p2,_,rfl,SqL.of u5,fun p3 hp3=>?_⟩
    have s6:aq H5 (upd H5 p3 (.lst ((ts.take (Mir.cH top two)).map V.ref).reverse)):=ag hp3
    refine⟨p1,p3,_,_,rfl,rfl,(s5.trans s6) _ _ u4,ae,Nat.le_of_lt (aw (by rw[List.length_map,List.length_reverse,List.length_map,List.length_take,List.length_take];omega)),fun q hq=>?_⟩
    have s7:=ag hq (o:=.lst ((os.take (Mir.cH top one+1)).map V.ref++((ts.take (Mir.cH top two)).map V.ref).reverse))
    have s07:=(s05.trans s6).trans s7
    refine k q _ ((s05.trans s6).free hq) s07 ?_
    refine(((o2.same s07).take _).app ((t2.same s07).take _).rev).ths ?_
    rw[ae,List.map_append,List.map_reverse]
end
section
seal L2.PSs L2.PS L2.PE L2.PT L2.PA
variable {P:Program}{w:World}{K:PySem.W.Frag}{mg:Str→Option Value}{base:Heap}
theorem rV {f f1 f2 f3 f4:Addr}{fd fd1 fd2 fd3 fd4:FuncData}(B:Bl mg)(F:Fn K mg "_law_web" iB ["kins","knots"] f fd)(eY:Fn K mg "_law_chains" dt ["kins"] f1 fd1)(dy:Fn K mg "_law_way_up" dv ["kins","chains","kin"] f2 fd2)(cZ:Fn K mg "_law_above" cU ["kins","chain"] f3 fd3)(dR:Fn K mg "_law_between" cO ["one","two"] f4 fd4):aO P w K mg base CX0 3 f fd ["kins","knots"] (Mir.qu P w):=by
 have o5:aO P w K mg base CX0 1 f1 fd1 ["kins"] Mir.tP:=mI B eY
 have jO:aO P w K mg base CX0 2 f2 fd2 ["kins","chains","kin"] Mir.tR:=mJ B dy cZ
 have mK:aO P w K mg base CX0 1 f4 fd4 ["one","two"] Mir.zE:=mi B dR
 refine F.fn.ok bz (fun vs H Q E h=>?_) (fun cdv A outer s H vs Q E hr h=>?_)
 ·obtain⟨l,lk,rs,rfl,_⟩:=h
  rfl
 ·obtain⟨l,lk,rs,rfl,fit,hk,hK,kk⟩:=h
  have hu2:=hr.lt 1 (by decide)
  refine⟨_,(af (aB (i:=2) bz.nd rfl (Or.inl rfl) (aY o5 eY (hr.mono (by decide)) (ab (pv 0) ai)))
   (af (aB (i:=3) bz.nd rfl (Or.inl rfl) (NK.jo (P:=P) (w:=w) rfl rfl))
   (af (bq PassesOwn.never rfl (aM (pv 1)) (aC (i:=4) bz.nd rfl (Or.inl rfl)) (au (NK.fZ (P:=P) (w:=w) rfl rfl hu2 (pv 3) (pv 4) (bc ai) rfl)))
   (af (bq PassesOwn.never rfl (aM (pv 1)) (aC (i:=5) bz.nd rfl (Or.inl rfl)) (au (bq PassesOwn.never rfl (aM (pv 1)) (aC (i:=6) bz.nd rfl (Or.inl rfl)) (au (bT (aE (NK.wb (hr.lt 0 (by decide))) (pv 5) (pv 6) (aI _)) (af (aB (i:=7) bz.nd rfl (Or.inl rfl) (aY mK dR (hr.mono (by decide)) (ab (aY jO dy (hr.mono (by decide)) (ab (pv 0) (ab (pv 2) (ab (pv 5) ai)))) (ab (aY jO dy (hr.mono (by decide)) (ab (pv 0) (ab (pv 2) (ab (pv 6) ai)))) ai))))
   (au (bq PassesOwn.never rfl (fV rfl B.range (ab (aD iO (aG aF rfl B.len bg (ab (pv 7) ai)) aj) ai)) (aC (i:=8) bz.nd rfl (Or.inl rfl)) (af (NK.fZ (P:=P) (w:=w) rfl rfl hu2 (pv 3) (aR a9 (pv 7) (pv 8) (fun _ _=>rfl)) (aD eG (NK.xp (P:=P) (w:=w) rfl rfl hu2 (pv 3) (aR a9 (pv 7) (pv 8) (fun _ _=>rfl)) (bc ai) ⟨rfl,rfl,rfl,rfl⟩) (bc (ab (aR a9 (pv 7) (aD aX (pv 8) aj) (fun _ _=>rfl)) ai))) rfl)
   (au (NK.fZ (P:=P) (w:=w) rfl rfl hu2 (pv 3) (aR a9 (pv 7) (aD aX (pv 8) aj) (fun _ _=>rfl)) (aD eG (NK.xp (P:=P) (w:=w) rfl rfl hu2 (pv 3) (aR a9 (pv 7) (aD aX (pv 8) aj) (fun _ _=>rfl)) (bc ai) ⟨rfl,rfl,rfl,rfl⟩) (bc (ab (aR a9 (pv 7) (pv 8) (fun _ _=>rfl)) ai))) rfl)))))) a8)))))
   (eI (R:=fun D σ H2=>∃ (lc a:Addr) (es:Mir.Es) (W:Mir.Web) (v4 v5 v6 v7 v8:Option V),σ=[some (.ref l),some (.ref lk),some (.ref lc),some (.ref a),v4,v5,v6,v7,v8,none,none,none]∧aq H H2∧H a=none∧Mir.WbT P w H2 a es W∧Mir.LwI rs 3000000 W∧Mir.Cmp rs (Mir.KN rs).length 0 W∧(∀ p∈Mir.KN rs,Mir.pN p∈Mir.az W)∧D.rt=Q) fun D σ H2 hR=>?rest))))),?_⟩
  case rest =>
   obtain⟨lc,a,es,W,v4,v5,v6,v7,v8,rfl,s2,ha,T,LI,CC,KK,hD⟩:=hR
   refine⟨_,(af (aB (i:=9) bz.nd rfl (Or.inl rfl) (NK.jo (P:=P) (w:=w) rfl rfl))
   (af (bq PassesOwn.never rfl (NK.qY (P:=P) (w:=w) rfl rfl (pv 3)) (aC (i:=10) bz.nd rfl (Or.inl rfl)) (af (NK.fZ (P:=P) (w:=w) rfl rfl hu2 (pv 9) (pv 10) (bc ai) rfl)
   (au (bq PassesOwn.never rfl (aM (NK.ly (P:=P) (w:=w) rfl rfl hu2 (pv 3) (pv 10) (fun _ _=>rfl))) (aC (i:=11) bz.nd rfl (Or.inl rfl)) (au (bT (aE (NK.j3 hu2) (pv 11) (NK.cw (P:=P) (w:=w) rfl rfl hu2 (pv 9) (pv 10) (fun _ _=>rfl)) (by with_unfolding_all rfl)) (au (b5 (fj PySem.F.plainAttrs_list PySem.F.slot_list_append PySem.F.type_list_append bE (NK.cw (P:=P) (w:=w) rfl rfl hu2 (pv 9) (pv 10) (fun _ _=>rfl)) (ab (pv 11) ai)))) a8))))))
   (au (aQ (pv 9))))),?_⟩
   intro b hb
   have nba:b≠a:=fun z=>by have q:=T.d.1;rw[← z,hb] at q;cases q
   have T3:=T.same (ag hb (o:=NK.d2O P w b []))
   refine⟨_,rfl,a,Mir.eV es,rfl,T3.d,fun o=>?_⟩
   rw[Mir.qf (Ne.symm (Ne.symm nba))]
   have sF:∀ {c:Addr} {ho:HO},H2 c=some ho→c≠a→upd H2 a (NK.d2F P w a (Mir.eV es) o) c=some ho:=fun {c ho} e n=>by rw[ao n];exact e
   have DF:NK.D2f P w (upd H2 a (NK.d2F P w a (Mir.eV es) o)) a (Mir.eV es) o:=T.d.to
   have nl:∀ {c:Addr} {vs:List V},H2 c=some (.lst vs)→c≠a:=fun {c vs} e z=>by rw[z,T.d.1] at e;cases e
   have nt:∀ {c:Addr} {vs:List V},H2 c=some (.tup vs)→c≠a:=fun {c vs} e z=>by rw[z,T.d.1] at e;cases e
   have thF:∀ {c:Addr} {L:List Mir.Nd},NK.Ths H2 c L→NK.Ths (upd H2 a (NK.d2F P w a (Mir.eV es) o)) c L:=fun {c L} q=>by
    obtain⟨bs,h1,h2,h3⟩:=q
    exact⟨bs,sF h1 (nl h1),h2,fun i b k e1 e2=>(h3 i b k e1 e2).keep fun c ys e=>sF e (nt e)⟩
   have rF:=Paired.mn T.r (G:=Mir.RW (upd H2 a (NK.d2F P w a (Mir.eV es) o))) fun e t q=>⟨q.1,thF q.2⟩
   have sG:aq H (upd H2 a (NK.d2F P w a (Mir.eV es) o)):=s2.upd ha
   have gb:upd H2 a (NK.d2F P w a (Mir.eV es) o) b=none:=by rw[ao nba];exact hb
   generalize upd H2 a (NK.d2F P w a (Mir.eV es) o)=G at DF rF sG gb
   have esl:es.length=W.length:=T.r.length
   have ev:(Mir.eV es).length=es.length:=by unfold Mir.eV;rw[List.length_map]
   have wz:=LI.size fit
   have T0:Mir.WbT P w (upd G b (NK.d2O P w b [])) b [] []:=⟨⟨ae,fun p hp=>absurd hp List.not_mem_nil⟩,.nil,List.nodup_nil⟩
   refine NK.A2 (fun i σ H4=>∃ (es2:Mir.Es) (v10 v11:Option V),σ=[some (.ref l),some (.ref lk),some (.ref lc),some (.ref a),v4,v5,v6,v7,v8,some (.ref b),v10,v11]∧aq G H4∧Mir.oM G es2∧Mir.WbT P w H4 b es2 ((W.take i).map Mir.ddT)) ⟨[],none,none,rfl,ag gb,fun e h=>absurd h List.not_mem_nil,T0⟩ (fun i σ H4 _ ⟨_,_,_,_,s4,_⟩=>⟨s4 _ _ DF.1,fun p hp=>NK.K2.same (DF.2 p hp) s4⟩) ?_ ?_
   ·rintro i kx b' v σ H4 hx ⟨es2,v10,v11,rfl,s4,nw,T4⟩
    obtain⟨l',he,rfl⟩:=Mir.wN hx
    obtain⟨t,ht,q1,q2⟩:=Mir.j8 rF he
    have q1:kx=t.1:=q1
    subst q1
    have hm:=List.mem_of_getElem? he
    have hkG:NK.K2 G t.1 b':=DF.2 _ (List.mem_map.mpr ⟨_,hm,rfl⟩)
    have vv:=Mir.lR (by rw[Mir.dk T.r];exact LI.nd) hm
    have hil:i<W.length:=(List.getElem?_eq_some_iff.mp ht).1
    have htl:t.2.length≤3000000:=by rw[← Mir.lkN LI.nd (List.mem_of_getElem? ht)];exact LI.len _
    have nin:t.1 ∉ Mir.az ((W.take i).map Mir.ddT):=fun z=>by
     rw[Mir.fw] at z
     obtain⟨u,hu,eu⟩:=Mir.mem_keys.mp z
     obtain⟨j,hj⟩:=List.getElem?_of_mem hu
     rw[List.getElem?_take] at hj
     by_cases c:j<i
     ·rw[if_pos c] at hj
      have nd:=LI.nd
      unfold Mir.az at nd
      have:=(List.getElem?_inj (by rw[List.length_map];exact(List.getElem?_eq_some_iff.mp hj).1) nd).mp (show (W.map (·.1))[j]?=(W.map (·.1))[i]? by rw[List.getElem?_map,List.getElem?_map,hj,ht];show some u.1=some t.1;rw[eu])
      omega
     ·rw[if_neg c] at hj;cases hj
    have ndp:(Mir.az ((W.take i).map Mir.ddT)).Nodup:=by
     rw[Mir.fw]
     unfold Mir.az
     rw[List.map_take]
     exact LI.nd.sublist (List.take_sublist _ _)
    refine⟨by show 0≤sizeLine;decide,fun n hn=>?_⟩
    have s5:aq H4 (upd H4 n (.lst [])):=ag hn
    have n5:upd H4 n (.lst []) n=some (.lst []):=ae
    generalize upd H4 n (.lst [])=H5 at s5 n5
    have T5:=T4.same s5
    have El:es2.length≤200:=by rw[T4.r.length,List.length_map,List.length_take];omega
    refine⟨_,rfl,_,rfl,b,b',_,t.1,rfl,rfl,T5.d,NK.K2.same hkG (s4.trans s5),aw (by unfold Mir.eV;rw[List.length_map];omega),?_⟩
    have T6:=T5.put (k:=t.1) (b:=b') (l:=n) (ks:=[]) nin (NK.K2.same hkG (s4.trans s5)) ⟨[],n5,rfl,fun i b k e=>by simp at e⟩ (T4.fresh hn)
    have s6:aq G (upd H5 b (NK.d2O P w b (NK.put2 (Mir.eV es2) t.1 b' (.ref n)))):=(s4.trans s5).upd gb
    have nw6:Mir.oM G (es2++[(t.1,b',n)]):=fun e he=>by
     rcases List.mem_append.mp he with he | he
     ·exact nw e he
     ·rw[List.mem_singleton.mp he];exact s4.free hn
    generalize es2++[(t.1,b',n)]=es3 at T6 nw6
    generalize upd H5 b (NK.d2O P w b (NK.put2 (Mir.eV es2) t.1 b' (.ref n)))=H6 at T6 s6
    obtain⟨ts,t1,t2⟩:=q2.thv
    have tsl:=t2.1
    refine⟨_,rfl,_,rfl,a,b',_,o,t.1,_,rfl,rfl,⟨s6 _ _ DF.1,fun p hp=>NK.K2.same (DF.2 p hp) s6⟩,NK.K2.same hkG s6,vv,l',rfl,⟨_,SqL.of (s6 _ _ t1)⟩,bo (K:=K) (a:=l') (xs:=ts.map V.ref) (fun j σ H7=>∃ v11:Option V,σ=[some (.ref l),some (.ref lk),some (.ref lc),some (.ref a),v4,v5,v6,v7,v8,some (.ref b),some (.ref b'),v11]∧aq G H7∧Mir.WbT P w H7 b es3 ((W.take i).map Mir.ddT++[(t.1,Mir.dd (t.2.take j))])) ⟨_,rfl,s6,T6⟩ (fun j σ H7 _ ⟨_,_,s7,_⟩=>SqL.of (s7 _ _ t1)) ?_ ?_⟩
    ·rintro j x σ H7 hx ⟨Du,rfl,s7,T7⟩
     rw[List.getElem?_map] at hx
     obtain⟨yb,eyb,rfl⟩:=Option.map_eq_some_iff.mp hx
     have hj:j<t.2.length:=by rw[← tsl];exact(List.getElem?_eq_some_iff.mp eyb).1
     have ey:=List.getElem?_eq_getElem hj
     generalize t.2[j]=y at ey
     have ky:=NK.K2.same (t2.2 j yb y eyb ey) s7
     have nd7:(Mir.az ((W.take i).map Mir.ddT++[(t.1,Mir.dd (t.2.take j))])).Nodup:=by
      unfold Mir.az
      rw[List.map_append,List.nodup_append]
      exact⟨ndp,by simp,fun x hx y hy e=>nin (by rw[List.map_singleton,List.mem_singleton] at hy;rw[hy] at e;rw[← e];exact hx)⟩
     obtain⟨b0,l0,m0,v0,th0,_⟩:=T7.at nd7 (t:=(t.1,Mir.dd (t.2.take j))) (List.mem_append_right _ (List.mem_singleton.mpr rfl))
     have ddl:=Mir.A7 (t.2.take j)
     rw[List.length_take] at ddl
     have e3:=Mir.y7 ey
     refine⟨_,rfl,_,rfl,_,rfl,b,b',_,t.1,_,rfl,rfl,T7.d,NK.K2.same hkG s7,v0,yb,l0,y,_,rfl,rfl,ky,th0,_,rfl,?_⟩
     by_cases c:y∈Mir.dd (t.2.take j)
     ·rw[decide_eq_true c]
      refine cJ ⟨_,rfl,s7,?_⟩
      rw[e3,if_pos c]
      exact T7
     ·rw[decide_eq_false c]
      obtain⟨ys,y1,y2,y3⟩:=th0.snoc ky
      refine gw ⟨_,rfl,_,rfl,b,b',_,t.1,_,rfl,rfl,T7.d,NK.K2.same hkG s7,v0,.inl ⟨rfl,_,SqL.of y1⟩,_,rfl,l0,_,_,rfl,rfl,y1,Nat.lt_of_le_of_lt (show _≤3000000 by rw[y2];show (Mir.dd (t.2.take j)).length≤_;omega) (by decide),?_⟩
      have T8:=T7.chg nd7 m0 y1 (o:=.lst (ys++[.ref yb])) (f:=fun ls=>ls++[y]) (fun ls hls=>by
       rw[NK.Ths.inj hls th0]
       exact y3)
      refine⟨_,rfl,s7.upd (nw6 _ m0),?_⟩
      rw[e3,if_neg c]
      have e4:((W.take i).map Mir.ddT++[(t.1,Mir.dd (t.2.take j))]).map (fun u=>if u.1=t.1 then (u.1,u.2++[y]) else u)=(W.take i).map Mir.ddT++[(t.1,Mir.dd (t.2.take j)++[y])]:=by
       rw[List.map_append]
       congr 1
       ·refine(List.map_congr_left fun u hu=>?_).trans (List.map_id _)
        rw[if_neg fun z=>nin (by rw[← z];exact Mir.mem_keys.mpr ⟨u,hu,rfl⟩)]
        rfl
       ·show [if t.1=t.1 then _ else _]=_
        rw[if_pos rfl]
      rw[e4] at T8
      exact T8
    ·rintro σ H7 ⟨Du,rfl,s7,T7⟩
     rw[List.length_map,tsl,List.take_length] at T7
     refine⟨es3,_,_,rfl,s7,nw6,?_⟩
     rw[Mir.take_snoc ht,List.map_append]
     exact T7
   ·rintro σ H4 ⟨es2,v10,v11,rfl,s4,nw,T4⟩
    rw[ev,esl,List.take_length] at T4
    refine⟨_,rfl,?_⟩
    show D.rt _ _
    rw[hD]
    refine kk b es2 _ H4 (s2.free hb) (sG.trans s4) T4 (by rw[Mir.fw];exact LI.nd) (by rw[List.length_map];omega) ⟨fun v hv=>?_,fun v hv k=>?_⟩ (fun k hk=>LI.key k (by rw[Mir.fw] at hk;exact hk)) (fun p hp=>by rw[Mir.fw];exact KK p hp)
    ·rw[Mir.xy LI.nd]
     exact Mir.B5 _
    ·rw[Mir.xy LI.nd,Mir.A6]
     exact Mir.A5 LI CC v hv k
  have fl:=Mir.ba rs
  have kl:=Mir.gg (Mir.frm rs)
  have small:=fit.small
  have L:=Mir.gH fit
  have C:=Mir.fe L.p
  obtain⟨root,Tt⟩:=Mir.qp fit
  obtain⟨Bb,kln,_⟩:=Mir.dE fit
  have kln:(Mir.KN rs).length≤60:=kln
  have chl:=Mir.fu (Mir.KI rs)
  have kil:(Mir.KI rs).length≤42:=by show (Mir.b4 (Mir.frm rs)).length≤42;omega
  refine⟨_,rfl,l,_,rfl,hk,by omega,L.p,fun lc H1 hlc s1 hl=>?_⟩
  rw[← (Mir.i4 _ L.p).1] at hl
  intro a ha
  obtain⟨us,h1,h2,h3⟩:=id hK
  have T0:Mir.WbT P w (upd H1 a (NK.d2O P w a [])) a [] []:=⟨⟨ae,fun p hp=>absurd hp List.not_mem_nil⟩,.nil,List.nodup_nil⟩
  have s0:aq H1 (upd H1 a (NK.d2O P w a [])):=ag ha
  generalize upd H1 a (NK.d2O P w a [])=H0 at T0 s0
  have h11:=s1 _ _ h1
  have lim:∀ x:Nat,x≤1000→x<sizeLine:=fun x hx=>aw hx
  refine⟨_,rfl,lk,rfl,⟨_,SqL.of (s0 _ _ h11)⟩,bo (K:=K) (a:=lk) (xs:=us.map V.ref) (fun i σ H2=>∃ (es:Mir.Es) (v4:Option V),σ=[some (.ref l),some (.ref lk),some (.ref lc),some (.ref a),v4,none,none,none,none,none,none,none]∧aq H1 H2∧Mir.WbT P w H2 a es (Mir.lkZ rs i)) ⟨[],none,rfl,s0,T0⟩ (fun i σ H2 _ ⟨_,_,_,s2,_⟩=>SqL.of (s2 _ _ h11)) ?_ ?_⟩
  ·rintro i x σ H2 hx ⟨es,v4,rfl,s2,T⟩
   rw[List.getElem?_map] at hx
   obtain⟨t,et,rfl⟩:=Option.map_eq_some_iff.mp hx
   have hi:i<(Mir.KN rs).length:=by rw[← h2];exact(List.getElem?_eq_some_iff.mp et).1
   have ek:=List.getElem?_eq_getElem hi
   have hp:=s1 _ _ (h3 i t _ et ek)
   have nd:=Mir.zF fit
   refine⟨by show 0≤sizeLine;decide,fun n hnn=>?_⟩
   have s3:aq H2 (upd H2 n (.lst [])):=ag hnn
   have n3:upd H2 n (.lst []) n=some (.lst []):=ae
   generalize upd H2 n (.lst [])=H3 at s3 n3
   have T3:=T.same s3
   have lE:es.length=i:=by rw[T.r.length];unfold Mir.lkZ;rw[List.length_map,List.length_take];omega
   refine⟨_,rfl,_,rfl,a,t,_,_,rfl,rfl,T3.d,NK.K2.pair (s3 _ _ (s2 _ _ hp)),lim _ (by unfold Mir.eV;rw[List.length_map];omega),?_⟩
   have T4:=T3.put (k:=Mir.pN (Mir.KN rs)[i]) (b:=t) (l:=n) (ks:=[]) (fun z=>by
    rw[Mir.jG] at z
    obtain⟨q,hq,e⟩:=List.mem_map.mp z
    have e:q=(Mir.KN rs)[i]:=Mir.eJ e
    subst e
    obtain⟨j,hj⟩:=List.getElem?_of_mem hq
    rw[List.getElem?_take] at hj
    by_cases c:j<i
    ·rw[if_pos c] at hj
     have:=(List.getElem?_inj (List.getElem?_eq_some_iff.mp hj).1 nd).mp (hj.trans ek.symm)
     omega
    ·rw[if_neg c] at hj;cases hj) (NK.K2.pair (s3 _ _ (s2 _ _ hp))) ⟨[],n3,rfl,fun i b k e=>by simp at e⟩ (T.fresh hnn)
   refine⟨es++[(Mir.pN (Mir.KN rs)[i],t,n)],_,rfl,(s2.trans s3).upd ha,?_⟩
   have e9:Mir.lkZ rs (i+1)=Mir.lkZ rs i++[(Mir.pN (Mir.KN rs)[i],[])]:=by unfold Mir.lkZ;rw[Mir.take_snoc ek,List.map_append];rfl
   rw[e9]
   exact T4
  ·rintro σ H2 ⟨es,v4,rfl,s2,T⟩
   rw[List.length_map,h2] at T
   obtain⟨LI0,CC0,KK0⟩:=Mir.A8 fit
   generalize Mir.lkZ rs (Mir.KN rs).length=W0 at T LI0 CC0 KK0
   have usl:us.length=(Mir.KN rs).length:=h2
   refine⟨_,rfl,lk,rfl,⟨_,SqL.of (s2 _ _ h11)⟩,bo (K:=K) (a:=lk) (xs:=us.map V.ref) (fun i σ H3=>∃ (es:Mir.Es) (W:Mir.Web) (v5 v6 v7 v8:Option V),σ=[some (.ref l),some (.ref lk),some (.ref lc),some (.ref a),v4,v5,v6,v7,v8,none,none,none]∧aq H1 H3∧Mir.WbT P w H3 a es W∧Mir.LwI rs (48000*i) W∧Mir.Cmp rs i 0 W∧∀ p∈Mir.KN rs,Mir.pN p∈Mir.az W) ⟨es,W0,none,none,none,none,rfl,s2,T,LI0,CC0,KK0⟩ (fun i σ H3 _ ⟨_,_,_,_,_,_,_,s3,_⟩=>SqL.of (s3 _ _ h11)) ?_ ?_⟩
   ·clear T LI0 CC0 KK0
    rintro i x σ H3 hx ⟨es,W,v5,v6,v7,v8,rfl,s3,T,LI,CC,KK⟩
    rw[List.getElem?_map] at hx
    obtain⟨t1,et1,rfl⟩:=Option.map_eq_some_iff.mp hx
    have hi:i<(Mir.KN rs).length:=by rw[← h2];exact(List.getElem?_eq_some_iff.mp et1).1
    have ep:=List.getElem?_eq_getElem hi
    generalize (Mir.KN rs)[i]=p1 at ep
    have hp1:=s1 _ _ (h3 i t1 p1 et1 ep)
    have mp1:=List.mem_of_getElem? ep
    refine⟨_,rfl,lk,rfl,⟨_,SqL.of (s3 _ _ h11)⟩,bo (K:=K) (a:=lk) (xs:=us.map V.ref) (fun j σ H4=>∃ (es:Mir.Es) (W:Mir.Web) (v6 v7 v8:Option V),σ=[some (.ref l),some (.ref lk),some (.ref lc),some (.ref a),v4,some (.ref t1),v6,v7,v8,none,none,none]∧aq H1 H4∧Mir.WbT P w H4 a es W∧Mir.LwI rs (48000*i+800*j) W∧Mir.Cmp rs i j W∧∀ p∈Mir.KN rs,Mir.pN p∈Mir.az W) ⟨es,W,v6,v7,v8,rfl,s3,T,LI,CC,KK⟩ (fun i σ H3 _ ⟨_,_,_,_,_,_,s3,_⟩=>SqL.of (s3 _ _ h11)) ?_ ?_⟩
    ·clear T LI CC KK
     rintro j x σ H4 hx ⟨es,W,v6,v7,v8,rfl,s4,T,LI,CC,KK⟩
     rw[List.getElem?_map] at hx
     obtain⟨t2,et2,rfl⟩:=Option.map_eq_some_iff.mp hx
     have hj:j<(Mir.KN rs).length:=by rw[← h2];exact(List.getElem?_eq_some_iff.mp et2).1
     have eq:=List.getElem?_eq_getElem hj
     generalize (Mir.KN rs)[j]=p2 at eq
     have hp2:=s1 _ _ (h3 j t2 p2 et2 eq)
     have mp2:=List.mem_of_getElem? eq
     refine⟨_,rfl,_,rfl,t1,t2,Mir.pN p1,Mir.pN p2,rfl,rfl,NK.K2.pair (s4 _ _ hp1),NK.K2.pair (s4 _ _ hp2),_,rfl,?_⟩
     by_cases cc:p1=p2
     ·rw[decide_eq_true (by rw[cc])]
      refine cJ ⟨es,W,_,_,_,rfl,s4,T,LI.mono (by omega),fun i' j' p q e1 e2 z ne=>?_,KK⟩
      by_cases z2:i'=i∧j'=j
      ·obtain⟨rfl,rfl⟩:=z2
       rw[ep] at e1
       rw[eq] at e2
       cases e1
       cases e2
       exact absurd cc ne
      ·exact CC i' j' p q e1 e2 (by omega) ne
     ·rw[decide_eq_false (fun z=>cc (Mir.eJ z))]
      refine gw ?_
      have M2:2*((rs.length:Int)+1-0).toNat+1<200:=by omega
      have hl4:=hl.same s4
      have hk4:=(hk.same s1).same s4
      have ccl:∀ c∈Mir.CH rs,c.length≤60:=fun c hc=>by
       have e:=(Mir.i4 _ L.p).1
       have hc:c∈Mir.fH (Mir.KI rs):=by rw[← e];exact hc
       have:=((Mir.kH (Mir.KI rs)).2 c hc).2
       omega
      have zG:(Mir.CH rs).length≤60:=by show (Mir.chains (Mir.KI rs)).length≤60;omega
      refine⟨_,rfl,_,rfl,_,rfl,l,lc,t1,Mir.KI rs,Mir.CH rs,p1,_,_,root,rfl,hk4,by omega,L.p,hl4,zG,C,ccl,s4 _ _ hp1,Mir.l4 mp1,Tt,M2,fun r1 H5 hr1 s5 th1=>?_⟩
      refine⟨_,rfl,_,rfl,_,rfl,l,lc,t2,Mir.KI rs,Mir.CH rs,p2,_,_,root,rfl,hk4.same s5,by omega,L.p,hl4.same s5,zG,C,ccl,(s4.trans s5) _ _ hp2,Mir.l4 mp2,Tt,M2,fun r2 H6 hr2 s6 th2=>?_⟩
      have l1:=Mir.iz (up:=Mir.UT rs) 200 (.inl p1)
      have l2:=Mir.iz (up:=Mir.UT rs) 200 (.inl p2)
      refine⟨r1,r2,_,_,rfl,NK.Ths.same th1 s6,th2,by rw[List.length_map];exact l1,by rw[List.length_map];exact l2,fun r H7 hr7 s7 th=>?_⟩
      obtain⟨PP,e1,e2,e3,e4,e5⟩:=Mir.xg Tt Mir.j9 Mir.lY M2 (k1:=.inl p1) (k2:=.inl p2) ⟨p1,mp1,rfl⟩ ⟨p2,mp2,rfl⟩
      rw[e1] at th
      obtain⟨bs,b1,b2⟩:=th.thv
      have bl:=b2.1
      rw[List.length_map] at bl
      have s47:=(s5.trans s6).trans s7
      have T7:=T.same s47
      have Em:=List.length_pos_iff.mpr e3
      have a4:H4 a≠none:=by rw[T.d.1];exact fun z=>by cases z
      have ra:r≠a:=fun z=>by rw[z] at hr7;exact a4 (by
       cases e:H4 a with
       | none=>rfl
       | some o=>have:=(s5.trans s6) _ _ e;rw[hr7] at this;cases this)
      have sG:aq H1 (Mir.wo H7 a):=Mir.tG (s4.trans s47) ha
      have gr:Mir.wo H7 a r=some (.lst (bs.map V.ref)):=by rw[Mir.qe ra];exact b1
      have bG:∀ (m:Nat) (b:Addr) (k:Mir.Nd),bs[m]?=some b→(PP.map Mir.lI)[m]?=some k→NK.K2 (Mir.wo H7 a) k b:=fun m b k q1 q2=>(b2.2 m b k q1 q2).keep fun c ys e=>by
       rw[Mir.qe (fun z=>by rw[z,T7.d.1] at e;cases e)]
       exact e
      have bml:(bs.map V.ref).length=PP.length:=by rw[List.length_map];exact bl
      have rn:((((bs.map V.ref).length:Nat):Int)-1).toNat=PP.length-1:=by rw[bml];omega
      have ga:Mir.wo H7 a a=none:=Mir.wR
      refine⟨_,rfl,r,_,rfl,.inl (SqL.of b1),_,_,rfl,rfl,_,rfl,by rw[bml];omega,by rw[bml];omega,eZ (lo:=0) (n:=((((bs.map V.ref).length:Nat):Int)-1).toNat) (fun m σ H8=>∃ (es:Mir.Es) (W':Mir.Web) (v8:Option V),σ=[some (.ref l),some (.ref lk),some (.ref lc),some (.ref a),v4,some (.ref t1),some (.ref t2),some (.ref r),v8,none,none,none]∧aq (Mir.wo H7 a) H8∧Mir.WbT P w H8 a es W'∧Mir.LwI rs (48000*i+800*j+2*m) W'∧Mir.iM W W'∧∀ m',m'<m→∀ x y,PP[m']?=some x→PP[m'+1]?=some y→Mir.lI y∈Mir.lkW W' (Mir.lI x)∧Mir.lI x∈Mir.lkW W' (Mir.lI y)) ⟨es,W,v8,rfl,Mir.tF,T7,LI,Mir.iM.refl W,fun m' hm=>absurd hm (Nat.not_lt_zero _)⟩ ?_ ?_⟩
      ·rintro m σ H8 hm ⟨es8,W8,v8',rfl,s8,T8,LI8,MW,PW⟩
       rw[rn] at hm
       rw[Int.zero_add]
       have ex:=List.getElem?_eq_getElem (l:=PP) (i:=m) (by omega)
       have ey:=List.getElem?_eq_getElem (l:=PP) (i:=m+1) (by omega)
       generalize PP[m]'(by omega)=x at ex
       generalize PP[m+1]'(by omega)=y at ey
       have fx:=List.getElem?_eq_getElem (l:=bs) (i:=m) (by omega)
       have fy:=List.getElem?_eq_getElem (l:=bs) (i:=m+1) (by omega)
       generalize bs[m]'(by omega)=bx at fx
       generalize bs[m+1]'(by omega)=by' at fy
       have kx:NK.K2 H8 (Mir.lI x) bx:=NK.K2.same (bG m bx _ fx (by rw[List.getElem?_map,ex];rfl)) s8
       have ky:NK.K2 H8 (Mir.lI y) by':=NK.K2.same (bG (m+1) by' _ fy (by rw[List.getElem?_map,ey];rfl)) s8
       have ed:Mir.EdT rs x y:=e4 x y ⟨m,ex,ey⟩
       obtain⟨xV,yV⟩:=Mir.Ed.inV Tt ed
       obtain⟨L9,M9,I9⟩:=LI8.add xV ed
       obtain⟨L10,M10,I10⟩:=L9.add yV ed.symm
       have ax:atI (bs.map V.ref) (m:Int)=some (.ref bx):=aW (by rw[List.getElem?_map,fx];rfl)
       have ay:atI (bs.map V.ref) ((m:Int)+1)=some (.ref by'):=by
        rw[show (m:Int)+1=((m+1:Nat):Int) by omega]
        exact aW (by rw[List.getElem?_map,fy];rfl)
       have z8:=LI8.size fit
       have z9:=L9.size fit
       have n8:=LI8.len (Mir.lI x)
       have n9:=L9.len (Mir.lI y)
       refine Mir.qw (K:=K) (i:=(m:Int)) (j:=(m:Int)+1) rfl rfl (fun H Q q=>⟨_,rfl,q⟩) (fun H Q q=>⟨_,rfl,_,_,rfl,rfl,q⟩) (s8 _ _ gr) ax ay kx ky T8 LI8.nd (by omega) (by omega) s8 ga fun es9 H9 s9 T9=>?_
       have kx9:NK.K2 H9 (Mir.lI x) bx:=NK.K2.same (bG m bx _ fx (by rw[List.getElem?_map,ex];rfl)) s9
       have ky9:NK.K2 H9 (Mir.lI y) by':=NK.K2.same (bG (m+1) by' _ fy (by rw[List.getElem?_map,ey];rfl)) s9
       refine Mir.qw (K:=K) (i:=(m:Int)+1) (j:=(m:Int)) rfl rfl (fun H Q q=>⟨_,rfl,_,_,rfl,rfl,q⟩) (fun H Q q=>⟨_,rfl,q⟩) (s9 _ _ gr) ay ax ky9 kx9 T9 L9.nd (by omega) (by omega) s9 ga fun Dv H10 s10 T10=>?_
       refine⟨Dv,_,_,rfl,s10,T10,L10.mono (by omega),(MW.trans M9).trans M10,fun m' hm' x' y' q1 q2=>?_⟩
       by_cases zz:m'=m
       ·subst zz
        rw[ex] at q1
        rw[ey] at q2
        cases q1
        cases q2
        exact⟨M10.1 _ _ I9,I10⟩
       ·obtain⟨g1,g2⟩:=PW m' (by omega) x' y' q1 q2
        exact⟨(M9.trans M10).1 _ _ g1,(M9.trans M10).1 _ _ g2⟩
      ·rintro σ H8 ⟨es8,W8,v8',rfl,s8,T8,LI8,MW,PW⟩
       rw[rn] at LI8 PW
       refine⟨es8,W8,_,_,_,rfl,sG.trans s8,T8,LI8.mono (by omega),fun i' j' p q f1 f2 z ne v u eu av nv=>?_,fun p hp=>MW.2 _ (KK p hp)⟩
       by_cases z2:i'=i∧j'=j
       ·obtain⟨rfl,rfl⟩:=z2
        rw[ep] at f1
        rw[eq] at f2
        cases f1
        cases f2
        obtain⟨m,q1,q2⟩:=e5 v u eu av nv
        have:=(List.getElem?_eq_some_iff.mp q2).1
        exact PW m (by omega) v u q1 q2
       ·exact(CC.more MW) i' j' p q f1 f2 (by omega) ne v u eu av nv
    ·rintro σ H4 ⟨es,W,v6,v7,v8,rfl,s4,T,LI,CC,KK⟩
     rw[List.length_map] at LI CC
     refine⟨es,W,_,_,_,_,rfl,s4,T,LI.mono (by omega),fun i' j' p q f1 f2 z ne=>?_,KK⟩
     have:=(List.getElem?_eq_some_iff.mp f2).1
     exact CC i' j' p q f1 f2 (by omega) ne
   ·rintro σ H3 ⟨es,W,v5,v6,v7,v8,rfl,s3,T,LI,CC,KK⟩
    rw[List.length_map,usl] at LI CC
    exact⟨lc,a,es,W,_,_,_,_,_,rfl,s1.trans s3,s1.free ha,T,LI.mono (by omega),CC,KK,rfl⟩
end
section
seal L2.PSs L2.PS L2.PE L2.PT L2.PA
variable {P:Program}{w:World}{K:PySem.W.Frag}{mg:Str→Option Value}{base:Heap}
theorem rW {f:Addr}{fd:FuncData}(B:Bl mg)(F:Fn K mg "_law_leg" iC ["links","knots","end"] f fd):aO P w K mg base CX0 1 f fd ["links","knots","end"] (Mir.qv P w):=by
 refine F.fn.ok cB (fun vs H Q E h=>?_) (fun cdv A outer s H vs Q E hr h=>?_)
 ·obtain⟨a,lk,t,es,Y,ks,e,rfl,_⟩:=h
  rfl
 ·obtain⟨a,lk,t,es,Y,ks,e,rfl,T,nd,Yl,cl,hK,kl,ht,hek,kk⟩:=h
  have hu2:=hr.lt 1 (by decide)
  refine⟨_,(af (aB (i:=3) cB.nd rfl (Or.inl rfl) aj)
   (af (aB (i:=4) cB.nd rfl (Or.inr rfl) (bc ai))
   (af (aB (i:=5) cB.nd rfl (Or.inl rfl) (pv 2))
   (af (jb PassesOwn.never (PW.pt (fi (aE nX (pv 5) iN (aI _)) (eS (aE fW (aG aF rfl B.len bg (ab (NK.cw (P:=P) (w:=w) rfl rfl hu2 (pv 0) (pv 5) (fun _ _=>rfl)) ai)) aj (aI _))))) (af (aB (i:=3) cB.nd rfl (Or.inl rfl) (aD aX (pv 3) (bN jT rfl B.int om (ab (il (NK.oC hu2) (pv 5) (pv 1) (by with_unfolding_all rfl)) ai))))
   (af (b5 (fj PySem.F.plainAttrs_list PySem.F.slot_list_append PySem.F.type_list_append bE (pv 4) (ab (pv 5) ai)))
   (af (b7 (ix:=6) (NC:=["other","seen"]) cB.nd rfl (Or.inl rfl) rfl (bC (c:=s.heap.objs.size+1) (j:=4) rfl (by decide +kernel) (by decide +kernel) rfl rfl rfl rfl rfl) (aM (NK.cw (P:=P) (w:=w) rfl rfl hu2 (pv 0) (pv 5) (fun _ _=>rfl))) (fun _ _ _ _=>(aC (i:=0) (show (["other","seen"]:List Str).Nodup by decide +kernel) rfl (Or.inl rfl))) (fun _ _ _ _=>(b6 (aE (NK.j3 (hr.lt 1 (by decide))) (pv 0) (pv 1) (by with_unfolding_all rfl)))) (fun _ _ _ _=>(pv 0)))
   (af (aB (i:=5) cB.nd rfl (Or.inl rfl) iN)
   (au (bT (aE (rN (K:=K) rfl (Nat.lt_of_succ_lt (Nat.lt_of_succ_lt hu2))) (pv 6) (bc ai) (aI _)) (au (aB (i:=5) cB.nd rfl (Or.inl rfl) (aR a9 (pv 6) aj (fun _ _=>rfl)))) a8)))))))
   (au (aQ (pv 3))))))),?_⟩
  refine⟨by show 0≤sizeLine;decide,fun sa hsa=>?_⟩
  have s0:aq H (upd H sa (.lst [])):=ag hsa
  have w0:upd H sa (.lst []) sa=some (.lst []):=ae
  generalize upd H sa (.lst [])=H0 at s0 w0
  refine⟨_,rfl,?_⟩
  have lka:∀ {x:Mir.Nd} {H':Hp},x∈Mir.az Y→aq H H'→∃ lx,NK.iE (Mir.eV es) x=some (.ref lx)∧NK.Ths H' lx (Mir.lkW Y x)∧H lx≠none:=fun {x H'} hx s'=>by
   obtain⟨u,hu,rfl⟩:=Mir.mem_keys.mp hx
   obtain⟨b,lx,_,v,tt,_⟩:=T.at nd hu
   rw[Mir.lkN nd hu]
   exact⟨lx,v,NK.Ths.same tt s',fun z=>by obtain⟨bs,q,_⟩:=tt;rw[z] at q;cases q⟩
  refine⟨fun m σ H2=>∃ (seen:List Mir.Nd) (cv:V) (o:Option Mir.Nd) (v6:Option V),σ=[some (.ref a),some (.ref lk),some (.ref t),some (.int ((seen.filter (Mir.inB (ks.map Mir.pN))).length:Nat)),some (.ref sa),some cv,v6]∧aq H H2∧NK.Ths H2 sa seen∧seen.Nodup∧(∀ x∈seen,x∈Mir.az Y)∧m+seen.length=1000∧Mir.lgR Y m o seen=Mir.lgR Y 1000 (some (Mir.pN e)) []∧((cv=.non∧o=none)∨∃ (u:Addr) (v:Mir.Nd),cv=.ref u∧o=some v∧NK.K2 H2 v u∧v∈Mir.az Y∧v ∉ seen),⟨1000,[],_,some (Mir.pN e),_,rfl,s0,⟨[],w0,rfl,fun i b x e=>by simp at e⟩,List.nodup_nil,fun x h=>absurd h List.not_mem_nil,rfl,rfl,.inr ⟨t,_,rfl,rfl,NK.K2.pair (s0 _ _ ht),hek,List.not_mem_nil⟩⟩,?_⟩
  rintro m σ H2 ⟨seen,cv,o,v6,rfl,s2,ts,snd,sk,hm,hl,alt⟩
  have T2:=T.same s2
  have sl:seen.length≤500:=by
   have:=Mir.fb snd sk
   unfold Mir.az at this
   rw[List.length_map] at this
   omega
  obtain⟨n,rfl⟩:∃ n,m=n+1:=⟨m-1,by omega⟩
  have fin:∀ {H3:Hp},aq H H3→Mir.lgR Y 1000 (some (Mir.pN e)) []=seen→Q (.int ((seen.filter (Mir.inB (ks.map Mir.pN))).length:Nat)) H3:=fun {H3} s3 hx=>by
   have:=kk H3 s3
   rw[Mir.y8,hx] at this
   exact this
  refine⟨_,rfl,rfl,_,rfl,?_⟩
  rcases alt with ⟨rfl,rfl⟩ | ⟨u,v,rfl,rfl,ku,kv,nv⟩
  ·refine hV rfl (cJ ⟨_,rfl,fin s2 ?_⟩)
   rw[← hl,Mir.xB]
  ·refine iF rfl ?_
   rw[Mir.xC] at hl
   obtain⟨lx,vx,tx,fx⟩:=lka kv s2
   obtain⟨xs,x1,x2⟩:=tx.thv
   have xl:=x2.1
   refine⟨_,rfl,_,rfl,a,u,_,v,_,rfl,rfl,T2.d,ku,vx,lx,_,rfl,.inl (SqL.of x1),_,_,rfl,rfl,_,rfl,?_⟩
   by_cases c3:(Mir.lkW Y v).length<3
   ·refine iF (decide_eq_true (by rw[List.length_map,xl];omega)) ?_
    rw[if_pos c3] at hl
    refine⟨_,fun _ _ q=>q,?_⟩
    have ecn:=Mir.xD ks seen v
    have e9:∀ b:Bool,(b=true↔v∈ks.map Mir.pN)→(((seen.filter (Mir.inB (ks.map Mir.pN))).length:Nat):Int)+(if b=true then 1 else 0)=(((seen++[v]).filter (Mir.inB (ks.map Mir.pN))).length:Nat):=fun b hb=>by
     rw[ecn]
     by_cases c:v∈ks.map Mir.pN
     ·rw[if_pos c,if_pos (hb.mpr c)];rfl
     ·rw[if_neg c,if_neg (fun z=>c (hb.mp z))];rfl
    refine⟨_,rfl,_,rfl,_,rfl,u,lk,v,ks.map Mir.pN,rfl,rfl,ku,(hK.same s2).ths,.inr ⟨_,rfl,_,_,rfl,rfl,?_⟩⟩
    dsimp only
    rw[e9 _ (by
     show (false != decide _)=true↔_
     by_cases c:v∈ks.map Mir.pN
     ·rw[decide_eq_true c];exact⟨fun _=>c,fun _=>rfl⟩
     ·rw[decide_eq_false c];exact⟨fun z=>absurd z (by decide),fun z=>absurd z c⟩)]
    obtain⟨sv,y1,y2,y3⟩:=ts.snoc ku
    refine⟨_,rfl,.inl ⟨rfl,_,SqL.of y1⟩,_,rfl,sa,_,_,rfl,rfl,y1,aw (by rw[y2];omega),?_⟩
    have s3:aq H (upd H2 sa (.lst (sv++[.ref u]))):=s2.upd hsa
    have ku3:NK.K2 (upd H2 sa (.lst (sv++[.ref u]))) v u:=ku.keep fun c ys e=>by
     rw[ao (fun z=>by rw[z,y1] at e;cases e)]
     exact e
    generalize upd H2 sa (.lst (sv++[.ref u]))=H3 at s3 ku3 y3
    have T3:=T.same s3
    obtain⟨lx',vx',tx3,fx'⟩:=lka kv s3
    rw[vx] at vx'
    cases vx'
    obtain⟨xs3,x31,x32⟩:=tx3.thv
    have xl3:=x32.1
    refine⟨_,rfl,_,rfl,a,u,_,v,_,rfl,rfl,T3.d,ku3,vx,lx,rfl,⟨_,SqL.of x31⟩,fun D hD=>?_⟩
    refine a5 (K:=K) (a:=lx) (xs:=xs3.map V.ref) (fun i σ H4=>∃ v':Option V,σ=[v',some (.ref sa)]∧aq H3 H4∧NK.Ths H4 D (((Mir.lkW Y v).take i).filter fun l=>!Mir.inB (seen++[v]) l)) ⟨none,rfl,ag hD,[],ae,rfl,fun i b k e=>by simp at e⟩ (fun i σ H4 _ ⟨_,_,s4,_⟩=>SqL.of (s4 _ _ x31)) ?_ ?_
    ·rintro i x σ H4 hx ⟨v',rfl,s4,hT⟩
     rw[List.getElem?_map] at hx
     obtain⟨yb,eyb,rfl⟩:=Option.map_eq_some_iff.mp hx
     have hi:i<(Mir.lkW Y v).length:=by rw[← xl3];exact(List.getElem?_eq_some_iff.mp eyb).1
     have ey:=List.getElem?_eq_getElem hi
     generalize (Mir.lkW Y v)[i]=y at ey
     have ky:=NK.K2.same (x32.2 i yb y eyb ey) s4
     have e3:((Mir.lkW Y v).take (i+1)).filter (fun l=>!Mir.inB (seen++[v]) l)=((Mir.lkW Y v).take i).filter (fun l=>!Mir.inB (seen++[v]) l)++(if y∈seen++[v] then [] else [y]):=by
      rw[Mir.take_snoc ey,List.filter_append,List.filter_cons,List.filter_nil]
      by_cases c:y∈seen++[v]
      ·rw[Mir.bI.mpr c,if_pos c];rfl
      ·rw[Mir.oU c,if_neg c];rfl
     refine⟨_,rfl,_,rfl,yb,sa,y,_,rfl,rfl,ky,NK.Ths.same y3 s4,_,rfl,?_⟩
     by_cases c:y∈seen++[v]
     ·rw[decide_eq_true c]
      refine cJ ⟨_,rfl,s4,?_⟩
      rw[e3,if_pos c,List.append_nil]
      exact hT
     ·rw[decide_eq_false c]
      obtain⟨ys,z1,z2,z3⟩:=hT.snoc ky
      refine gw ⟨_,rfl,ys,z1,aw (by rw[z2];exact Nat.le_trans (List.length_filter_le _ _) (by rw[List.length_take];omega)),_,rfl,s4.upd hD,?_⟩
      rw[e3,if_neg c]
      exact z3
    ·rintro σ H4 ⟨v',rfl,s4,hT⟩
     rw[List.length_map,xl3,List.take_length] at hT
     obtain⟨fv,f1,f2⟩:=hT.thv
     have fvl:=f2.1
     refine⟨_,rfl,by show 0≤sizeLine;decide,fun em hem=>?_⟩
     have s5:aq H4 (upd H4 em (.lst [])):=ag hem
     have u5:upd H4 em (.lst []) em=some (.lst []):=ae
     generalize upd H4 em (.lst [])=H5 at s5 u5
     have s35:=s4.trans s5
     have nd':(seen++[v]).Nodup:=by
      rw[List.nodup_append]
      exact⟨snd,by simp,fun a ha b hb e=>nv (by rw[List.mem_singleton.mp hb] at e;rwa[← e])⟩
     have sk':∀ x∈seen++[v],x∈Mir.az Y:=fun x hx=>by
      rcases List.mem_append.mp hx with hx | hx
      ·exact sk x hx
      ·rw[List.mem_singleton.mp hx];exact kv
     have nl':n+(seen++[v]).length=1000:=by rw[List.length_append,List.length_singleton];omega
     refine⟨D,em,_,rfl,rfl,SqL.of (s5 _ _ f1),SqL.of u5,_,rfl,?_⟩
     rw[List.length_map,fvl]
     cases ef:(Mir.lkW Y v).filter (fun l=>!Mir.inB (seen++[v]) l) with
     | nil =>
      rw[ef] at hl
      refine hV rfl ?_
      exact⟨n,Nat.lt_succ_self _,seen++[v],_,none,_,rfl,s3.trans s35,NK.Ths.same y3 s35,nd',sk',nl',hl,.inl ⟨rfl,rfl⟩⟩
     | cons y r =>
      rw[ef] at hl f2 fvl
      have e0:=List.getElem?_eq_getElem (l:=fv) (i:=0) (by rw[fvl];exact Nat.succ_pos _)
      generalize fv[0]'(by rw[fvl];exact Nat.succ_pos _)=yb at e0
      have ky:=NK.K2.same (f2.2 0 yb y e0 rfl) s5
      have my:y∈(Mir.lkW Y v).filter (fun l=>!Mir.inB (seen++[v]) l):=by rw[ef];exact List.mem_cons_self
      obtain⟨m1,m2⟩:=List.mem_filter.mp my
      have ny:y ∉ seen++[v]:=fun z=>by rw[Mir.bI.mpr z] at m2;exact absurd m2 (by decide)
      refine iF rfl ?_
      refine⟨_,rfl,D,_,_,_,rfl,rfl,SqL.of (s5 _ _ f1),aW (j:=0) (by rw[List.getElem?_map,e0];rfl),?_⟩
      exact⟨n,Nat.lt_succ_self _,seen++[v],_,some y,_,rfl,s3.trans s35,NK.Ths.same y3 s35,nd',sk',nl',hl,.inr ⟨yb,y,rfl,rfl,ky,cl v y m1,ny⟩⟩
   ·refine hV (decide_eq_false (by rw[List.length_map,xl];omega)) ?_
    rw[if_neg c3] at hl
    exact⟨_,rfl,fin s2 hl.symm⟩
end
section
seal L2.PSs L2.PS L2.PE L2.PT L2.PA
variable {P:Program}{w:World}{K:PySem.W.Frag}{mg:Str→Option Value}{base:Heap}
theorem o6 {f:Addr}{fd:FuncData}(B:Bl mg)(F:Fn K mg "legs_cost" d9 ["legs"] f fd):aO P w K mg base CX0 1 f fd ["legs"] (Mir.lT K):=by
 refine F.fn.ok jI (fun vs H Q E h=>?_) (fun cdv A outer s H vs Q E hr h=>?_)
 ·obtain⟨a,L,rfl,_⟩:=h
  rfl
 ·obtain⟨a,L,rfl,hL,k⟩:=h
  refine⟨_,(af (aB (i:=1) jI.nd rfl (Or.inl rfl) (aG aF rfl B.len bg (ab (pv 0) ai)))
   (af (bT (PW.pt (fi (aE eP (aD bM (pv 1) aj) aj (aI _)) (fi (aE ki (pv 1) aj (aI _)) (eS (aE jf aj (pv 0) (by with_unfolding_all rfl)))))) (au (aQ (aD aX (pv 1) aj))) a8)
   (au (aQ (pv 1))))),?_⟩
  refine⟨_,rfl,a,_,rfl,hL,?_⟩
  dsimp only
  rw[Mir.aK]
  have no:¬ (L.length%2=1∧1<L.length∧(1:Int) ∉ L)→Q (.int (L.length:Nat)) H:=fun c=>by
   unfold Mir.cK at k
   rw[if_neg c] at k
   exact k
  refine⟨_,rfl,_,_,rfl,rfl,by show (0:Int)<2;decide,rfl,_,rfl,?_⟩
  by_cases c1:L.length%2=1
  ·refine iF (yM (by omega)) ?_
   refine⟨_,rfl,_,_,rfl,rfl,_,rfl,?_⟩
   by_cases c2:1<L.length
   ·refine iF (decide_eq_true (by omega)) ?_
    refine⟨_,rfl,a,_,rfl,hL,rfl,Mir.tL L,_,rfl,?_⟩
    rw[Mir.xr]
    by_cases c3:(1:Int)∈L
    ·rw[decide_eq_true c3]
     exact cJ ⟨_,rfl,no fun z=>z.2.2 c3⟩
    ·rw[decide_eq_false c3]
     refine gw ⟨_,rfl,_,_,rfl,rfl,?_⟩
     unfold Mir.cK at k
     rw[if_pos ⟨c1,c2,c3⟩] at k
     exact k
   ·refine hV (decide_eq_false (by omega)) (cJ ⟨_,rfl,no fun z=>c2 z.2.1⟩)
  ·refine hV (tf (by omega)) (cJ ⟨_,rfl,no fun z=>c1 z.1⟩)
theorem o7 {f f1 f2:Addr}{fd fd1 fd2:FuncData}(B:Bl mg)(F:Fn K mg "knot_cost" d8 ["row"] f fd)(fM:Fn K mg "legs_cost" d9 ["legs"] f1 fd1)(cE:Fn K mg "knot_legs" cT ["row"] f2 fd2)(c6:aO P w K mg base CX0 6 f2 fd2 ["row"] Mir.oP):aO P w K mg base CX0 7 f fd ["row"] Mir.rP:=by
 have qC:aO P w K mg base CX0 1 f1 fd1 ["legs"] (Mir.lT K):=o6 B fM
 refine F.fn.ok oW (fun vs H Q E h=>?_) (fun cdv A outer s H vs Q E hr h=>?_)
 ·obtain⟨t,rs,rfl,_⟩:=h
  rfl
 ·obtain⟨t,rs,rfl,ht,fit,k⟩:=h
  refine⟨_,(au (aQ (aY qC fM (hr.mono (by decide)) (ab (aY c6 cE (hr.mono (by decide)) (ab (pv 0) ai)) ai)))),?_⟩
  refine⟨_,rfl,t,rs,rfl,ht,fit,fun r H1 hr1 s1 h1=>?_⟩
  exact⟨r,_,rfl,.inl (SqL.of h1),k H1 s1⟩
end
section
seal L2.PSs L2.PS L2.PE L2.PT L2.PA
variable {P:Program}{w:World}{K:PySem.W.Frag}{mg:Str→Option Value}{base:Heap}
theorem o8 {f f1 f2:Addr}{fd fd1 fd2:FuncData}(B:Bl mg)(F:Fn K mg "knot_ends" d7 ["row"] f fd)(bK:Fn K mg "thinned_web" bX ["row"] f1 fd1)(bY:aO P w K mg base CX0 5 f1 fd1 ["row"] (Mir.oO P w))(cY:Fn K mg "ends_of" fh ["web"] f2 fd2):aO P w K mg base CX0 6 f fd ["row"] Mir.i5:=by
 have kh:aO P w K mg base CX0 1 f2 fd2 ["web"] (Mir.rD P w):=mh B cY
 refine F.fn.ok oV (fun vs H Q E h=>?_) (fun cdv A outer s H vs Q E hr h=>?_)
 ·obtain⟨t,rs,rfl,_⟩:=h
  rfl
 ·obtain⟨t,rs,rfl,ht,fit,k⟩:=h
  refine⟨_,(au (aQ (aY kh cY (hr.mono (by decide)) (ab (aY bY bK (hr.mono (by decide)) (ab (pv 0) ai)) ai)))),?_⟩
  obtain⟨O,Wl,sp⟩:=Mir.k5 fit
  obtain⟨Bb,kln,kr⟩:=Mir.dE fit
  refine⟨_,rfl,t,rs,rfl,ht,fit,fun a es H1 ha s1 T=>?_⟩
  exact⟨a,es,_,_,rfl,T,O,Wl,sp,Bb,kln,kr,fun r H2 hr2 s2 tE=>k r H2 (s1.free hr2) (s1.trans s2) tE⟩
end
section
seal L2.PSs L2.PS L2.PE L2.PT L2.PA
variable {P:Program}{w:World}{K:PySem.W.Frag}{mg:Str→Option Value}{base:Heap}
theorem qD {f f1 f2 f3 f4:Addr}{fd fd1 fd2 fd3 fd4:FuncData}(B:Bl mg)(F:Fn K mg "_law_told" gJ ["row","due","legs_due","cost"] f fd)(fN:Fn K mg "knot_ends" d7 ["row"] f1 fd1)(ie:aO P w K mg base CX0 6 f1 fd1 ["row"] Mir.i5)(cE:Fn K mg "knot_legs" cT ["row"] f2 fd2)(c6:aO P w K mg base CX0 6 f2 fd2 ["row"] Mir.oP)(eF:Fn K mg "knot_cost" d8 ["row"] f3 fd3)(fO:aO P w K mg base CX0 7 f3 fd3 ["row"] Mir.rP)(bS:Fn K mg "_law_whole_number" bu ["found"] f4 fd4):aO P w K mg base CX0 8 f fd ["row","due","legs_due","cost"] Mir.nL:=by
 have i8:aO P w K mg base CX0 1 f4 fd4 ["found"] Mir.sC:=iI B bS
 refine F.fn.ok fK (fun vs H Q E h=>?_) (fun cdv A outer s H vs Q E hr h=>?_)
 ·obtain⟨t,a,b,rs,rfl,_⟩:=h
  rfl
 ·obtain⟨t,a,b,rs,rfl,ht,fit,ha,hb,k⟩:=h
  have hu2:=hr.lt 1 (by decide)
  refine⟨_,(af (aB (i:=4) fK.nd rfl (Or.inl rfl) (aY ie fN (hr.mono (by decide)) (ab (pv 0) ai)))
   (af (aB (i:=5) fK.nd rfl (Or.inl rfl) (aY c6 cE (hr.mono (by decide)) (ab (pv 0) ai)))
   (af (bT (PW.pt (rZ (nV (k8 (aG jk rfl B.isinstance dN (ab (pv 4) (ab (kT (v:=.ty "list") rfl B.list iq rfl) ai))))) (rZ (aE (qN 1 hu2) (pv 4) (pv 1) (aI _)) (rZ (nV (k8 (aG jk rfl B.isinstance dN (ab (pv 5) (ab (kT (v:=.ty "list") rfl B.list iq rfl) ai))))) (uV (aE (pP (Nat.lt_of_succ_lt (Nat.lt_of_succ_lt hu2))) (pv 5) (pv 2) (aI _))))))) (au (aQ zf)) a8)
   (af (bq PassesOwn.never rfl (aM (aD eG (pv 5) (bc (ab (aY fO eF (hr.mono (by decide)) (ab (pv 0) ai)) ai)))) (aC (i:=6) fK.nd rfl (Or.inl rfl)) (au (bT (nV (k8 (aY i8 bS (hr.mono (by decide)) (ab (pv 6) ai)))) (au (aQ zf)) a8)))
   (af (b5 (fj PySem.F.plainAttrs_list PySem.F.slot_list_append PySem.F.type_list_append bE (pv 4) (ab (iP (ab aj (ab aj ai))) ai)))
   (af (b5 (fj PySem.F.plainAttrs_list PySem.F.slot_list_append PySem.F.type_list_append bE (pv 5) (ab aj ai)))
   (au (aQ (il eP (aY fO eF (hr.mono (by decide)) (ab (pv 0) ai)) (pv 3) (aI _)))))))))),?_⟩
  refine⟨_,rfl,t,rs,rfl,ht,fit,fun r H1 hr1 s1 tE=>?_⟩
  refine⟨_,rfl,t,rs,rfl,s1 _ _ ht,fit,fun q H2 hq s2 tq=>?_⟩
  have s02:=s1.trans s2
  have tE2:=tE.same s2
  obtain⟨rv,r1,r2⟩:=tE2.len
  have kl:=(Mir.dE fit).2.1
  have el:(Mir.bP (Mir.d4 rs) (Mir.KN rs)).length≤60:=Nat.le_trans (List.length_filter_le _ _) kl
  have ll:(Mir.aS rs).length≤60:=by unfold Mir.aS;rw[List.length_map];exact el
  refine⟨_,rfl,_,_,_,_,rfl,.lst r1,ko _,_,rfl,cJ ?_⟩
  refine⟨_,rfl,_,rfl,r,a,rfl,rfl,Mir.TsT.deep (fun x v hv=>by
   unfold Mir.pr at hv
   rcases List.mem_cons.mp hv with rfl | hv
   ·rfl
   ·rw[List.mem_singleton.mp hv];rfl) tE2 (ha.same s02),_,rfl,cJ ?_⟩
  refine⟨_,rfl,_,_,_,_,rfl,.lst tq,ko _,_,rfl,cJ ?_⟩
  refine⟨_,rfl,_,rfl,q,b,_,_,rfl,rfl,SqL.of tq,SqL.of (s02 _ _ hb),rfl,_,rfl,hV (by rw[decide_eq_true rfl];rfl) ?_⟩
  refine⟨_,rfl,_,rfl,t,rs,rfl,s02 _ _ ht,fit,fun H3 s3=>?_⟩
  refine⟨by show 1≤sizeLine;decide,fun cl hcl=>?_⟩
  have s4:aq H3 (upd H3 cl (.lst [.int (Mir.cK (Mir.aS rs))])):=ag hcl
  have u4:upd H3 cl (.lst [.int (Mir.cK (Mir.aS rs))]) cl=some (.lst [.int (Mir.cK (Mir.aS rs))]):=ae
  generalize upd H3 cl (.lst [.int (Mir.cK (Mir.aS rs))])=H4 at s4 u4
  have s24:=s3.trans s4
  refine⟨q,cl,_,_,rfl,rfl,s24 _ _ tq,u4,Nat.le_of_lt (aw (by rw[Mir.aK];show _+1≤_;omega)),fun nl hnl=>?_⟩
  have e1:Mir.iV (Mir.aS rs)++[.int (Mir.cK (Mir.aS rs))]=Mir.iV (Mir.aS rs++[Mir.cK (Mir.aS rs)]):=by rw[Mir.eQ];rfl
  rw[e1]
  have s5:aq H4 (upd H4 nl (.lst (Mir.iV (Mir.aS rs++[Mir.cK (Mir.aS rs)])))):=ag hnl
  have u5:upd H4 nl (.lst (Mir.iV (Mir.aS rs++[Mir.cK (Mir.aS rs)]))) nl=some (.lst (Mir.iV (Mir.aS rs++[Mir.cK (Mir.aS rs)]))):=ae
  generalize upd H4 nl (.lst (Mir.iV (Mir.aS rs++[Mir.cK (Mir.aS rs)])))=H5 at s5 u5
  have s25:=s24.trans s5
  refine⟨nl,rfl,⟨_,SqL.of u5⟩,bo (K:=K) (a:=nl) (xs:=Mir.iV (Mir.aS rs++[Mir.cK (Mir.aS rs)])) (fun i σ H6=>∃ v6:Option V,σ=[some (.ref t),some (.ref a),some (.ref b),some (.int (Mir.cK (Mir.aS rs))),some (.ref r),some (.ref q),v6]∧H6=H5) ⟨none,rfl,rfl⟩ (fun i σ H6 _ ⟨_,_,e⟩=>by rw[e];exact SqL.of u5) ?_ ?_⟩
  ·rintro i x σ H6 hx ⟨v6,rfl,rfl⟩
   obtain⟨y,hy,rfl⟩:=Mir.gA hx
   exact⟨_,rfl,_,rfl,_,rfl,cJ ⟨_,rfl,rfl⟩⟩
  ·rintro σ H6 ⟨v6,rfl,rfl⟩
   have r15:=s25 _ _ r1
   refine⟨_,rfl,.inl ⟨rfl,_,SqL.of r15⟩,by show 2≤sizeLine;decide,fun tt htt=>?_⟩
   have s6:aq H6 (upd H6 tt (.tup [.int 0,.int 1])):=ag htt
   generalize upd H6 tt (.tup [.int 0,.int 1])=H7 at s6
   refine⟨r,_,_,rfl,rfl,s6 _ _ r15,aw (by omega),?_⟩
   have nqr:q≠r:=fun z=>by rw[z] at hq;obtain⟨_,w,_⟩:=tE.len;rw[hq] at w;cases w
   have s7:aq H (upd H7 r (.lst (rv++[.ref tt]))):=((s02.trans s25).trans s6).upd hr1
   have q7:upd H7 r (.lst (rv++[.ref tt])) q=some (.lst (Mir.iV (Mir.aS rs))):=by rw[ao nqr];exact(s25.trans s6) _ _ tq
   generalize upd H7 r (.lst (rv++[.ref tt]))=H8 at s7 q7
   refine⟨_,rfl,.inl ⟨rfl,_,SqL.of q7⟩,q,_,_,rfl,rfl,q7,aw (by rw[Mir.aK];omega),?_⟩
   have s8:aq H (upd H8 q (.lst (Mir.iV (Mir.aS rs)++[.int 1]))):=s7.upd (s1.free hq)
   generalize upd H8 q (.lst (Mir.iV (Mir.aS rs)++[.int 1]))=H9 at s8
   refine⟨_,rfl,t,rs,rfl,s8 _ _ ht,fit,fun H10 s10=>⟨_,rfl,rfl,?_⟩⟩
   rw[decide_eq_true rfl]
   exact k H10 (s8.trans s10)
end
section
variable {P:Program}{w:World}{K:PySem.W.Frag}{mg:Str→Option Value}{base:Heap}
seal L2.PSs L2.PS L2.PE L2.PT L2.PA
theorem Bc (B:Bl mg){f0 f1 f2 f3 f4 f5 f6 f7 f8 f9 f10 f11 f12 f13 f14 f15 f16 f17 f18 f19 f20 f21 f22 f23 f24 f25 f26 f27 f28 f29 f30:Addr}{fd0 fd1 fd2 fd3 fd4 fd5 fd6 fd7 fd8 fd9 Dw Dx Dy Dz DA DB DC DD DG DH DI DJ DK DL DM DN DO DP DQ DR Cd:FuncData}(bA:Fn K mg "framed" d5 ["row"] f0 fd0)(fL:Fn K mg "open_gaps" d6 ["row"] f1 fd1)(cQ:Fn K mg "hung_together" bW ["pairs"] f2 fd2)(bh:Fn K mg "kin_spans" cz ["row"] f3 fd3)(cI:Fn K mg "kin_end" dH ["numbers","first"] f4 fd4)(gL:Fn K mg "gap_kins" fz ["row"] f5 fd5)(cC:Fn K mg "knots_in" dI ["row"] f6 fd6)(jM:Fn K mg "web_of" hZ ["kins"] f7 fd7)(cb:Fn K mg "shortest_around" bJ ["chain","kins"] f8 fd8)(bK:Fn K mg "thinned_web" bX ["row"] f9 fd9)(cD:Fn K mg "spare_things" cA ["web","knots"] f10 Dw)(cY:Fn K mg "ends_of" fh ["web"] f11 Dx)(gM:Fn K mg "leg_from" fA ["end","web"] f12 Dy)(fN:Fn K mg "knot_ends" d7 ["row"] f13 Dz)(cE:Fn K mg "knot_legs" cT ["row"] f14 DA)(eF:Fn K mg "knot_cost" d8 ["row"] f15 DB)(fM:Fn K mg "legs_cost" d9 ["legs"] f16 DC)(bZ:Fn K mg "_law_cell_at" cM ["script","k"] f17 DD)(fP:Fn K mg "_law_row_of_kins" b9 ["script","at","many"] f18 DG)(ig:Fn K mg "_law_inflated" dm ["script","at","room"] f19 DH)(bS:Fn K mg "_law_whole_number" bu ["found"] f20 DI)(dw:Fn K mg "_law_put_in" dq ["row","spot"] f21 DJ)(kI:Fn K mg "_law_nests" fJ ["cell"] f22 DK)(eY:Fn K mg "_law_chains" dt ["kins"] f23 DL)(cZ:Fn K mg "_law_above" cU ["kins","chain"] f24 DM)(dy:Fn K mg "_law_way_up" dv ["kins","chains","kin"] f25 DN)(dR:Fn K mg "_law_between" cO ["one","two"] f26 DO)(nP:Fn K mg "_law_web" iB ["kins","knots"] f27 DP)(nQ:Fn K mg "_law_leg" iC ["links","knots","end"] f28 DQ)(i9:Fn K mg "_law_told" gJ ["row","due","legs_due","cost"] f29 DR)(Ce:Fn K mg "law" xE ["script"] f30 Cd):aO P w K mg base CX0 9 f30 Cd ["script"] (vy K):=by
 have fU:aO P w K mg base CX0 1 _ _ ["script","k"] (Mir.lu K):=ic B bZ
 have jP:aO P w K mg base CX0 2 _ _ ["script","at","many"] (Mir.kD K):=i7 B fP bZ
 have mj:aO P w K mg base CX0 1 _ _ ["script","at","room"] (Mir.lH K):=kR B ig
 have qE:aO P w K mg base CX0 2 _ _ ["cell"] Mir.tO:=oZ B kI dw
 have cS:aO P w K mg base CX0 4 _ _ ["row"] Mir.kZ:=qy B cC bA cI bh gL fL
 have cX:aO P w K mg base CX0 2 _ _ ["row"] Mir.gC:=jK B bh bA cI
 have me:aO P w K mg base CX0 2 _ _ ["kins"] (Mir.oN P w):=uP B jM cQ cb
 have bY:aO P w K mg base CX0 5 _ _ ["row"] (Mir.oO P w):=md B bK cC cS bh cX jM me cD
 have c6:aO P w K mg base CX0 6 _ _ ["row"] Mir.oP:=oY B cE cC cS bK bY cY gM
 have fO:aO P w K mg base CX0 7 _ _ ["row"] Mir.rP:=o7 B eF fM cE c6
 have ie:aO P w K mg base CX0 6 _ _ ["row"] Mir.i5:=o8 B fN bK bY cY
 have uQ:aO P w K mg base CX0 3 _ _ ["kins","knots"] (Mir.qu P w):=rV B nP eY dy cZ dR
 have uR:aO P w K mg base CX0 1 _ _ ["links","knots","end"] (Mir.qv P w):=rW B nQ
 have mm:aO P w K mg base CX0 8 _ _ ["row","due","legs_due","cost"] Mir.nL:=qD B i9 fN ie cE c6 eF fO bS
 refine Ce.fn.ok eN (fun vs H Q E h=>?_) (fun cdv A outer s H vs Q E hr h=>?_)
 ·obtain⟨a,ns,rfl,_⟩:=h
  rfl
 ·obtain⟨a,ns,rfl,hS,hlen,k⟩:=h
  refine⟨_,(af (aB (i:=1) eN.nd rfl (Or.inl rfl) (aY fU bZ (hr.mono (by decide)) (ab (pv 0) (ab aj ai))))
   (af (aB (i:=2) eN.nd rfl (Or.inl rfl) (aY jP fP (hr.mono (by decide)) (ab (pv 0) (ab aj (ab (aD bM (pv 1) aj) ai)))))
   (af (bT (aE eP (aD bM (aD dM (pv 1) aj) aj) aj (aI _)) (au (aB (i:=2) eN.nd rfl (Or.inl rfl) (aY mj ig (hr.mono (by decide)) (ab (pv 0) (ab aj (ab (aD aX aj (aD bM (aD dM (pv 1) aj) aj)) ai)))))) a8)
   (eI (R:=fun D σ H2=>∃ (t:Addr) (rs:List Int) (c0:Int),σ=[some (.ref a),some (.int c0),some (.ref t),none,none,none,none,none,none]∧SqL K H2 a (ns.map V.int)∧H2 t=some (.tup (Mir.iV rs))∧Mir.Fit rs∧D.rt=Q) fun D σ H2 hR=>?rest)))),?_⟩
  case rest =>
   obtain⟨t,rs,c0,rfl,hS2,ht,fit,hD⟩:=hR
   refine⟨_,(af (bT (aE eP (aD bM (aD dM (pv 1) aj) aj) aj (aI _)) (au (aB (i:=2) eN.nd rfl (Or.inl rfl) (aY qE kI (hr.mono (by decide)) (ab (aD dM (pv 1) aj) ai)))) a8)
   (eI (R:=fun D σ H2=>∃ (t:Addr) (rs:List Int) (c0:Int),σ=[some (.ref a),some (.int c0),some (.ref t),none,none,none,none,none,none]∧H2 t=some (.tup (Mir.iV rs))∧Mir.Fit rs∧D.rt=Q) fun D σ H2 hR=>?rest2)),?_⟩
   case rest2 =>
    obtain⟨t,rs,c0,rfl,ht,fit,hD⟩:=hR
    refine⟨_,(af (aB (i:=3) eN.nd rfl (Or.inl rfl) (aY cX bh (hr.mono (by decide)) (ab (pv 2) ai)))
   (af (aB (i:=4) eN.nd rfl (Or.inr rfl) (aY cS cC (hr.mono (by decide)) (ab (pv 2) ai)))
   (af (aB (i:=5) eN.nd rfl (Or.inr rfl) (aY uQ nP (hr.mono (by decide)) (ab (pv 3) (ab (pv 4) ai))))
   (af (b7 (ix:=6) (NC:=["knot","links"]) eN.nd rfl (Or.inl rfl) rfl (bC (c:=s.heap.objs.size+2) (j:=5) rfl (by decide +kernel) (by decide +kernel) rfl rfl rfl rfl rfl) (aM (pv 4)) (fun _ _ _ _=>(aC (i:=0) (show (["knot","links"]:List Str).Nodup by decide +kernel) rfl (Or.inl rfl))) (fun _ _ _ _=>(b6 (aE fW (aG (dO (K:=K) rfl) rfl B.len bg (ab (NK.cw (P:=P) (w:=w) rfl rfl (hr.lt 1 (by decide)) (pv 1) (pv 0) (fun _ _=>rfl)) ai)) aj (aI _)))) (fun _ _ _ _=>(pv 0)))
   (af (b7 (ix:=7) (NC:=["end","links","knots"]) eN.nd rfl (Or.inl rfl) rfl (sZ (pre:=["end"]) (c:=s.heap.objs.size+2) (e:=s.heap.objs.size+1) (j:=5) (k:=4) rfl (by decide +kernel) (by decide +kernel) rfl rfl rfl rfl rfl rfl rfl rfl rfl) (aM (pv 6)) (fun _ _ _ _=>(aC (i:=0) (show (["end","links","knots"]:List Str).Nodup by decide +kernel) rfl (Or.inl rfl))) (fun _ _ _ _=>cF) (fun _ _ _ _=>(aY uR nQ (hr.mono (by decide)) (ab (pv 1) (ab (pv 2) (ab (pv 0) ai))))))
   (af (aB (i:=8) eN.nd rfl (Or.inl rfl) (aG aF rfl B.len bg (ab (pv 6) ai)))
   (af (bT (PW.pt (fi (aE eP (aD bM (aG aF rfl B.len bg (ab (pv 6) ai)) aj) aj (aI _)) (fi (aE ki (aG aF rfl B.len bg (ab (pv 6) ai)) aj (aI _)) (eS (aE jf aj (pv 7) (by with_unfolding_all rfl)))))) (au (aB (i:=8) eN.nd rfl (Or.inl rfl) (aD aX (pv 8) aj))) a8)
   (eI (R:=fun D σ H2=>∃ (t D1 D2:Addr) (v1 v3 v4 v5:Option V),σ=[some (.ref a),v1,some (.ref t),v3,v4,v5,some (.ref D1),some (.ref D2),some (.int (Mir.cK (Mir.aS rs)))]∧H2 t=some (.tup (Mir.iV rs))∧Mir.TsT Mir.pr H2 D1 (Mir.bP (Mir.d4 rs) (Mir.KN rs))∧H2 D2=some (.lst (Mir.iV (Mir.aS rs)))∧D.rt=Q) fun D σ H2 hR=>?rest3)))))))),?_⟩
    case rest3 =>
     obtain⟨t,D1,D2,v1,v3,v4,v5,rfl,ht,h1,h2,hD⟩:=hR
     refine⟨_,(au (aQ (uX (aY mm i9 (hr.mono (by decide)) (ab (pv 2) (ab (pv 6) (ab (pv 7) (ab (pv 8) ai))))) (uW (aY mm i9 (hr.mono (by decide)) (ab (pv 2) (ab (pv 6) (ab (pv 7) (ab (pv 8) ai))))))))),?_⟩
     refine⟨_,rfl,_,rfl,_,rfl,_,rfl,t,D1,D2,rs,rfl,ht,fit,h1,h2,fun H3 s3=>?_⟩
     refine⟨_,rfl,gw ?_⟩
     refine⟨_,rfl,_,rfl,_,rfl,_,rfl,t,D1,D2,rs,rfl,s3 _ _ ht,fit,h1.same s3,s3 _ _ h2,fun H4 s4=>?_⟩
     show D.rt _ _
     rw[hD]
     exact k H4
    obtain⟨Bb,kln,_⟩:=Mir.dE fit
    have kln:(Mir.KN rs).length≤60:=kln
    refine⟨_,rfl,t,rs,rfl,ht,fit,fun l H3 hl s3 hk=>?_⟩
    refine⟨_,rfl,t,rs,rfl,s3 _ _ ht,fit,fun lk H4 hlk s4 hK=>?_⟩
    refine⟨_,rfl,_,rfl,l,lk,rs,rfl,fit,hk.same s4,hK,fun al es Y H5 ha s5 T nd Yl rp kv KK=>?_⟩
    have ht5:=((s3.trans s4).trans s5) _ _ ht
    have hK5:Mir.TsT Mir.pr H5 lk (Mir.KN rs):=hK.same s5
    have cl:∀ x y,y∈Mir.lkW Y x→y∈Mir.az Y:=fun x y hy=>by
     by_cases cx:x∈Mir.az Y
     ·obtain⟨v,hv,rfl⟩:=kv x cx
      obtain⟨b,hb,rfl,e⟩:=(rp.lk v hv y).mp hy
      have:=(rp.lk b hb (Mir.lI v)).mpr ⟨v,hv,rfl,e.symm⟩
      by_cases c2:Mir.lI b∈Mir.az Y
      ·exact c2
      ·rw[Mir.cP c2] at this;exact absurd this List.not_mem_nil
     ·rw[Mir.cP cx] at hy;exact absurd hy List.not_mem_nil
    have eE:=Mir.qr fit rp
    have eL:=Mir.xn fit rp
    clear rp kv
    obtain⟨us,u1,u2,u3⟩:=id hK5
    have hKN:∀ p∈Mir.KN rs,Mir.pN p∈Mir.az Y:=KK
    generalize Mir.KN rs=ks at *
    refine⟨_,rfl,lk,rfl,⟨_,SqL.of u1⟩,fun D1 hD1=>?_⟩
    refine a5 (K:=K) (a:=lk) (xs:=us.map V.ref) (fun i σ H6=>∃ v:Option V,σ=[v,some (.ref al)]∧aq H5 H6∧Mir.TsT Mir.pr H6 D1 (Mir.l7 Y (ks.take i))) ⟨none,rfl,ag hD1,Mir.TsT.nil ae⟩ (fun i σ H6 _ ⟨_,_,s6,_⟩=>SqL.of (s6 _ _ u1)) ?_ ?_
    ·rintro i x σ H6 hx ⟨v,rfl,s6,hT⟩
     rw[List.getElem?_map] at hx
     obtain⟨tp,et,rfl⟩:=Option.map_eq_some_iff.mp hx
     have hi:i<ks.length:=by rw[← u2];exact(List.getElem?_eq_some_iff.mp et).1
     have ek:=List.getElem?_eq_getElem hi
     generalize ks[i]=p at ek
     have hp:=s6 _ _ (u3 i tp p et ek)
     have T6:=T.same s6
     obtain⟨u,hu,eu⟩:=Mir.mem_keys.mp (hKN p (List.mem_of_getElem? ek))
     obtain⟨b0,lx,_,vx,tx,_⟩:=T6.at nd hu
     rw[eu] at vx
     have elk:Mir.lkW Y (Mir.pN p)=u.2:=by rw[← eu];exact Mir.lkN nd hu
     obtain⟨xv,x1,x2⟩:=tx.len
     have e3:Mir.l7 Y (ks.take (i+1))=Mir.l7 Y (ks.take i)++(if (Mir.lkW Y (Mir.pN p)).length<2 then [p] else []):=by
      unfold Mir.l7
      rw[Mir.take_snoc ek,List.filter_append,List.filter_cons,List.filter_nil]
      by_cases c:(Mir.lkW Y (Mir.pN p)).length<2
      ·rw[if_pos (decide_eq_true c),if_pos c]
      ·rw[if_neg (by rw[decide_eq_false c];decide),if_neg c]
     have hle:(Mir.l7 Y (ks.take i)).length≤60:=Nat.le_trans (List.length_filter_le _ _) (by rw[List.length_take];omega)
     refine⟨_,rfl,_,rfl,al,tp,_,Mir.pN p,_,rfl,rfl,T6.d,NK.K2.pair hp,vx,lx,_,rfl,.inl (SqL.of x1),_,_,rfl,rfl,_,rfl,?_⟩
     by_cases c:(Mir.lkW Y (Mir.pN p)).length<2
     ·rw[decide_eq_true (show ((xv.length:Nat):Int)<2 by rw[x2,← elk];omega)]
      obtain⟨ys,y1,y2,y3⟩:=hT.snoc hp
      refine gw ⟨_,rfl,ys,y1,aw (by rw[y2];omega),_,rfl,s6.upd hD1,?_⟩
      rw[e3,if_pos c]
      exact y3
     ·rw[decide_eq_false (show ¬ ((xv.length:Nat):Int)<2 by rw[x2,← elk];omega)]
      refine cJ ⟨_,rfl,s6,?_⟩
      rw[e3,if_neg c,List.append_nil]
      exact hT
    ·rintro σ H6 ⟨v,rfl,s6,hT⟩
     rw[List.length_map,u2,List.take_length] at hT
     have hle:(Mir.l7 Y ks).length≤60:=Nat.le_trans (List.length_filter_le _ _) kln
     have Cf:∀ p∈Mir.l7 Y ks,p∈ks:=fun p hp=>(List.mem_filter.mp hp).1
     generalize Mir.l7 Y ks=du at hT hle Cf eE eL
     obtain⟨ds,d1,d2,d3⟩:=id hT
     have T6:=T.same s6
     refine⟨_,rfl,D1,rfl,⟨_,SqL.of d1⟩,fun D2 hD2=>?_⟩
     refine a5 (K:=K) (a:=D1) (xs:=ds.map V.ref) (fun i σ H7=>∃ v:Option V,σ=[v,some (.ref al),some (.ref lk)]∧aq H6 H7∧H7 D2=some (.lst (Mir.iV ((du.take i).map fun e=>(Mir.uM Y ks e:Int))))) ⟨none,rfl,ag hD2,ae⟩ (fun i σ H7 _ ⟨_,_,s7,_⟩=>SqL.of (s7 _ _ d1)) ?_ ?_
     ·rintro i x σ H7 hx ⟨v,rfl,s7,h7⟩
      rw[List.getElem?_map] at hx
      obtain⟨tp,et,rfl⟩:=Option.map_eq_some_iff.mp hx
      have hi:i<du.length:=by rw[← d2];exact(List.getElem?_eq_some_iff.mp et).1
      have ek:=List.getElem?_eq_getElem hi
      generalize du[i]=p at ek
      have hp:=s7 _ _ (d3 i tp p et ek)
      have pk:=Cf p (List.mem_of_getElem? ek)
      refine jW ?_
      refine⟨_,rfl,_,rfl,_,rfl,al,lk,tp,es,Y,ks,p,rfl,T6.same s7,nd,Yl,cl,(hK5.same s6).same s7,kln,hp,hKN p pk,fun H8 s8=>?_⟩
      refine⟨_,s8 _ _ h7,aw (by rw[Mir.aK,List.length_map,List.length_take];omega),_,rfl,(s7.trans s8).upd hD2,?_⟩
      rw[ae,Mir.take_snoc ek,List.map_append,Mir.eQ]
      rfl
     ·rintro σ H7 ⟨v,rfl,s7,h7⟩
      rw[List.length_map,d2,List.take_length,← eL] at h7
      have dl:(Mir.aS rs).length=du.length:=by rw[eL,List.length_map]
      have hT7:=hT.same s7
      rw[← eE] at hT7
      have d17:=s7 _ _ d1
      have dml:(ds.map V.ref).length=(Mir.aS rs).length:=by rw[List.length_map,d2,dl]
      refine⟨_,rfl,D1,_,rfl,.inl (SqL.of d17),?_⟩
      dsimp only
      rw[dml]
      have ht7:=(s6.trans s7) _ _ ht5
      have fin:∀ (z:Int),z=Mir.cK (Mir.aS rs)→∃ (t' D1' D2':Addr) (v1 v3 v4 v5:Option V),[some (V.ref a),some (.int c0),some (.ref t),some (.ref l),some (.ref lk),some (.ref al),some (.ref D1),some (.ref D2),some (.int z)]=[some (.ref a),v1,some (.ref t'),v3,v4,v5,some (.ref D1'),some (.ref D2'),some (.int (Mir.cK (Mir.aS rs)))]∧H7 t'=some (.tup (Mir.iV rs))∧Mir.TsT Mir.pr H7 D1' (Mir.bP (Mir.d4 rs) ks)∧H7 D2'=some (.lst (Mir.iV (Mir.aS rs)))∧D.rt=Q:=fun z hz=>by subst hz;exact⟨t,D1,D2,_,_,_,_,rfl,ht7,hT7,h7,hD⟩
      have cf:Mir.cK (Mir.aS rs)=if (Mir.aS rs).length%2=1∧1<(Mir.aS rs).length∧(1:Int) ∉ Mir.aS rs then ((Mir.aS rs).length:Int)+1 else (Mir.aS rs).length:=rfl
      refine⟨_,rfl,D1,_,rfl,.inl (SqL.of d17),_,_,rfl,rfl,by show (0:Int)<2;decide,rfl,_,rfl,?_⟩
      dsimp only
      rw[dml]
      by_cases c1:(Mir.aS rs).length%2=1
      ·refine iF (yM (by omega)) ?_
       refine⟨_,rfl,D1,_,rfl,.inl (SqL.of d17),_,_,rfl,rfl,_,rfl,?_⟩
       dsimp only
       rw[dml]
       by_cases c2:1<(Mir.aS rs).length
       ·refine iF (decide_eq_true (by omega)) ?_
        refine⟨_,rfl,D2,_,rfl,.inl (SqL.of h7),rfl,Mir.tL _,_,rfl,?_⟩
        rw[Mir.xr]
        by_cases c3:(1:Int)∈Mir.aS rs
        ·rw[decide_eq_true c3]
         exact cJ (fin _ (by rw[cf,if_neg fun z=>z.2.2 c3]))
        ·rw[decide_eq_false c3]
         exact gw ⟨_,rfl,_,_,rfl,rfl,fin _ (by rw[cf,if_pos ⟨c1,c2,c3⟩])⟩
       ·exact hV (decide_eq_false (by omega)) (cJ (fin _ (by rw[cf,if_neg fun z=>c2 z.2.1])))
      ·exact hV (tf (by omega)) (cJ (fin _ (by rw[cf,if_neg fun z=>c1 z.1])))
   refine⟨_,rfl,_,_,rfl,rfl,⟨by decide,by decide⟩,_,_,rfl,rfl,(by show (0:Int)<3;decide),rfl,_,rfl,?_⟩
   refine fR (fun h1=>?_) (fun h1=>?_)
   ·refine⟨_,rfl,_,_,rfl,rfl,⟨by decide,by decide⟩,_,rfl,fun t2 H3 rs2 s3 ht2 Bd hl2=>?_⟩
    exact⟨t2,rs2,c0,rfl,ht2,Bd,hD⟩
   ·exact⟨t,rs,c0,rfl,ht,fit,hD⟩
  refine⟨_,rfl,a,ns,0,rfl,hS,fun c0=>?_⟩
  refine⟨_,rfl,_,rfl,_,_,rfl,rfl,(by show (0:Int)<11;decide),?_⟩
  dsimp only
  obtain⟨n,hm⟩:∃ many:Nat,c0%11=many:=⟨(c0%11).toNat,by omega⟩
  rw[hm]
  refine⟨a,ns,1,n,rfl,hS,by omega,fun t H1 rs s1 ht hrl fit=>?_⟩
  refine⟨_,rfl,_,_,rfl,rfl,⟨by decide,by decide⟩,_,_,rfl,rfl,(by show (0:Int)<3;decide),rfl,_,rfl,?_⟩
  refine fR (fun h1=>?_) (fun h1=>?_)
  ·have g0:0≤c0/33%16:=Int.emod_nonneg _ (by decide)
   have g1:c0/33%16<16:=Int.emod_lt_of_pos _ (by decide)
   obtain⟨r,hr2⟩:∃ r:Nat,5+c0/33%16=r:=⟨(5+c0/33%16).toNat,by omega⟩
   refine⟨_,rfl,_,rfl,_,_,rfl,rfl,⟨by decide,by decide⟩,_,_,rfl,rfl,(by show (0:Int)<16;decide),_,_,rfl,rfl,?_⟩
   dsimp only
   rw[hr2]
   refine⟨a,ns,1,r,rfl,s1.seq hS,hlen,by omega,by omega,fun t2 H2 rs2 s2 ht2 Cb Bd=>?_⟩
   exact⟨t2,rs2,c0,rfl,s2.seq (s1.seq hS),ht2,Bd,rfl⟩
  ·exact⟨t,rs,c0,rfl,s1.seq hS,ht,fit,rfl⟩
end
theorem us0 {R:List Value→Prop}(h:∀ _:Unit,R [])(us:List Value)(e:us.length=0):R us:=(List.length_eq_zero_iff.mp e) ▸ h ()
theorem us1 {R:List Value→Prop}(h:∀ x0:Value,R [x0])(us:List Value)(e:us.length=1):R us:=by
 obtain⟨a,r,rfl⟩:=List.exists_cons_of_length_eq_add_one e
 exact us0 (R:=fun r=>R (a::r)) (fun _=>h a) r (Nat.succ.inj e)
theorem us2 {R:List Value→Prop}(h:∀ x0 x1:Value,R [x0,x1])(us:List Value)(e:us.length=2):R us:=by
 obtain⟨a,r,rfl⟩:=List.exists_cons_of_length_eq_add_one e
 exact us1 (R:=fun r=>R (a::r)) (h a) r (Nat.succ.inj e)
theorem us3 {R:List Value→Prop}(h:∀ x0 x1 x2:Value,R [x0,x1,x2])(us:List Value)(e:us.length=3):R us:=by
 obtain⟨a,r,rfl⟩:=List.exists_cons_of_length_eq_add_one e
 exact us2 (R:=fun r=>R (a::r)) (h a) r (Nat.succ.inj e)
theorem us4 {R:List Value→Prop}(h:∀ x0 x1 x2 x3:Value,R [x0,x1,x2,x3])(us:List Value)(e:us.length=4):R us:=by
 obtain⟨a,r,rfl⟩:=List.exists_cons_of_length_eq_add_one e
 exact us3 (R:=fun r=>R (a::r)) (h a) r (Nat.succ.inj e)
theorem fn1 (x:Str)(st:Stmt)(p0:Str){K:PySem.W.Frag}{h:Heap}{mg:Str→Option Value}{f:Addr}{od an:Option Addr}{sl:Array (Option Value)}{oc kV dc pm cd ct:Value}(X:K.In h)(G:h.Ns mainGlobals mg)(a:PySem.W.nsIn K mainGlobals x=some (some (.ref f)))(l:K.lookup f=some ⟨oc,od,.func (PySem.W.fnOf x x (bF st) (bB st) (aA st) .none kV dc pm an cd ct),sl⟩)(c:PySem.W.codeIn K cd x=true)(k:PySem.W.keepIn K (.ref f)=true)(hb:∀ (kV doc pm:Value) (an:Option Addr) (cdv ct:Value) (x0:Value),bindArgs (PySem.W.fnOf x x (bF st) (bB st) (aA st) .none kV doc pm an cdv ct) ⟨[x0],[]⟩=pure (List.zip [p0] [x0])):Fn K mg x st [p0] f (PySem.W.fnOf x x (bF st) (bB st) (aA st) .none kV dc pm an cd ct) :=
 Fn.mk' (oe (st:=st) l c k) (fun kV doc pm an cdv ct us hl=>us1 (R:=fun us=>bindArgs _ ⟨us,[]⟩=pure (List.zip _ us)) (hb kV doc pm an cdv ct) us hl) (PySem.W.mg_of X G a)
theorem fn2 (x:Str)(st:Stmt)(p0 p1:Str){K:PySem.W.Frag}{h:Heap}{mg:Str→Option Value}{f:Addr}{od an:Option Addr}{sl:Array (Option Value)}{oc kV dc pm cd ct:Value}(X:K.In h)(G:h.Ns mainGlobals mg)(a:PySem.W.nsIn K mainGlobals x=some (some (.ref f)))(l:K.lookup f=some ⟨oc,od,.func (PySem.W.fnOf x x (bF st) (bB st) (aA st) .none kV dc pm an cd ct),sl⟩)(c:PySem.W.codeIn K cd x=true)(k:PySem.W.keepIn K (.ref f)=true)(hb:∀ (kV doc pm:Value) (an:Option Addr) (cdv ct:Value) (x0 x1:Value),bindArgs (PySem.W.fnOf x x (bF st) (bB st) (aA st) .none kV doc pm an cdv ct) ⟨[x0,x1],[]⟩=pure (List.zip [p0,p1] [x0,x1])):Fn K mg x st [p0,p1] f (PySem.W.fnOf x x (bF st) (bB st) (aA st) .none kV dc pm an cd ct) :=
 Fn.mk' (oe (st:=st) l c k) (fun kV doc pm an cdv ct us hl=>us2 (R:=fun us=>bindArgs _ ⟨us,[]⟩=pure (List.zip _ us)) (hb kV doc pm an cdv ct) us hl) (PySem.W.mg_of X G a)
theorem fn3 (x:Str)(st:Stmt)(p0 p1 p2:Str){K:PySem.W.Frag}{h:Heap}{mg:Str→Option Value}{f:Addr}{od an:Option Addr}{sl:Array (Option Value)}{oc kV dc pm cd ct:Value}(X:K.In h)(G:h.Ns mainGlobals mg)(a:PySem.W.nsIn K mainGlobals x=some (some (.ref f)))(l:K.lookup f=some ⟨oc,od,.func (PySem.W.fnOf x x (bF st) (bB st) (aA st) .none kV dc pm an cd ct),sl⟩)(c:PySem.W.codeIn K cd x=true)(k:PySem.W.keepIn K (.ref f)=true)(hb:∀ (kV doc pm:Value) (an:Option Addr) (cdv ct:Value) (x0 x1 x2:Value),bindArgs (PySem.W.fnOf x x (bF st) (bB st) (aA st) .none kV doc pm an cdv ct) ⟨[x0,x1,x2],[]⟩=pure (List.zip [p0,p1,p2] [x0,x1,x2])):Fn K mg x st [p0,p1,p2] f (PySem.W.fnOf x x (bF st) (bB st) (aA st) .none kV dc pm an cd ct) :=
 Fn.mk' (oe (st:=st) l c k) (fun kV doc pm an cdv ct us hl=>us3 (R:=fun us=>bindArgs _ ⟨us,[]⟩=pure (List.zip _ us)) (hb kV doc pm an cdv ct) us hl) (PySem.W.mg_of X G a)
theorem fn4 (x:Str)(st:Stmt)(p0 p1 p2 p3:Str){K:PySem.W.Frag}{h:Heap}{mg:Str→Option Value}{f:Addr}{od an:Option Addr}{sl:Array (Option Value)}{oc kV dc pm cd ct:Value}(X:K.In h)(G:h.Ns mainGlobals mg)(a:PySem.W.nsIn K mainGlobals x=some (some (.ref f)))(l:K.lookup f=some ⟨oc,od,.func (PySem.W.fnOf x x (bF st) (bB st) (aA st) .none kV dc pm an cd ct),sl⟩)(c:PySem.W.codeIn K cd x=true)(k:PySem.W.keepIn K (.ref f)=true)(hb:∀ (kV doc pm:Value) (an:Option Addr) (cdv ct:Value) (x0 x1 x2 x3:Value),bindArgs (PySem.W.fnOf x x (bF st) (bB st) (aA st) .none kV doc pm an cdv ct) ⟨[x0,x1,x2,x3],[]⟩=pure (List.zip [p0,p1,p2,p3] [x0,x1,x2,x3])):Fn K mg x st [p0,p1,p2,p3] f (PySem.W.fnOf x x (bF st) (bB st) (aA st) .none kV dc pm an cd ct) :=
 Fn.mk' (oe (st:=st) l c k) (fun kV doc pm an cdv ct us hl=>us4 (R:=fun us=>bindArgs _ ⟨us,[]⟩=pure (List.zip _ us)) (hb kV doc pm an cdv ct) us hl) (PySem.W.mg_of X G a)
theorem walk {l:PySem.W.OpenLaw}{q:Program}{loose:List Str}{XP:(Str→Option Value)→Heap→Prop}{YP:World→Heap→Prop}{d:DefRec}{K:Params→PySem.W.Frag}(hn:l.most=some 63)(hdf:d.params.defaults=[])
  (hY:∀ (w:World) (h:Heap),YP w h→(K w.params).In h)
  (F:∀ (w:World) (mg:Str→Option Value) (fa:Addr) (h:Heap),(K w.params).In h→h.Ns mainGlobals mg→mg d.name=some (.ref fa) →
   ∃ fd:FuncData,(∀ (s:Shared) (u:Value),BindsTo s fd ⟨[u],[]⟩ [("script",u)])∧∀ base:Heap,(K w.params).In base→base.Ns mainGlobals mg→aO l.prog w (K w.params) mg base CX0 9 fa fd ["script"] (vy (K w.params))) :
  PySem.W.WalkO q loose XP YP l.row.toRowW d [] (fun f vs=>PySem.call f vs) :=
 L2.su (n:=63) (k:=9) (x:="script") (CX:=fun _=>CX0) (sp:=fun w=>vy (K w.params)) hn (by decide) hdf ⟨rfl,by decide,by decide,rfl⟩ hY F (fun _ _ a ns hl _ hS=>⟨a,ns,rfl,hS,hl,fun _=>rfl⟩) fun _ _ _ _ _ z=>z
end Law
noncomputable def PySem.W.Fast.tw9036021784568534509:=0
noncomputable def PySem.W.Fast.tw16400370367091882564:=0
noncomputable def PySem.W.Fast.tw6325066682305997672:=0
noncomputable def PySem.W.Fast.tw741554502522233710:=0
noncomputable def PySem.W.Fast.tw1211663832957184084:=0
noncomputable def PySem.W.Fast.tw4093296622892025660:=0
noncomputable def PySem.W.Fast.tw11025065302168730540:=0
noncomputable def PySem.W.Fast.tw15892658572963863831:=0
noncomputable def PySem.W.Fast.tw7821116389218358818:=0
noncomputable def PySem.W.Fast.tw15112216749101652468:=0
noncomputable def PySem.W.Fast.tw11849398612202842842:=0
noncomputable def PySem.W.Fast.tw17469004555419874653:=0
noncomputable def PySem.W.Fast.tw18387306126807244032:=0
noncomputable def PySem.W.Fast.tw17720308464751488370:=0
noncomputable def PySem.W.Fast.tw2035936554426771624:=0
noncomputable def PySem.W.Fast.tw16260542433586378292:=0
noncomputable def PySem.W.Fast.tw5877955460489835588:=0
noncomputable def PySem.W.Fast.tw16522298790659229913:=0
noncomputable def PySem.W.Fast.tw15742862935125392336:=0
noncomputable def PySem.W.Fast.tw11738056879774391552:=0
noncomputable def PySem.W.Fast.tw7689709304429739745:=0
noncomputable def PySem.W.Fast.tw16853221034200809716:=0
noncomputable def PySem.W.Fast.tw9125790917847293446:=0
noncomputable def PySem.W.Fast.tw15542580014015221824:=0
noncomputable def PySem.W.Fast.tw325760421392522209:=0
noncomputable def PySem.W.Fast.tw3957982575576677166:=0
noncomputable def PySem.W.Fast.tw1304866652693992221:=0
noncomputable def PySem.W.Fast.tw8546232543386271280:=0
noncomputable def PySem.W.Fast.tw7331651429171444816:=0
noncomputable def PySem.W.Fast.tw10519170113897728369:=0
noncomputable def PySem.W.Fast.tw17257902258739404703:=0
noncomputable def PySem.W.Fast.tw795269275324709759:=0
noncomputable def PySem.W.Fast.tw7853575808543706123:=0
noncomputable def PySem.W.Fast.tw11031354575680974589:=0
noncomputable def PySem.W.Fast.tw7523385938727582022:=0
noncomputable def PySem.W.Fast.tw6054714012527871427:=0
noncomputable def PySem.W.Fast.tw9821386185065709730:=0
noncomputable def PySem.W.Fast.tw7060389093079606200:=0
noncomputable def PySem.W.Fast.tw7128514976916401595:=0
noncomputable def PySem.W.Fast.tw11455954428105843678:=0
noncomputable def PySem.W.Fast.tw6428011083045856444:=0
noncomputable def PySem.W.Fast.tw15354985243433224800:=0
noncomputable def PySem.W.Fast.tw906771837030577680:=0
noncomputable def PySem.W.Fast.tw10310439718791083642:=0
noncomputable def PySem.W.Fast.tw14250545078204741253:=0
noncomputable def PySem.W.Fast.tw17443790767045804342:=0
noncomputable def PySem.W.Fast.tw11076037792157944451:=0
noncomputable def PySem.W.Fast.tw2405909919919696366:=0
noncomputable def PySem.W.Fast.tw16874123271759161910:=0
noncomputable def PySem.W.Fast.tw13291242439571603657:=0
noncomputable def PySem.W.Fast.tw10287931662311922425:=0
noncomputable def PySem.W.Fast.tw5633425783704264894:=0
noncomputable def PySem.W.Fast.tw13604004455376266027:=0
noncomputable def PySem.W.Fast.tw16206811494516321879:=0
noncomputable def PySem.W.Fast.tw14317846775252927631:=0
noncomputable def PySem.W.Fast.tw8368048198038199068:=0
noncomputable def PySem.W.Fast.tw3012504355482971030:=0
noncomputable def PySem.W.Fast.tw4520144812216287677:=0
noncomputable def PySem.W.Fast.tw5750649019118695499:=0
open PySem PySem.W PyProof.Rows
set_option maxRecDepth 100000 in
set_option maxHeartbeats 0 in
theorem PySem.Challenge.cw_claspwork_k49_ends_and_legs_holds : PySem.Challenge.rw_claspwork_k49_ends_and_legs.Holds := by
 w_on;o_law;k_head;(case hw=>w_witness2)
 k_fill
 refine Law.walk (l:=PySem.Challenge.rw_claspwork_k49_ends_and_legs) rfl rfl (fun w h Y=>PySem.W.kIn_of Y) ?F
 case F =>
  intro w mg fa h X G hmg
  have F0:=Law.fn1 "framed" Law.d5 "row" X G (by k_is) (by k_is) (by k_is) (by k_is) fun _ _ _ _ _ _ _=>rfl
  have F1:=Law.fn1 "open_gaps" Law.d6 "row" X G (by k_is) (by k_is) (by k_is) (by k_is) fun _ _ _ _ _ _ _=>rfl
  have F2:=Law.fn1 "hung_together" Law.bW "pairs" X G (by k_is) (by k_is) (by k_is) (by k_is) fun _ _ _ _ _ _ _=>rfl
  have F3:=Law.fn1 "kin_spans" Law.cz "row" X G (by k_is) (by k_is) (by k_is) (by k_is) fun _ _ _ _ _ _ _=>rfl
  have F4:=Law.fn2 "kin_end" Law.dH "numbers" "first" X G (by k_is) (by k_is) (by k_is) (by k_is) fun _ _ _ _ _ _ _ _=>rfl
  have F5:=Law.fn1 "gap_kins" Law.fz "row" X G (by k_is) (by k_is) (by k_is) (by k_is) fun _ _ _ _ _ _ _=>rfl
  have F6:=Law.fn1 "knots_in" Law.dI "row" X G (by k_is) (by k_is) (by k_is) (by k_is) fun _ _ _ _ _ _ _=>rfl
  have F7:=Law.fn1 "web_of" Law.hZ "kins" X G (by k_is) (by k_is) (by k_is) (by k_is) fun _ _ _ _ _ _ _=>rfl
  have F8:=Law.fn2 "shortest_around" Law.bJ "chain" "kins" X G (by k_is) (by k_is) (by k_is) (by k_is) fun _ _ _ _ _ _ _ _=>rfl
  have F9:=Law.fn1 "thinned_web" Law.bX "row" X G (by k_is) (by k_is) (by k_is) (by k_is) fun _ _ _ _ _ _ _=>rfl
  have F10:=Law.fn2 "spare_things" Law.cA "web" "knots" X G (by k_is) (by k_is) (by k_is) (by k_is) fun _ _ _ _ _ _ _ _=>rfl
  have F11:=Law.fn1 "ends_of" Law.fh "web" X G (by k_is) (by k_is) (by k_is) (by k_is) fun _ _ _ _ _ _ _=>rfl
  have F12:=Law.fn2 "leg_from" Law.fA "end" "web" X G (by k_is) (by k_is) (by k_is) (by k_is) fun _ _ _ _ _ _ _ _=>rfl
  have F13:=Law.fn1 "knot_ends" Law.d7 "row" X G (by k_is) (by k_is) (by k_is) (by k_is) fun _ _ _ _ _ _ _=>rfl
  have F14:=Law.fn1 "knot_legs" Law.cT "row" X G (by k_is) (by k_is) (by k_is) (by k_is) fun _ _ _ _ _ _ _=>rfl
  have F15:=Law.fn1 "knot_cost" Law.d8 "row" X G (by k_is) (by k_is) (by k_is) (by k_is) fun _ _ _ _ _ _ _=>rfl
  have F16:=Law.fn1 "legs_cost" Law.d9 "legs" X G (by k_is) (by k_is) (by k_is) (by k_is) fun _ _ _ _ _ _ _=>rfl
  have F17:=Law.fn2 "_law_cell_at" Law.cM "script" "k" X G (by k_is) (by k_is) (by k_is) (by k_is) fun _ _ _ _ _ _ _ _=>rfl
  have F18:=Law.fn3 "_law_row_of_kins" Law.b9 "script" "at" "many" X G (by k_is) (by k_is) (by k_is) (by k_is) fun _ _ _ _ _ _ _ _ _=>rfl
  have F19:=Law.fn3 "_law_inflated" Law.dm "script" "at" "room" X G (by k_is) (by k_is) (by k_is) (by k_is) fun _ _ _ _ _ _ _ _ _=>rfl
  have F20:=Law.fn1 "_law_whole_number" Law.bu "found" X G (by k_is) (by k_is) (by k_is) (by k_is) fun _ _ _ _ _ _ _=>rfl
  have F21:=Law.fn2 "_law_put_in" Law.dq "row" "spot" X G (by k_is) (by k_is) (by k_is) (by k_is) fun _ _ _ _ _ _ _ _=>rfl
  have F22:=Law.fn1 "_law_nests" Law.fJ "cell" X G (by k_is) (by k_is) (by k_is) (by k_is) fun _ _ _ _ _ _ _=>rfl
  have F23:=Law.fn1 "_law_chains" Law.dt "kins" X G (by k_is) (by k_is) (by k_is) (by k_is) fun _ _ _ _ _ _ _=>rfl
  have F24:=Law.fn2 "_law_above" Law.cU "kins" "chain" X G (by k_is) (by k_is) (by k_is) (by k_is) fun _ _ _ _ _ _ _ _=>rfl
  have F25:=Law.fn3 "_law_way_up" Law.dv "kins" "chains" "kin" X G (by k_is) (by k_is) (by k_is) (by k_is) fun _ _ _ _ _ _ _ _ _=>rfl
  have F26:=Law.fn2 "_law_between" Law.cO "one" "two" X G (by k_is) (by k_is) (by k_is) (by k_is) fun _ _ _ _ _ _ _ _=>rfl
  have F27:=Law.fn2 "_law_web" Law.iB "kins" "knots" X G (by k_is) (by k_is) (by k_is) (by k_is) fun _ _ _ _ _ _ _ _=>rfl
  have F28:=Law.fn3 "_law_leg" Law.iC "links" "knots" "end" X G (by k_is) (by k_is) (by k_is) (by k_is) fun _ _ _ _ _ _ _ _ _=>rfl
  have F29:=Law.fn4 "_law_told" Law.gJ "row" "due" "legs_due" "cost" X G (by k_is) (by k_is) (by k_is) (by k_is) fun _ _ _ _ _ _ _ _ _ _=>rfl
  have F30:=Law.fn1 "law" Law.xE "script" X G (by k_is) (by k_is) (by k_is) (by k_is) fun _ _ _ _ _ _ _=>rfl
  cases hmg.symm.trans F30.g
  refine'⟨_,fun s v=>.of_eq rfl,fun base _ _=>Law.Bc ⟨PySem.W.mg_none_of X G (by k_is),PySem.W.mg_none_of X G (by k_is),PySem.W.mg_none_of X G (by k_is),PySem.W.mg_none_of X G (by k_is),PySem.W.mg_none_of X G (by k_is),PySem.W.mg_none_of X G (by k_is),PySem.W.mg_none_of X G (by k_is),PySem.W.mg_none_of X G (by k_is),PySem.W.mg_none_of X G (by k_is),PySem.W.mg_none_of X G (by k_is),PySem.W.mg_none_of X G (by k_is),PySem.W.mg_none_of X G (by k_is),PySem.W.mg_none_of X G (by k_is),PySem.W.mg_none_of X G (by k_is)⟩ F0 F1 F2 F3 F4 F5 F6 F7 F8 F9 F10 F11 F12 F13 F14 F15 F16 F17 F18 F19 F20 F21 F22 F23 F24 F25 F26 F27 F28 F29 F30⟩

